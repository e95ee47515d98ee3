import PyProof.Rows.All
import Wide.All
import OpenK.AllK
import Wide.FinOn
import HandS.ForMost
import HandS.ForExc
import HandS.GenOver
import HandS.AnyAll
import HandS.JoinGen
import HandS.Deep
import HandS.SetFor
import HandS.Strs
import PyProof.NeData
import HandS.Zip
import HandS.DictComp
import HandS.DictTup
import HandS.TupAny
import KE.GoesEnum
import PyProof.Rows.SumGenD
import HandS.Walk
import HandS.Words
import HandS.Style
import KE.GoesZip
import HandS.SortInts
import KE.GoesMore
import HandS.Base
import HandS.Iter
import HandS.Conv
import HandS.Sort
import PyProof.ReprLen
import HandS.IsInst
import HandS.TryOnly
import HandS.EndBits
import HandS.EndTab
import HandS.Head0
import HandS.Head1
import HandS.Head2
import HandS.HeadHook1
import HandS.HeadHook2
import HandS.HeadHook3
import HandS.HeadHook4
import Lean
import PySem.Challenge.RW_toldreasons_k05_answers_by_trying
set_option Elab.async false
set_option linter.all false
set_option maxRecDepth 100000
set_option maxHeartbeats 4000000
/-! generator expressions whose element may call: the frame's run, turn by turn -/
namespace GX
open PySem PySem.Spec PyProof.Rows L2
/-- what stands ahead of turn i -/
structure GAt (X : Cx) (pl : List (Addr × Obj)) (fp : List Addr) (tn : Nat → Heap → Prop) (W : Nat → L2.St → Hp → Prop) (gz : Nat) (i : Nat) (s : Shared) : Prop where
  ex : ∃ σ H, Inv X pl σ H s ∧ tn i s.heap ∧ (∀ b ∈ fp, FpOk X pl H b) ∧ W i σ H
  gs : gz < s.gens.size
/-- what is told where an item is handed out -/
def GYp (X : Cx) (pl : List (Addr × Obj)) (fp : List Addr) (tn : Nat → Heap → Prop) (W : Nat → L2.St → Hp → Prop) (gz n : Nat) (F : Nat → V → Prop) : Protocol := fun m s₀ v s kap =>
  ∃ (i : Nat) (x : V), m + 1 + i = n ∧ RelV x v ∧ F i x ∧ GAt X pl fp tn W gz (i + 1) s ∧ ∀ s'', GAt X pl fp tn W gz (i + 1) s'' → kap (.send .none) s''
def GEnd (X : Cx) (pl : List (Addr × Obj)) (W : Nat → L2.St → Hp → Prop) (gz n : Nat) (s : Shared) : Prop := (∃ σ H, Inv X pl σ H s ∧ W n σ H) ∧ gz < s.gens.size
abbrev loopC (target elt iter : Expr) (scope : Scope) (pos : Pos) (it : Addr) (env : Env) : Code := .compLoop (.GeneratorExp elt [⟨target, iter, [], 0⟩] scope pos) 0 (.ref it) .none env
section
variable {X : Cx} {pl : List (Addr × Obj)} {A : Around} {target elt iter : Expr} {scope : Scope} {pos : Pos} {it : Addr} {fp : List Addr} {tn : Nat → Heap → Prop} {J : It} {g : TG} {te : TE} {n gz : Nat} {W : Nat → L2.St → Hp → Prop} {F : Nat → V → Prop}
theorem gen_loop (hX : X.A = A.over (loopC target elt iter scope pos it X.env) []) (hc : X.calm = true) (hco : X.env.scope.isCoroutine = false) (hxe : ∀ e s, X.xe e s → False)
    (T : Turn X.prog X.w X.K target J fp it tn) (hg : PG X target g) (he : PE X elt te)
    (step : ∀ i σ H, i < n → W i σ H → J.go i H ∧ ∀ x H', J.yld i H x H' → g x σ H' fun σ2 H2 => te σ2 H2 fun v H3 => F i v ∧ W (i + 1) σ2 H3) (stop : ∀ σ H, W n σ H → J.stop n H) :
    ∀ (k i : Nat) (s₀ s : Shared), n - i = k → i ≤ n → GAt X pl fp tn W gz i s →
      Seg (model X.prog X.w) A (fun m _ r s₁ => r = .ok .next ∧ (m = 0 ∧ GEnd X pl W gz n s₁)) (GYp X pl fp tn W gz n F) k s₀ (loopC target elt iter scope pos it X.env) ((model X.prog X.w).den (loopC target elt iter scope pos it X.env)) [] s := by
  intro k
  induction k with
  | zero =>
    intro i s₀ s hk hi ⟨⟨σ, H, I, st, fr, w⟩, hgs⟩
    have e : i = n := by omega
    subst e
    show Seg _ A _ _ _ s₀ _ ((compTurn (.GeneratorExp elt [⟨target, iter, [], 0⟩] scope pos) 0 (.ref it) .none X.env).onRaise (leaving X.env)) [] s
    rw [compTurn_gen, Sem.onRaise_eq_wrap]
    refine seg_bind_wrap (wpAny_standAt (seg_bind_wrap ?_))
    rw [← hX]
    refine GenW.wpAny_gsz (n := gz + 1) hgs (wpAny_mono (T.done X rfl rfl rfl hc i pl s σ H (fun _ _ => False) I fr st (stop σ H w)) (fun r s1 ⟨hr, I1⟩ hz => ?_) fun _ _ z => z.elim)
    subst hr
    exact seg_end (.ok .next) ⟨rfl, rfl, ⟨σ, H, I1, w⟩, hz⟩
  | succ k ih =>
    intro i s₀ s hk hi ⟨⟨σ, H, I, st, fr, w⟩, hgs⟩
    have lt : i < n := by omega
    obtain ⟨go, turn⟩ := step i σ H lt w
    have stat : ∀ {H' : Hp}, (∀ b ∈ fp, H' b = none) → ∀ b ∈ fp, FpOk X pl H' b := fun hn b hb => ⟨hn b hb, (fr b hb).2⟩
    show Seg _ A _ _ _ s₀ _ ((compTurn (.GeneratorExp elt [⟨target, iter, [], 0⟩] scope pos) 0 (.ref it) .none X.env).onRaise (leaving X.env)) [] s
    rw [compTurn_gen, Sem.onRaise_eq_wrap]
    refine seg_bind_wrap (wpAny_standAt (seg_bind_wrap ?_))
    rw [← hX]
    refine GenW.wpAny_gsz (n := gz + 1) hgs (wpAny_mono (T.item X rfl rfl rfl hc i pl s σ H (fun _ _ => False) I fr st go) (fun r s1 ⟨u, hr, h1⟩ z1 => ?_) fun _ _ z => z.elim)
    subst hr
    refine seg_bind_wrap ?_
    rw [← hX]
    refine GenW.wpAny_gsz (n := gz + 1) z1 (wpAny_mono h1 (fun _ s2 ⟨x, H2, I2, r2, y2, st2, fr2⟩ z2 => ?_) fun _ _ z => z.elim)
    have I2' := I2.pinned (stat fr2) (T.obj _ _ st2)
    refine seg_bind_wrap ?_
    rw [← hX]
    refine GenW.wpAny_gsz (n := gz + 1) z2 (wpAny_mono (hg.run _ s2 σ H2 x u _ I2' r2 (turn x H2 y2)) (fun _ s3 ⟨σ3, H3, I3, q3⟩ z3 => ?_) fun e s' z => (hxe e s' z).elim)
    refine seg_bind_wrap ?_
    rw [← hX]
    simp only [List.forIn_nil]
    refine wpAny_pure ?_
    simp only [if_true]
    have hy : ∀ v, yieldOut X.env v = yieldValue v := fun v => by simp only [yieldOut, hco, Bool.false_eq_true, if_false]
    simp only [hy]
    rw [Sem.bind_eq_wrap', Sem.bind_eq_wrap', Sem.wrap_wrap, Sem.wrap_wrap]
    refine seg_wrap ?_
    rw [← hX]
    refine GenW.wpAny_gsz (n := gz + 1) z3 (wpAny_mono (he.run _ s3 σ3 H3 _ I3 q3) (fun y s4 ⟨v, H4, I4, r4, hF, w4⟩ z4 => ?_) fun e s' z => (hxe e s' z).elim)
    have same : ∀ b ∈ fp, ∀ o, s2.heap.get? b = some o → s4.heap.get? b = some o ∧ H4 b = none := fun b hb o e => by
      have q := I4.pin (b, o) (List.mem_append_right _ (List.mem_append_right _ (mem_pinsAt hb e)))
      exact ⟨q.1, q.2.1⟩
    have at4 : GAt X pl fp tn W gz (i + 1) s4 := ⟨⟨σ3, H4, I4.unpinned, T.keep _ _ _ st2 fun b hb o e => (same b hb o e).1, stat fun b hb => by
      obtain ⟨o, e, _⟩ := T.obj _ _ st2 b hb
      exact (same b hb o e).2, w4⟩, z4⟩
    refine seg_at (seg_yield rfl rfl rfl ⟨i, v, by omega, r4, hF, at4, fun s5 at5 => ?_⟩)
    exact seg_again rfl (ih (i + 1) s5 s5 (by omega) (by omega) at5)
abbrev startC (target elt iter : Expr) (scope : Scope) (pos : Pos) (it : Addr) (env : Env) : Code := .compStart (.GeneratorExp elt [⟨target, iter, [], 0⟩] scope pos) 0 (.ref it) .none env
theorem gen_start (hX : X.A = A.over (loopC target elt iter scope pos it X.env) []) (hc : X.calm = true) (hco : X.env.scope.isCoroutine = false) (hxe : ∀ e s, X.xe e s → False)
    (T : Turn X.prog X.w X.K target J fp it tn) (hg : PG X target g) (he : PE X elt te)
    (step : ∀ i σ H, i < n → W i σ H → J.go i H ∧ ∀ x H', J.yld i H x H' → g x σ H' fun σ2 H2 => te σ2 H2 fun v H3 => F i v ∧ W (i + 1) σ2 H3) (stop : ∀ σ H, W n σ H → J.stop n H)
    (s₀ s : Shared) (h : GAt X pl fp tn W gz 0 s) :
    Seg (model X.prog X.w) A (fun m _ r s₁ => r = .ok .next ∧ (m = 0 ∧ GEnd X pl W gz n s₁)) (GYp X pl fp tn W gz n F) n s₀ (startC target elt iter scope pos it X.env) ((model X.prog X.w).den (startC target elt iter scope pos it X.env)) [] s := by
  have loop : Seg (model X.prog X.w) A (fun m _ r s₁ => r = .ok .next ∧ (m = 0 ∧ GEnd X pl W gz n s₁)) (GYp X pl fp tn W gz n F) n s₀ (loopC target elt iter scope pos it X.env) ((model X.prog X.w).den (loopC target elt iter scope pos it X.env)) [] s :=
    gen_loop hX hc hco hxe T hg he step stop n 0 s₀ s (Nat.sub_zero n) (Nat.zero_le n) h
  obtain ⟨σ, H, I, st, fr, w⟩ := h.ex
  show Seg _ A _ _ _ s₀ _ ((compStart (.GeneratorExp elt [⟨target, iter, [], 0⟩] scope pos) 0 (.ref it) .none X.env).onRaise (leaving X.env)) [] s
  unfold compStart
  rw [Sem.onRaise_eq_wrap]
  refine seg_bind_wrap (m := ask) (wpAny_askSetting ?_)
  split
  · exact seg_again rfl loop
  · refine seg_bind_wrap (wpAny_rule ?_)
    refine seg_bind_wrap (wpAny_standAt ?_)
    refine seg_bind_wrap (T.self _ 0 s _ _ st ?_)
    exact seg_again rfl loop
end
end GX

set_option Elab.async false
set_option linter.all false
set_option maxRecDepth 100000
set_option maxHeartbeats 4000000
/-! what walks such a generator: next, all, any -/
namespace GX
open PySem PySem.Spec PyProof.Rows L2
theorem bare_set {gens : Array GenState} {g : Nat} {x : GenState} (h : AllBare gens) (hx : x.bare = true) : AllBare (gens.setIfInBounds g x) := fun y hy => by
  obtain ⟨i, hi, e⟩ := Array.mem_iff_getElem.mp hy
  rw [← e, Array.getElem_setIfInBounds (by simpa using hi)]
  split
  · exact hx
  · exact h _ (Array.getElem_mem _)
theorem inv_gens {X : Cx} {pl : List (Addr × Obj)} {σ : L2.St} {H : Hp} {s : Shared} (I : Inv X pl σ H s) {gens : Array GenState} (hb : AllBare gens) : Inv X pl σ H { s with gens := gens } :=
  ⟨I.ok, I.os, hb, I.base, I.loc, I.cell, I.free, I.freeC, I.pin, I.hok, I.len⟩
section
variable {X : Cx} {pl : List (Addr × Obj)} {A : Around} {fp : List Addr} {tn : Nat → Heap → Prop} {n gz : Nat} {W : Nat → L2.St → Hp → Prop} {F : Nat → V → Prop}
theorem GAt.set {i : Nat} {s : Shared} (h : GAt X pl fp tn W gz i s) {x : GenState} (hx : x.bare = true) : GAt X pl fp tn W gz i (s.setGen gz x) := by
  obtain ⟨⟨σ, H, I, st, fr, w⟩, hg⟩ := h
  refine ⟨⟨σ, H, inv_gens I (bare_set I.bare hx), st, fr, w⟩, ?_⟩
  show gz < (s.gens.setIfInBounds gz x).size
  rw [Array.size_setIfInBounds]
  exact hg
/-- the generator at a stands ahead of turn j -/
structure GRun (X : Cx) (pl : List (Addr × Obj)) (A : Around) (fp : List Addr) (tn : Nat → Heap → Prop) (n gz : Nat) (W : Nat → L2.St → Hp → Prop) (F : Nat → V → Prop) (j : Nat) (s : Shared) : Prop where
  at_ : GAt X pl fp tn W gz j s
  run : ∃ gs, s.gens[gz]? = some gs ∧ ∀ s'', GAt X pl fp tn W gz j s'' →
    gs.Goes (model X.prog X.w) A.in1 (fun m _ r s₁ => r = .ok .next ∧ (m = 0 ∧ GEnd X pl W gz n s₁)) (GYp X pl fp tn W gz n F) (n - j) (.send .none) s''
theorem GAt.limit {i : Nat} {s : Shared} (h : GAt X pl fp tn W gz i s) : s.heap.NoLimit := by
  obtain ⟨⟨σ, H, I, _⟩, _⟩ := h
  exact I.nolimit
theorem GAt.gen {i : Nat} {s : Shared} {a : Addr} {oa : Obj} (h : GAt X pl fp tn W gz i s) (hm : (a, oa) ∈ pl) : s.heap.get? a = some oa := by
  obtain ⟨⟨σ, H, I, _⟩, _⟩ := h
  exact (I.pin (a, oa) (List.mem_append_right _ hm)).1
theorem next_item {a : Addr} {j : Nat} {s : Shared} {Q : Option Value → Shared → Prop} {E : Value → Shared → Prop} (hh : A.handled = none) (hroom : A.depth < recursionLimit) (hgen : ∀ i s, GAt X pl fp tn W gz i s → s.heap.IsGen a gz) (hj : j < n)
    (h : GRun X pl A fp tn n gz W F j s) (hQ : ∀ x v s', RelV x v → F j x → GRun X pl A fp tn n gz W F (j + 1) s' → Q (some v) s') : wpAny (model X.prog X.w) A (pyNext (.ref a)) Q E s := by
  obtain ⟨at_, gs, hgs, hgo⟩ := h
  obtain ⟨m, hm⟩ : ∃ m, n - j = m + 1 := ⟨n - j - 1, by omega⟩
  rw [hm] at hgo
  refine wpAny_pyNext_genexpQ (P := fun m _ s₁ => m = 0 ∧ GEnd X pl W gz n s₁) hh at_.limit hroom (hgen _ _ at_) hgs (hgo _ (at_.set rfl)) (fun v s₁ gs' hb hv => ?_) (fun s₁ hp h' hk => ?_)
  · obtain ⟨i, x, hi, rv, hF, a1, kap⟩ := hv
    have e : i = j := by omega
    subst e
    refine hQ x v _ rv hF ⟨a1.set hb, gs', ?_, fun s'' hs => ?_⟩
    · show (s₁.gens.setIfInBounds gz gs')[gz]? = some gs'
      rw [Array.getElem?_setIfInBounds_self, if_pos a1.gs]
    · have e2 : n - (i + 1) = m := by omega
      rw [e2]
      exact kap s'' hs
  · exact absurd hp.1 (Nat.succ_ne_zero m)
theorem next_done {a : Addr} {s : Shared} {Q : Option Value → Shared → Prop} {E : Value → Shared → Prop} (hh : A.handled = none) (hroom : A.depth < recursionLimit) (hgen : ∀ i s, GAt X pl fp tn W gz i s → s.heap.IsGen a gz)
    (h : GRun X pl A fp tn n gz W F n s) (hQ : ∀ σ H s', Inv X pl σ H s' → W n σ H → Q none s') : wpAny (model X.prog X.w) A (pyNext (.ref a)) Q E s := by
  obtain ⟨at_, gs, hgs, hgo⟩ := h
  rw [Nat.sub_self] at hgo
  refine wpAny_pyNext_genexpQ (P := fun m _ s₁ => m = 0 ∧ GEnd X pl W gz n s₁) hh at_.limit hroom (hgen _ _ at_) hgs (hgo _ (at_.set rfl)) (fun v s₁ gs' hb hv => ?_) (fun s₁ hp h' hk => ?_)
  · obtain ⟨i, x, hi, rv, hF, a1, kap⟩ := hv
    exact (kap s₁ a1).elim
  · obtain ⟨_, ⟨σ, H, I, w⟩, _⟩ := hp
    exact hQ σ H _ ((inv_gens I (bare_set I.bare rfl)).kept (h' := h') (t' := s₁.toks) hk) w
/-- all: the walk of a generator -/
theorem all_loop {a : Addr} (hh : A.handled = none) (hroom : A.depth < recursionLimit) (hgen : ∀ i s, GAt X pl fp tn W gz i s → s.heap.IsGen a gz) (tr : Nat → Bool) {R : Result → Shared → Prop}
    (hF : ∀ i x, i < n → F i x → x = .bl (tr i)) (hR : ∀ i σ H s', i ≤ n → Inv X pl σ H s' → W i σ H → R (.ok (.ret (.bool ((List.range n).all tr)))) s') :
    ∀ (k j : Nat) (s : Shared), n - j = k → j ≤ n → (∀ i, i < j → tr i = true) → GRun X pl A.in1 fp tn n gz W F j s → codeAny (model X.prog X.w) A (.builtin "all.loop" ⟨[.ref a], []⟩) R s := by
  intro k
  induction k with
  | zero =>
    intro j s hk hj hb h
    have e : j = n := by omega
    subst e
    refine codeAny_builtin PySem.F.entry_all_loop ?_
    rw [Around.under_plainId PySem.F.plain_all_loop _]
    refine wpAny_bind (m := pyNext (.ref a)) (next_done hh hroom hgen h fun σ H s' I w => ?_)
    refine wpAny_bind (wpAny_rule (wpAny_pure ?_))
    have q := hR j σ H s' (Nat.le_refl j) I w
    have e2 : (List.range j).all tr = true := List.all_eq_true.mpr fun i hi => hb i (List.mem_range.mp hi)
    rw [e2] at q
    exact q
  | succ k ih =>
    intro j s hk hj hb h
    have lt : j < n := by omega
    refine codeAny_builtin PySem.F.entry_all_loop ?_
    rw [Around.under_plainId PySem.F.plain_all_loop _]
    refine wpAny_bind (m := pyNext (.ref a)) (next_item hh hroom hgen lt h fun x v s' rv hx h' => ?_)
    have ex := hF j x lt hx
    subst ex
    have ev : v = Value.bool (tr j) := rv
    subst ev
    refine wpAny_bind (wpAny_holding (wpAny_truthy_bool (wpAny_bind (wpAny_letGo ?_))))
    cases q : tr j with
    | true =>
      refine wpAny_pure ⟨plainId_quiet PySem.F.plain_all_loop _, ih (j + 1) _ (by omega) lt (fun i hi => ?_) h'⟩
      by_cases c : i = j
      · rw [c, q]
      · exact hb i (by omega)
    | false =>
      refine wpAny_bind (wpAny_rule (wpAny_pure ?_))
      obtain ⟨⟨σ, H, I, _, _, w⟩, _⟩ := h'.at_
      have z := hR (j + 1) σ H s' lt I w
      have e2 : (List.range n).all tr = false := by
        rw [Bool.eq_false_iff]
        intro e
        have := List.all_eq_true.mp e j (List.mem_range.mpr lt)
        rw [q] at this
        cases this
      rw [e2] at z
      exact z
/-- any: likewise -/
theorem any_loop {a : Addr} (hh : A.handled = none) (hroom : A.depth < recursionLimit) (hgen : ∀ i s, GAt X pl fp tn W gz i s → s.heap.IsGen a gz) (tr : Nat → Bool) {R : Result → Shared → Prop}
    (hF : ∀ i x, i < n → F i x → x = .bl (tr i)) (hR : ∀ i σ H s', i ≤ n → Inv X pl σ H s' → W i σ H → R (.ok (.ret (.bool ((List.range n).any tr)))) s') :
    ∀ (k j : Nat) (s : Shared), n - j = k → j ≤ n → (∀ i, i < j → tr i = false) → GRun X pl A.in1 fp tn n gz W F j s → codeAny (model X.prog X.w) A (.builtin "any.loop" ⟨[.ref a], []⟩) R s := by
  intro k
  induction k with
  | zero =>
    intro j s hk hj hb h
    have e : j = n := by omega
    subst e
    refine codeAny_builtin PySem.F.entry_any_loop ?_
    rw [Around.under_plainId PySem.F.plain_any_loop _]
    refine wpAny_bind (m := pyNext (.ref a)) (next_done hh hroom hgen h fun σ H s' I w => ?_)
    refine wpAny_bind (wpAny_rule (wpAny_pure ?_))
    have q := hR j σ H s' (Nat.le_refl j) I w
    have e2 : (List.range j).any tr = false := by
      rw [Bool.eq_false_iff]
      intro e
      obtain ⟨i, hi, z⟩ := List.any_eq_true.mp e
      rw [hb i (List.mem_range.mp hi)] at z
      cases z
    rw [e2] at q
    exact q
  | succ k ih =>
    intro j s hk hj hb h
    have lt : j < n := by omega
    refine codeAny_builtin PySem.F.entry_any_loop ?_
    rw [Around.under_plainId PySem.F.plain_any_loop _]
    refine wpAny_bind (m := pyNext (.ref a)) (next_item hh hroom hgen lt h fun x v s' rv hx h' => ?_)
    have ex := hF j x lt hx
    subst ex
    have ev : v = Value.bool (tr j) := rv
    subst ev
    refine wpAny_bind (wpAny_holding (wpAny_truthy_bool (wpAny_bind (wpAny_letGo ?_))))
    cases q : tr j with
    | false =>
      refine wpAny_pure ⟨plainId_quiet PySem.F.plain_any_loop _, ih (j + 1) _ (by omega) lt (fun i hi => ?_) h'⟩
      by_cases c : i = j
      · rw [c, q]
      · exact hb i (by omega)
    | true =>
      refine wpAny_bind (wpAny_rule (wpAny_pure ?_))
      obtain ⟨⟨σ, H, I, _, _, w⟩, _⟩ := h'.at_
      have z := hR (j + 1) σ H s' lt I w
      have e2 : (List.range n).any tr = true := List.any_eq_true.mpr ⟨j, List.mem_range.mpr lt, q⟩
      rw [e2] at z
      exact z
end
end GX

set_option Elab.async false
set_option linter.all false
set_option maxRecDepth 100000
set_option maxHeartbeats 4000000
/-! such a generator is made -/
namespace GX
open PySem PySem.Spec PyProof.Rows L2
/-- the frame's context -/
def gcx (X : Cx) (s4 : Shared) (H4 : Hp) (cenv : Env) (N : List Str) (ex : List Addr) (A' : Around) : Cx where
  prog := X.prog
  w := X.w
  K := X.K
  mg := X.mg
  base := X.base
  A := A'
  N := N
  s_0 := s4
  H_0 := H4
  env := cenv
  outer := X.stack
  stack := cenv :: X.stack
  ex := ex
  fn := fun _ => false
  calm := true
  pn := []
  xe := fun _ _ => False
/-- a generator expression's scope within the def that runs -/
structure GSc (env : Env) (scope : Scope) : Prop where
  kind : scope.kind = .function
  co : scope.isCoroutine = false
  cell : ∀ y ∈ scope.names, y.2 ≠ .cell
  dot : scope.names.lookup (".0" : Str) = some NameKind.local
  free : ∀ y ∈ scope.names, y.2 = .free → ∃ c, env.cells.lookup y.1 = some c
theorem clo_some {cells : List (Str × Addr)} {names : List (Str × NameKind)} (hf : ∀ y ∈ names, y.2 = .free → ∃ c, cells.lookup y.1 = some c) {x : Str} {c : Addr} (h : (cloFrom cells names []).lookup x = some c) : cells.lookup x = some c := by
  rcases cloFrom_mem (PySem.mem_of_lookup h) with z | ⟨z, e⟩
  · cases z
  · obtain ⟨d, hd⟩ := hf _ z rfl
    rw [hd] at e
    rw [e, hd]
    rfl
theorem clo_has {cells : List (Str × Addr)} {names : List (Str × NameKind)} {x : Str} (h : names.lookup x = some .free) : ∃ c, (cloFrom cells names []).lookup x = some c := by
  have z := cloFrom_has (cells := cells) (acc := []) (PySem.mem_of_lookup h)
  cases q : (cloFrom cells names []).lookup x with
  | some c => exact ⟨c, rfl⟩
  | none =>
    have := List.lookup_eq_none_iff.mp q _ z
    simp at this
section
variable {X : Cx} {pins : List (Addr × Obj)} {σ σg : L2.St} {H : Hp} {s : Shared} {scope : Scope} {N : List Str} {fp : List Addr}
theorem gcx_inv (I : Inv X pins σ H s) (S : GSc X.env scope) (hf : ∀ b ∈ fp, FpOk X pins H b) (hthere : ∀ b ∈ fp, ∃ o, s.heap.get? b = some o) {A' : Around} {code : Value} (hA : A'.handled = none) (hA2 : A'.frames = some (genEnv scope (cloFrom X.env.cells scope.names []) s.heap.objs.size code builtinsNs X.env :: X.stack))
    (hcap : ∀ (i : Nat) (x : Str) (v : V), N[i]? = some x → σg[i]? = some (some v) → scope.names.lookup x = some .free ∧ (X.env.kindOf x = some .cell ∨ X.env.kindOf x = some .free) ∧ ∃ k : Nat, X.N[k]? = some x ∧ σ[k]? = some (some v)) (hlen : σg.length = N.length)
    {h5 : Heap} {gens : Array GenState} {tk : Nat} {m : Str → Option Value} {a : Addr} {oa : Obj} (hb : AllBare gens) (keep : ∀ b o, s.heap.get? b = some o → h5.get? b = some o) (hn : h5.Ns s.heap.objs.size m) (ha : h5.get? a = some oa) (hsz : s.heap.objs.size < a) (hd : ∀ v, oa.data ≠ .cell v) :
    Inv (gcx X s H (genEnv scope (cloFrom X.env.cells scope.names []) s.heap.objs.size code builtinsNs X.env) N fp A') [(a, oa)] σg H { s with heap := h5, gens := gens, toks := tk } := by
  have sub : ∀ {x : Str} {c : Addr}, (cloFrom X.env.cells scope.names []).lookup x = some c → X.env.cells.lookup x = some c := fun h => clo_some S.free h
  have isfree : ∀ {x : Str}, scope.names.lookup x = some .cell ∨ scope.names.lookup x = some .free → scope.names.lookup x = some .free := fun {x} h => by
    rcases h with h | h
    · exact absurd rfl (S.cell _ (PySem.mem_of_lookup h))
    · exact h
  have stk : ∀ {b : Addr} {o : Obj}, b ∈ frs X.stack → b < s.heap.objs.size := fun {b o} hb => by
    rcases List.mem_cons.mp (I.stkSub b hb) with e | e
    · rw [e]
      exact I.lt
    · obtain ⟨_, o, ho, _⟩ := I.ok.funs.mem e
      exact Nat.lt_of_lt_of_le (Heap.lt_size ho) I.sz
  refine ⟨⟨I.ok.mod, S.kind, I.ok.glob, rfl, Nat.le_refl _, fun x y c h1 h2 => I.ok.inj x y c (sub h1) (sub h2), fun x h => clo_has (isfree h), (fun x c h _ => nomatch h), fun _ => hA, hA2, .inr ⟨rfl, rfl⟩, fun b hb => ⟨fun e => ?_, fun x c h => (hf b hb).2.2.2.2.1 x c (sub h)⟩, I.bs, Nat.le_trans I.ok.bsz I.sz, fun b o e hb => ?_, fun b hb hs => ?_, I.stack, I.stkFree⟩,
    rfl, hb, Un.kept keep, ⟨m, hn, fun i x v h1 h2 h3 => ?_⟩, fun x c h => ?_, I.hok.fresh (Nat.le_refl _), fun x c h => I.freeC x c (sub h), fun p hp => ?_, I.hok.kept keep, hlen⟩
  · obtain ⟨o, e2⟩ := hthere b hb
    have := Heap.lt_size e2
    rw [e] at this
    exact Nat.lt_irrefl _ this
  · rcases (hf b hb).2.2.2.1 with z | z
    · exact I.ok.noex b o e z
    · exact absurd (Nat.lt_of_lt_of_le (Heap.lt_size (I.ok.bs b o e).1) z) (Nat.lt_irrefl _)
  · rcases List.mem_cons.mp (I.stkSub b hs) with e | e
    · exact (hf b hb).2.1 e
    · exact (hf b hb).2.2.1 e
  · obtain ⟨k1, k2, j, k3, k4⟩ := hcap i x v h1 h2
    obtain ⟨mX, _, hl⟩ := I.loc
    have vis : Vis X.env.scope x := .inr k2
    obtain ⟨u, ru, lk⟩ := hl j x v k3 k4 vis
    rcases lk with ⟨z, _⟩ | ⟨_, c, hc, ic⟩
    · rcases k2 with k2 | k2
      · rw [z] at k2
        cases k2
      · rw [z] at k2
        cases k2
    · obtain ⟨c2, hc2⟩ := clo_has (cells := X.env.cells) k1
      have e := sub hc2
      rw [hc] at e
      refine ⟨u, ru, .inr ⟨.inr k1, c2, hc2, ?_⟩⟩
      rw [← Option.some.inj e]
      obtain ⟨o, ho, r⟩ := ic
      exact ⟨o, keep _ o ho, r⟩
  · obtain ⟨v, o, ho, r⟩ := I.cell x c (sub h)
    exact ⟨v, o, keep _ o ho, r⟩
  · have e : p = (a, oa) := List.mem_singleton.mp (show p ∈ ([(a, oa)] : List (Addr × Obj)) from hp)
    subst e
    refine ⟨ha, I.hok.fresh (Nat.le_of_lt hsz), Nat.ne_of_gt hsz, fun z => ?_, hd⟩
    exact Nat.lt_irrefl _ (Nat.lt_trans hsz (stk (o := oa) z))
/-- behind the generator's life the consumer goes on -/
theorem gcx_back (I : Inv X pins σ H s) (hf : ∀ b ∈ fp, FpOk X pins H b) {cenv : Env} {A' : Around} {pl : List (Addr × Obj)} {H' : Hp} {s' : Shared} (J : Inv (gcx X s H cenv N fp A') pl σg H' s') : Inv X pins σ H' s' :=
  I.call' (ch := fp) J.os J.base J.hok J.bare fun b hb => ⟨(hf b hb).2.2.2.1, (hf b hb).2.1, (hf b hb).2.2.2.2.1, (hf b hb).2.2.2.2.2⟩
end
end GX

set_option Elab.async false
set_option linter.all false
set_option maxRecDepth 100000
set_option maxHeartbeats 4000000
/-! such a generator is made and walked -/
namespace GX
open PySem PySem.Spec PyProof.Rows L2
abbrev cenvOf (X : Cx) (scope : Scope) (s4 : Shared) (code : Value) : Env := genEnv scope (cloFrom X.env.cells scope.names []) s4.heap.objs.size code builtinsNs X.env
abbrev gA (X : Cx) (target elt iter : Expr) (scope : Scope) (pos : Pos) (it : Addr) (cenv : Env) : Around := X.A.in1.in1.over (loopC target elt iter scope pos it cenv) []
/-- the context of the expression's frame, as it runs for all, any -/
abbrev gX (X : Cx) (target elt iter : Expr) (scope : Scope) (pos : Pos) (N : List Str) (s4 : Shared) (H4 : Hp) (code : Value) (fp : List Addr) (it : Addr) : Cx :=
  gcx X s4 H4 (cenvOf X scope s4 code) N fp (gA X target elt iter scope pos it (cenvOf X scope s4 code))
theorem gA_frames {X : Cx} {target elt iter : Expr} {scope : Scope} {pos : Pos} {it : Addr} {cenv : Env} (h : X.A.frames = some X.stack) : (gA X target elt iter scope pos it cenv).frames = some (cenv :: X.stack) := by
  have e : (gA X target elt iter scope pos it cenv).frames = X.A.frames.map (cenv :: ·) := by
    unfold gA Around.over Around.in1
    cases X.A.frames <;> rfl
  rw [e, h]
  rfl
theorem gA_room {X : Cx} {target elt iter : Expr} {scope : Scope} {pos : Pos} {it : Addr} {cenv : Env} {k : Nat} (h : Room (k + 1) X.A) : Room k (gA X target elt iter scope pos it cenv) := by
  refine ⟨h.hd, ?_, ?_⟩
  · have := h.dp
    show X.A.depth + 1 + 3 * k + 5 < _
    omega
  · have := h.un
    show X.A.units + 1 + 1 + 3 + 16 * k + 200 < _
    omega
/-- the captured names' slots -/
def gsl (caps : List (Option Nat)) (σ : L2.St) : L2.St := caps.map fun o => match o with
  | some k => (σ[k]?).getD none
  | none => none
structure Caps (X : Cx) (scope : Scope) (N : List Str) (caps : List (Option Nat)) : Prop where
  len : caps.length = N.length
  ok : ∀ (i k : Nat) (x : Str), caps[i]? = some (some k) → N[i]? = some x → scope.names.lookup x = some .free ∧ (X.env.kindOf x = some .cell ∨ X.env.kindOf x = some .free) ∧ X.N[k]? = some x
section
variable {X : Cx} {pins : List (Addr × Obj)} {σ : L2.St} {H : Hp} {s : Shared} {c P : Addr}
/-- the expression's code object, out of the def's table -/
theorem code_step (I : Inv X pins σ H s) (TB : GxR.TabB X.base X.mg c P) (hcode : X.env.code = .ref c) (hP : GxR.TabG H P) {pos : Pos} {q : Str} {scope : Scope} {Q : Value → Shared → Prop} {E : Value → Shared → Prop}
    (hQ : ∀ (code : Value) (s3 : Shared) (H3 : Hp), Inv X pins σ H3 s3 → GxR.Tabbed P H H3 → (∀ b o, b ≠ P → s.heap.get? b = some o → s3.heap.get? b = some o) → Q code s3) : wpAny (model X.prog X.w) X.A (genexprCode X.env pos q scope) Q E s := by
  obtain ⟨ps, hp, ht⟩ := hP
  have hget : s.heap.get? P = some { cls := .none, data := .fields ps } := I.hok P _ hp
  have cd : PySem.W.CodeHd s.heap c P := TB.code.keeps I.bk
  cases hf : codeAmong pos ps.toList with
  | some cv => exact wpAny_genexprCode_hit hcode (cd.code hget ht) hf (hQ cv s H I ⟨⟨ps, hp, ht⟩, fun _ _ => rfl⟩ fun _ _ _ e => e)
  | none =>
    refine wpAny_genexprCodeX hcode (cd.code hget ht) (cd.tab hget) hf fun c' h' tk hx hge hlt hco _ htab _ => ?_
    obtain ⟨_, _, _, _, _, _, _, _, _, _, _, _, _, _, _, _, _, _, _, htr, _⟩ := hco
    refine hQ (.ref c') { s with heap := h', toks := tk } _ (GxR.inv_tab (more := #[rawInt pos.line, rawInt pos.col, Value.ref c']) (g' := s.gens) (d' := s.drawn) I hp (fun b u hb e => hx b u hb e) htab.2 I.bare) ⟨⟨_, upd_same, htr⟩, fun b hb => upd_ne hb⟩ fun b o hb e => hx b o hb e
theorem blt_step (I : Inv X pins σ H s) (TB : GxR.TabB X.base X.mg c P) {Q : Addr → Shared → Prop} {E : Value → Shared → Prop} (hQ : Q builtinsNs s) : wpAny (model X.prog X.w) X.A (builtinsFor X.env.globals X.env.builtins) Q E s := by
  obtain ⟨m, ob, e1, e2, e3, e4, e5, e6, e7, e8⟩ := TB.bm
  exact wpAny_builtinsFor (m := X.mg) (by rw [I.ok.glob]; exact I.mod.glob.keeps I.bk) e1 e2 (I.bk _ _ e5) e6 e7 e8 hQ
/-- a generator that is ready to be walked by all, any: what is handed out at turn i is told by F, what holds ahead of it by W -/
def Made (X : Cx) (pins : List (Addr × Obj)) (σ : L2.St) (n : Nat) (W : Nat → L2.St → Hp → Prop) (F : Nat → V → Prop) (a : Addr) (s5 : Shared) : Prop :=
  ∃ (Y : Cx) (pl : List (Addr × Obj)) (fp : List Addr) (tn : Nat → Heap → Prop) (gz : Nat), Y.prog = X.prog ∧ Y.w = X.w ∧ (∀ σ' H' s', Inv Y pl σ' H' s' → Inv X pins σ H' s') ∧
    (∀ i s, GAt Y pl fp tn W gz i s → s.heap.IsGen a gz) ∧ GRun Y pl X.A.in1 fp tn n gz W F 0 s5
theorem gsl_at {caps : List (Option Nat)} {σ : L2.St} {i : Nat} {v : V} (h : (gsl caps σ)[i]? = some (some v)) : ∃ k, caps[i]? = some (some k) ∧ σ[k]? = some (some v) := by
  unfold gsl at h
  rw [List.getElem?_map] at h
  cases e : caps[i]? with
  | none =>
    rw [e] at h
    cases h
  | some o =>
    rw [e] at h
    cases o with
    | none => cases Option.some.inj h
    | some k =>
      have h2 : (σ[k]?).getD none = some v := Option.some.inj h
      refine ⟨k, rfl, ?_⟩
      cases e2 : σ[k]? with
      | none =>
        rw [e2] at h2
        cases h2
      | some u =>
        rw [e2] at h2
        have h3 : u = some v := h2
        rw [h3]
theorem gen_made {target elt iter : Expr} {scope : Scope} {gpos : Pos} {N : List Str} {caps : List (Option Nat)} {wi : TI} {g : TG} {te : TE} {k : Nat} {Q' : Value → Shared → Prop}
    (hr : Room (k + 1) X.A) (TB : GxR.TabB X.base X.mg c P) (hcode : X.env.code = .ref c) (S : GSc X.env scope) (CP : Caps X scope N caps) (hi : PI X target iter wi) (hs : ∀ v, genFold iter X.env v = pure v)
    (hg : ∀ s4 H4 code fp it, PG (gX X target elt iter scope gpos N s4 H4 code fp it) target g) (he : ∀ s4 H4 code fp it, PE (gX X target elt iter scope gpos N s4 H4 code fp it) elt te) (I : Inv X pins σ H s)
    {Rw : It → Hp → Prop} (h : wi σ H Rw) (hR : ∀ J H2, Rw J H2 → GxR.TabG H2 P ∧ ∀ H3, GxR.Tabbed P H2 H3 → ∃ (n : Nat) (W : Nat → L2.St → Hp → Prop) (F : Nat → V → Prop), W 0 (gsl caps σ) H3 ∧
      (∀ i σ' H', i < n → W i σ' H' → J.go i H' ∧ ∀ x H'', J.yld i H' x H'' → g x σ' H'' fun σ2 H4 => te σ2 H4 fun v H5 => F i v ∧ W (i + 1) σ2 H5) ∧ (∀ σ' H', W n σ' H' → J.stop n H') ∧
      ∀ a s5, Made X pins σ n W F a s5 → Q' (.ref a) s5) :
    wpAny (model X.prog X.w) X.A (eval (.GeneratorExp elt [⟨target, iter, [], 0⟩] scope gpos) X.env) Q' X.xe s := by
  refine wpAny_GeneratorExp_make S.co (closure_ok S.free) S.cell S.dot S.kind (by have := hr.dp; omega) ?_ hs
  refine wpAny_mono (hi.run pins s σ H _ I h) (fun xv s1 h1 => wpAny_mono h1 (fun itv s2 h2 => ?_) fun _ _ z => z) fun _ _ z => z
  obtain ⟨it, fp, tn, J, H2, rfl, I2, T, st2, f2, rJ⟩ := h2
  obtain ⟨hP, spec⟩ := hR J H2 rJ
  refine ⟨I2.nolimit, code_step I2 TB hcode hP fun code s3 H3 I3 tb keep3 => blt_step I3 TB fun h' hn' hs' => ?_⟩
  obtain ⟨n, W, F, w0, step, stop, hQ⟩ := spec H3 tb
  -- what is walked stands as it stood
  have nP : ∀ b ∈ fp, b ≠ P := fun b hb z => by
    obtain ⟨ps, hp, _⟩ := hP
    have := (f2 b hb).1
    rw [z, hp] at this
    cases this
  have st3 : tn 0 s3.heap := T.keep _ _ _ st2 fun b hb o e => keep3 b o (nP b hb) e
  have f3 : ∀ b ∈ fp, FpOk X pins H3 b := fun b hb => ⟨(tb.2 b (nP b hb)).trans (f2 b hb).1, (f2 b hb).2⟩
  have there : ∀ b ∈ fp, ∃ o, s3.heap.get? b = some o := fun b hb => by
    obtain ⟨o, e, _⟩ := T.obj _ _ st3 b hb
    exact ⟨o, e⟩
  have hsz : h'.objs.size = s3.heap.objs.size + 1 := by rw [hs'.1, Heap.size_push]
  have keep' : ∀ b o, s3.heap.get? b = some o → h'.get? b = some o := fun b o e => hs'.extBut b o (Nat.ne_of_lt (Heap.lt_size e)) (Heap.get?_push_of_some _ e)
  generalize hoa : ({ cls := .type "generator", data := .fields #[.int s3.gens.size 0, .str "<genexpr>" (s3.toks + 1), .str (X.env.qual ++ "<genexpr>") (s3.toks + 1 + 1)] } : Obj) = oa
  have nc : ∀ v, oa.data ≠ .cell v := fun v z => by
    rw [← hoa] at z
    cases z
  have fr : oa.isFreed = false := by
    rw [← hoa]
    rfl
  have J5 : Inv (gX X target elt iter scope gpos N s3 H3 code fp it) [(h'.objs.size, oa)] (gsl caps σ) H3 { s3 with heap := h'.push oa, gens := s3.gens.push (.fresh (startC target elt iter scope gpos it (cenvOf X scope s3 code))), toks := s3.toks + 1 + 1 + 1 } := by
    refine gcx_inv (A' := gA X target elt iter scope gpos it (cenvOf X scope s3 code)) (code := code) (N := N) I3 S f3 there hr.hd (gA_frames I3.ok.frames) (fun i x v hN hv => ?_) ?_ (by exact I3.bare.push rfl) (fun b o e => Heap.get?_push_of_some _ (keep' b o e)) (hn'.push _) (Heap.get?_push_size _ fr) (by omega) nc
    · obtain ⟨k, h1, h2⟩ := gsl_at hv
      obtain ⟨k1, k2, k3⟩ := CP.ok i k x h1 hN
      exact ⟨k1, k2, k, k3, h2⟩
    · unfold gsl
      rw [List.length_map]
      exact CP.len
  have at5 : GAt (gX X target elt iter scope gpos N s3 H3 code fp it) [(h'.objs.size, oa)] fp tn W s3.gens.size 0 { s3 with heap := h'.push oa, gens := s3.gens.push (.fresh (startC target elt iter scope gpos it (cenvOf X scope s3 code))), toks := s3.toks + 1 + 1 + 1 } := by
    refine ⟨⟨gsl caps σ, H3, J5, T.keep _ _ _ st3 fun b hb o e => Heap.get?_push_of_some _ (keep' b o e), fun b hb => ?_, w0⟩, ?_⟩
    · have fb := f3 b hb
      obtain ⟨ob, e⟩ := there b hb
      have lt := Heap.lt_size e
      refine ⟨fb.1, Nat.ne_of_lt lt, J5.ok.exfs b hb, .inl hb, (J5.ok.exf b hb).2, fun p hp => ?_⟩
      have ep : p = (h'.objs.size, oa) := List.mem_singleton.mp (show p ∈ ([(h'.objs.size, oa)] : List (Addr × Obj)) from hp)
      rw [ep]
      exact Nat.ne_of_gt (show b < h'.objs.size by rw [hsz]; exact Nat.lt_succ_of_lt lt)
    · show s3.gens.size < (s3.gens.push _).size
      rw [Array.size_push]
      omega
  refine hQ h'.objs.size _ ⟨gX X target elt iter scope gpos N s3 H3 code fp it, [(h'.objs.size, oa)], fp, tn, s3.gens.size, rfl, rfl, fun σ' H' s' J' => gcx_back I3 f3 J', fun i s' ha => ?_, at5, ⟨_, Array.getElem?_push_size .., fun s'' h'' => ⟨rfl, ?_⟩⟩⟩
  · have e := ha.gen (a := h'.objs.size) (oa := oa) List.mem_cons_self
    rw [← hoa] at e
    exact ⟨_, _, _, e, rfl, rfl, rfl⟩
  · exact gen_start (X := gX X target elt iter scope gpos N s3 H3 code fp it) (A := X.A.in1.in1) rfl rfl S.co (fun _ _ z => z) T (hg _ _ _ _ _) (he _ _ _ _ _) step stop s'' s'' h''
end
end GX

set_option Elab.async false
set_option linter.all false
set_option maxRecDepth 100000
set_option maxHeartbeats 4000000
/-! all(e for t in i), any(e for t in i) -/
namespace GX
open PySem PySem.Spec PyProof.Rows L2
/-- the reading: n turns, W ahead of each, tr what each element is -/
def tGen (P : Addr) (caps : List (Option Nat)) (wi : TI) (g : TG) (te : TE) (out : List Bool → Bool) : TE := fun σ H Q => wi σ H fun J H2 => GxR.TabG H2 P ∧ ∀ H3, GxR.Tabbed P H2 H3 → ∃ (n : Nat) (W : Nat → L2.St → Hp → Prop) (tr : Nat → Bool), W 0 (gsl caps σ) H3 ∧
  (∀ i σ' H', i < n → W i σ' H' → J.go i H' ∧ ∀ x H'', J.yld i H' x H'' → g x σ' H'' fun σ2 H4 => te σ2 H4 fun v H5 => v = .bl (tr i) ∧ W (i + 1) σ2 H5) ∧ (∀ σ' H', W n σ' H' → J.stop n H') ∧
  ∀ i σ' H', i ≤ n → W i σ' H' → Q (.bl (out ((List.range n).map tr))) H'
abbrev tAllG (P : Addr) (caps : List (Option Nat)) (wi : TI) (g : TG) (te : TE) : TE := tGen P caps wi g te fun l => l.all id
abbrev tAnyG (P : Addr) (caps : List (Option Nat)) (wi : TI) (g : TG) (te : TE) : TE := tGen P caps wi g te fun l => l.any id
section
variable {X : Cx} {c P : Addr} {target elt iter : Expr} {scope : Scope} {gpos p pos : Pos} {N : List Str} {caps : List (Option Nat)} {wi : TI} {g : TG} {te : TE} {k : Nat}
theorem pe_allG (hr : Room (k + 1) X.A) (hgl : Gl X "all") (hm : X.mg "all" = none) (TB : GxR.TabB X.base X.mg c P) (hcode : X.env.code = .ref c) (S : GSc X.env scope) (CP : Caps X scope N caps) (hi : PI X target iter wi)
    (hg : ∀ s4 H4 code fp it, PG (gX X target elt iter scope gpos N s4 H4 code fp it) target g) (he : ∀ s4 H4 code fp it, PE (gX X target elt iter scope gpos N s4 H4 code fp it) elt te)
    (hs : ∀ v, genFold iter X.env v = pure v := by intro _; rfl)
    (hst : starEach [.GeneratorExp elt [⟨target, iter, [], 0⟩] scope gpos] X.env = (false, eval (.GeneratorExp elt [⟨target, iter, [], 0⟩] scope gpos) X.env) :: starEach [] X.env := by rfl) :
    PE X (.Call (.Name "all" p) [.GeneratorExp elt [⟨target, iter, [], 0⟩] scope gpos] [] pos) (tAllG P caps wi g te) := by
  refine ⟨fun pins s σ H Q I h => wpAny_Call_Name_kw (ld_blt I hgl hm PyProof.Rows.boot_all (PyProof.Rows.callWith_builtin1 ?_ hst (by rfl)))⟩
  rw [hst]
  show wpAny _ _ (spliced ((false, eval (.GeneratorExp elt [⟨target, iter, [], 0⟩] scope gpos) X.env) :: backTo pos (starEach [] X.env))) _ _ s
  refine Calls.spliced_cons (gen_made hr TB hcode S CP hi hs hg he I h fun J H2 ⟨hP, spec⟩ => ⟨hP, fun H3 tb => ?_⟩)
  obtain ⟨n, W, tr, w0, step, stop, hQ⟩ := spec H3 tb
  refine ⟨n, W, fun i v => v = .bl (tr i), w0, step, stop, fun a s5 ⟨Y, pl, fp, tn, gz, e1, e2, back, isg, run⟩ => ?_⟩
  refine Calls.spliced_nil ?_
  refine call_function_tree PySem.F.kind_all PySem.F.plain_all PySem.F.entry_all (PySem.F.args_all1 _) ?_
  unfold Builtin.«all»
  refine wpAny_bind (m := oneArg "all" _) (wpAny_pure ?_)
  refine wpAny_bind (wpAny_pyIter_gen (isg 0 s5 run.at_) (wpAny_pure ⟨plainId_quiet PySem.F.plain_all_loop _, ?_⟩))
  rw [← e1, ← e2]
  refine all_loop hr.hd (by have := hr.dp; show X.A.depth < _; omega) isg tr (fun i x _ hx => hx) (fun i σ' H' s' hi' I' w' => ?_) n 0 s5 (Nat.sub_zero n) (Nat.zero_le n) (fun i hi' => absurd hi' (Nat.not_lt_zero i)) run
  refine ⟨.bl ((List.range n).all tr), H', back σ' H' s' I', rfl, ?_⟩
  have q : Q (.bl (((List.range n).map tr).all id)) H' := hQ i σ' H' hi' w'
  have e : ((List.range n).map tr).all id = (List.range n).all tr := by
    rw [List.all_map]
    rfl
  rw [e] at q
  exact q
theorem pe_anyG (hr : Room (k + 1) X.A) (hgl : Gl X "any") (hm : X.mg "any" = none) (TB : GxR.TabB X.base X.mg c P) (hcode : X.env.code = .ref c) (S : GSc X.env scope) (CP : Caps X scope N caps) (hi : PI X target iter wi)
    (hg : ∀ s4 H4 code fp it, PG (gX X target elt iter scope gpos N s4 H4 code fp it) target g) (he : ∀ s4 H4 code fp it, PE (gX X target elt iter scope gpos N s4 H4 code fp it) elt te)
    (hs : ∀ v, genFold iter X.env v = pure v := by intro _; rfl)
    (hst : starEach [.GeneratorExp elt [⟨target, iter, [], 0⟩] scope gpos] X.env = (false, eval (.GeneratorExp elt [⟨target, iter, [], 0⟩] scope gpos) X.env) :: starEach [] X.env := by rfl) :
    PE X (.Call (.Name "any" p) [.GeneratorExp elt [⟨target, iter, [], 0⟩] scope gpos] [] pos) (tAnyG P caps wi g te) := by
  refine ⟨fun pins s σ H Q I h => wpAny_Call_Name_kw (ld_blt I hgl hm PyProof.Rows.boot_any (PyProof.Rows.callWith_builtin1 ?_ hst (by rfl)))⟩
  rw [hst]
  show wpAny _ _ (spliced ((false, eval (.GeneratorExp elt [⟨target, iter, [], 0⟩] scope gpos) X.env) :: backTo pos (starEach [] X.env))) _ _ s
  refine Calls.spliced_cons (gen_made hr TB hcode S CP hi hs hg he I h fun J H2 ⟨hP, spec⟩ => ⟨hP, fun H3 tb => ?_⟩)
  obtain ⟨n, W, tr, w0, step, stop, hQ⟩ := spec H3 tb
  refine ⟨n, W, fun i v => v = .bl (tr i), w0, step, stop, fun a s5 ⟨Y, pl, fp, tn, gz, e1, e2, back, isg, run⟩ => ?_⟩
  refine Calls.spliced_nil ?_
  refine call_function_tree PySem.F.kind_any PySem.F.plain_any PySem.F.entry_any (PySem.F.args_any1 _) ?_
  unfold Builtin.«any»
  refine wpAny_bind (m := oneArg "any" _) (wpAny_pure ?_)
  refine wpAny_bind (wpAny_pyIter_gen (isg 0 s5 run.at_) (wpAny_pure ⟨plainId_quiet PySem.F.plain_any_loop _, ?_⟩))
  rw [← e1, ← e2]
  refine any_loop hr.hd (by have := hr.dp; show X.A.depth < _; omega) isg tr (fun i x _ hx => hx) (fun i σ' H' s' hi' I' w' => ?_) n 0 s5 (Nat.sub_zero n) (Nat.zero_le n) (fun i hi' => absurd hi' (Nat.not_lt_zero i)) run
  refine ⟨.bl ((List.range n).any tr), H', back σ' H' s' I', rfl, ?_⟩
  have q : Q (.bl (((List.range n).map tr).any id)) H' := hQ i σ' H' hi' w'
  have e : ((List.range n).map tr).any id = (List.range n).any tr := by
    rw [List.any_map]
    rfl
  rw [e] at q
  exact q
end
end GX

set_option Elab.async false
set_option linter.all false
set_option maxRecDepth 100000
set_option maxHeartbeats 4000000
/-! rules on data: ==, !=, in; sum, max, set of tuples of ints -/
namespace GX
open PySem PySem.Spec PyProof.Rows L2
/-- what may be compared so -/
def Cmp (d : PyData) : Prop := d.canLay0 = true ∧ d.depth ≤ 40
section
variable {X : Cx}
theorem op_eqDD (hu : X.A.units + 64 < cLine) : OpR X (compareOp .Eq) (fun x y H Q => ∃ d e, Dp X.K H x d ∧ Dp X.K H y e ∧ Cmp d ∧ Cmp e ∧ Q (.bl (PyData.eqv d e)) H) := by
  intro pins s σ H x y v u Q I rx ry h
  obtain ⟨d, e, hd, he, cd, ce, q⟩ := h
  obtain ⟨as, r1⟩ := Dp.reads I d x v hd rx
  obtain ⟨bs, r2⟩ := Dp.reads I e y u he ry
  have := cd.2
  exact SeqAt.compareEq_reads r1 r2 cd.1 ce.1 (by have := Nat.min_le_left d.depth e.depth; omega) ⟨.bl _, H, I, rfl, q⟩
theorem op_neDD (hu : X.A.units + 64 < cLine) : OpR X (compareOp .NotEq) (fun x y H Q => ∃ d e, Dp X.K H x d ∧ Dp X.K H y e ∧ Cmp d ∧ Cmp e ∧ Q (.bl (!PyData.eqv d e)) H) := by
  intro pins s σ H x y v u Q I rx ry h
  obtain ⟨d, e, hd, he, cd, ce, q⟩ := h
  obtain ⟨as, r1⟩ := Dp.reads I d x v hd rx
  obtain ⟨bs, r2⟩ := Dp.reads I e y u he ry
  have := cd.2
  exact SeqAt.compareNe_reads r1 r2 cd.1 ce.1 (by have := Nat.min_le_left d.depth e.depth; omega) ⟨.bl _, H, I, rfl, q⟩
/-- x in a tuple or a list of data -/
theorem op_inDD (hu : X.A.units + 64 < cLine) : OpR X (compareOp .In) (fun x y H Q => ∃ d ds, Dp X.K H x d ∧ (Dp X.K H y (.tuple ds) ∨ Dp X.K H y (.list ds)) ∧ Cmp d ∧ PyData.canLayAll0 ds = true ∧ Q (.bl (ds.any fun z => PyData.eqv z d)) H) := by
  intro pins s σ H x y v u Q I rx ry h
  obtain ⟨d, ds, hd, he, cd, ce, q⟩ := h
  obtain ⟨as, r1⟩ := Dp.reads I d x v hd rx
  have := cd.2
  have room : X.A.units + 1 + min (PyData.depthAll ds) d.depth < cLine := by
    have := Nat.min_le_right (PyData.depthAll ds) d.depth
    omega
  rcases he with he | he
  · obtain ⟨bs, r2⟩ := Dp.reads I _ y u he ry
    exact SeqAt.in_tuple_reads r2 r1 ce cd.1 room ⟨.bl _, H, I, rfl, q⟩
  · obtain ⟨bs, r2⟩ := Dp.reads I _ y u he ry
    exact SeqAt.in_list_reads r2 r1 ce cd.1 room ⟨.bl _, H, I, rfl, q⟩
theorem op_notInDD (hu : X.A.units + 64 < cLine) : OpR X (compareOp .NotIn) (fun x y H Q => ∃ d ds, Dp X.K H x d ∧ (Dp X.K H y (.tuple ds) ∨ Dp X.K H y (.list ds)) ∧ Cmp d ∧ PyData.canLayAll0 ds = true ∧ Q (.bl (!ds.any fun z => PyData.eqv z d)) H) := by
  intro pins s σ H x y v u Q I rx ry h
  obtain ⟨d, ds, hd, he, cd, ce, q⟩ := h
  obtain ⟨as, r1⟩ := Dp.reads I d x v hd rx
  have := cd.2
  have room : X.A.units + 1 + min (PyData.depthAll ds) d.depth < cLine := by
    have := Nat.min_le_right (PyData.depthAll ds) d.depth
    omega
  rcases he with he | he
  · obtain ⟨bs, r2⟩ := Dp.reads I _ y u he ry
    exact SeqAt.notIn_tuple_reads r2 r1 ce cd.1 room ⟨.bl _, H, I, rfl, q⟩
  · obtain ⟨bs, r2⟩ := Dp.reads I _ y u he ry
    exact SeqAt.notIn_list_reads r2 r1 ce cd.1 room ⟨.bl _, H, I, rfl, q⟩
end
end GX

set_option Elab.async false
set_option linter.all false
set_option maxRecDepth 100000
set_option maxHeartbeats 4000000
/-! sum, max, len(set(..)) of a tuple of ints; enumerate of a tuple -/
namespace GX
open PySem PySem.Spec PyProof.Rows L2
section
variable {X : Cx}
theorem vals_at {ns : List Int} {its : List Value} (r : Vals (ns.map V.int) its) {i : Nat} {v : Value} (h : its.toArray[i]? = some v) : ∃ t, v = Value.int (ns.getD i 0) t := by
  have h2 : its[i]? = some v := by simpa using h
  have hl := r.length
  rw [List.length_map] at hl
  have hi : i < its.length := by
    rcases Nat.lt_or_ge i its.length with z | z
    · exact z
    · rw [List.getElem?_eq_none z] at h2
      cases h2
  have hn : ns[i]? = some (ns.getD i 0) := by
    rw [List.getD_eq_getElem?_getD, List.getElem?_eq_getElem (by omega)]
    rfl
  obtain ⟨u, hu, ru⟩ := r.get (i := i) (x := V.int (ns.getD i 0)) (by rw [List.getElem?_map, hn]; rfl)
  rw [hu] at h2
  cases h2
  exact ru
theorem cr_sumT (hc : X.calm = true) : CallR X (.builtin "sum") (fun vs H Q => ∃ (a : Addr) (ns : List Int), vs = [V.ref a] ∧ SqT X.K H a (ns.map V.int) ∧ Q (.int ns.sum) H) := by
  intro pins s σ H vs us Q I r h
  obtain ⟨a, ns, rfl, hs, q⟩ := h
  obtain ⟨its, rv, ht, hz⟩ := I.tuple hs
  obtain ⟨u, rfl, rx⟩ := vals1 r
  cases rx
  have hlt : a < s.heap.objs.size := by
    obtain ⟨_, e, _⟩ := id ht
    exact Heap.lt_size e
  have hlen : its.toArray.size = ns.length := by rw [List.size_toArray, ← rv.length, List.length_map]
  refine call_sum_walkG (wpAny_pyIter_tuple ht ⟨s.heap.objs.size, _, _, _, _, _, fun i => ns.getD i 0, rfl, Walks.tuple (A := X.A.in1) (I.ok.hd hc) s.heap.objs.size a (Nat.ne_of_lt hlt) its.toArray, ⟨⟨_, Heap.get?_push_size _ rfl, rfl, rfl⟩, ht.push _⟩, fun b hb => ?_, fun i v hv => vals_at rv hv, fun h' tk t' hk => ?_⟩)
  · have hsz : (s.heap.push { cls := .type "tuple_iterator", data := .fields #[.ref a, .int 0 0] }).objs.size = s.heap.objs.size + 1 := Heap.size_push ..
    have hb' : b = s.heap.objs.size ∨ b = a := by simpa using hb
    show b < (s.heap.push { cls := .type "tuple_iterator", data := .fields #[.ref a, .int 0 0] }).objs.size
    rw [hsz]
    rcases hb' with z | z
    · rw [z]; exact Nat.lt_succ_self _
    · rw [z]; exact Nat.lt_succ_of_lt hlt
  · refine ⟨.int ns.sum, H, I.kept (t' := tk) fun b o e => hk b o (fun z => ?_) (Heap.get?_push_of_some _ e), ⟨t', ?_⟩, q⟩
    · have z' : b = s.heap.objs.size := by simpa using z
      rw [z'] at e
      exact absurd (Heap.lt_size e) (Nat.lt_irrefl _)
    · rw [hlen, preSum_getD, List.take_length]
theorem cr_maxT (hc : X.calm = true) : CallR X (.builtin "max") (fun vs H Q => ∃ (a : Addr) (ns : List Int), vs = [V.ref a] ∧ SqT X.K H a (ns.map V.int) ∧ 0 < ns.length ∧ ∀ m, m ∈ ns → (∀ y, y ∈ ns → y ≤ m) → Q (.int m) H) := by
  intro pins s σ H vs us Q I r h
  obtain ⟨a, ns, rfl, hs, h0, q⟩ := h
  obtain ⟨its, rv, ht, hz⟩ := I.tuple hs
  obtain ⟨u, rfl, rx⟩ := vals1 r
  cases rx
  have hlt : a < s.heap.objs.size := by
    obtain ⟨_, e, _⟩ := id ht
    exact Heap.lt_size e
  have hlen : its.toArray.size = ns.length := by rw [List.size_toArray, ← rv.length, List.length_map]
  refine call_max_walk (wpAny_pyIter_tuple ht ⟨s.heap.objs.size, _, _, _, _, _, _, rfl, Walks.tuple (A := X.A.in1) (I.ok.hd hc) s.heap.objs.size a (Nat.ne_of_lt hlt) its.toArray, ⟨⟨_, Heap.get?_push_size _ rfl, rfl, rfl⟩, ht.push _⟩, fun b hb => ?_, by omega, CmpOf.ints_gt (fun i => ns.getD i 0) (fun i v hv => vals_at rv hv), fun v h' tk hP hk => ?_⟩)
  · have hsz : (s.heap.push { cls := .type "tuple_iterator", data := .fields #[.ref a, .int 0 0] }).objs.size = s.heap.objs.size + 1 := Heap.size_push ..
    have hb' : b = s.heap.objs.size ∨ b = a := by simpa using hb
    show b < (s.heap.push { cls := .type "tuple_iterator", data := .fields #[.ref a, .int 0 0] }).objs.size
    rw [hsz]
    rcases hb' with z | z
    · rw [z]; exact Nat.lt_succ_self _
    · rw [z]; exact Nat.lt_succ_of_lt hlt
  · obtain ⟨t, rfl⟩ := vals_at rv hP
    obtain ⟨g1, g2⟩ := argBest_gt (fun i => ns.getD i 0) (its.toArray.size - 1)
    refine ⟨.int _, H, I.kept (t' := tk) fun b o e => hk b o (fun z => ?_) (Heap.get?_push_of_some _ e), ⟨t, rfl⟩, q _ (getD_mem (by omega)) fun y hy => ?_⟩
    · have z' : b = s.heap.objs.size := by simpa using z
      rw [z'] at e
      exact absurd (Heap.lt_size e) (Nat.lt_irrefl _)
    · obtain ⟨j, hj, rfl⟩ := mem_getD hy
      exact g2 j (by omega)
/-- the unlike ones -/
def unlikes : List Int → List Int
  | [] => []
  | a :: l => if a ∈ l then unlikes l else a :: unlikes l
theorem mem_unlikes : ∀ {l : List Int} {k : Int}, k ∈ unlikes l ↔ k ∈ l
  | [], _ => Iff.rfl
  | a :: l, k => by
    unfold unlikes
    by_cases e : a ∈ l
    · rw [if_pos e, mem_unlikes, List.mem_cons]
      exact ⟨.inr, fun z => z.elim (fun q => q ▸ e) id⟩
    · rw [if_neg e, List.mem_cons, List.mem_cons, mem_unlikes]
theorem nodup_unlikes : ∀ l : List Int, (unlikes l).Nodup
  | [] => List.nodup_nil
  | a :: l => by
    unfold unlikes
    by_cases e : a ∈ l
    · rw [if_pos e]; exact nodup_unlikes l
    · rw [if_neg e]; exact List.nodup_cons.mpr ⟨fun z => e (mem_unlikes.mp z), nodup_unlikes l⟩
theorem unlikes_of_nodup : ∀ {l : List Int}, l.Nodup → unlikes l = l
  | [], _ => rfl
  | a :: l, h => by
    obtain ⟨h1, h2⟩ := List.nodup_cons.mp h
    unfold unlikes
    rw [if_neg h1, unlikes_of_nodup h2]
theorem unlikes_le : ∀ l : List Int, (unlikes l).length ≤ l.length
  | [] => Nat.le_refl _
  | a :: l => by
    have := unlikes_le l
    unfold unlikes
    by_cases e : a ∈ l
    · rw [if_pos e, List.length_cons]; omega
    · rw [if_neg e, List.length_cons, List.length_cons]; omega
theorem nodup_of_unlikes : ∀ {l : List Int}, (unlikes l).length = l.length → l.Nodup
  | [], _ => List.nodup_nil
  | a :: l, h => by
    have := unlikes_le l
    unfold unlikes at h
    by_cases e : a ∈ l
    · rw [if_pos e, List.length_cons] at h; omega
    · rw [if_neg e, List.length_cons, List.length_cons] at h
      exact List.nodup_cons.mpr ⟨e, nodup_of_unlikes (by omega)⟩
/-- how many unlike ones -/
def distinct (ns : List Int) : Nat := (unlikes ns).length
theorem distinct_of {ns ks : List Int} (nd : ks.Nodup) (h : ∀ k, k ∈ ks ↔ k ∈ ns) : ks.length = distinct ns :=
  ((List.perm_ext_iff_of_nodup nd (nodup_unlikes ns)).mpr fun k => by rw [h k, mem_unlikes]).length_eq
/-- len(set(e)) of a tuple of ints -/
theorem pe_lenSetT {a : Expr} {ta : TE} {p p2 q pos : Pos} (hg : Gl X "len") (hm : X.mg "len" = none) (hg2 : Gl X "set") (hm2 : X.mg "set" = none) (ha : PE X a ta) (hc : X.calm = true := by rfl)
    (na : starEach [a] X.env = (false, eval a X.env) :: starEach [] X.env := by rfl) :
    PE X (.Call (.Name "len" p) [.Call (.Name "set" p2) [a] [] q] [] pos) (fun σ H Q => ta σ H fun x H1 => ∃ (l : Addr) (ns : List Int), x = .ref l ∧ SqT X.K H1 l (ns.map V.int) ∧ ns.length ≤ 4000 ∧ Q (.int (distinct ns : Nat)) H1) := by
  refine ⟨fun pins s σ H Q I h => ?_⟩
  refine Call_ (ld_blt I hg hm PySem.boot_len (PyProof.Rows.callWith_builtin1 (PyProof.Rows.args_cons (Call_ (ld_blt I hg2 hm2 PyProof.Rows.boot_set ?_)) rfl) rfl rfl))
  refine PyProof.Rows.callWith_type1 (PyProof.Rows.args_cons (thn (ha.run pins s σ H _ I h) fun v s1 hx => PyProof.Rows.args_nil ?_) na) na rfl
  obtain ⟨x, H1, I1, r1, l, ns, rfl, hq, hl, q1⟩ := hx
  cases r1
  obtain ⟨its, rv, pt, hz⟩ := I1.tuple hq
  refine call_set_tupI ns (I1.ok.hd hc) (show s1.heap.IsTuple l its.toArray from pt) (by simpa using RZ.intsAre_vals rv) (by unfold scanBound; omega) fun h' tk c hS hcn hk => ?_
  refine PyProof.Rows.args_nil ?_
  obtain ⟨o, es, ep, t, ho, hex, hd, hgood, hnd, hmem, hsz, hf, hn, _⟩ := hS
  have I2 : Inv X pins σ H1 { s1 with heap := h', toks := tk } := I1.kept hk
  have hdis : es.size = distinct ns := by
    have := distinct_of hnd (ns := ns) fun k => by
      rw [← hmem k]
      simp
    rw [List.length_map, Array.length_toList] at this
    exact this
  have hlt : (es.size : Int) < 2 ^ 63 := by
    unfold scanBound at hsz
    omega
  exact call_len_set ho hex hd hf hlt ⟨.int (distinct ns : Nat), H1, I2.tok _, ⟨_, by rw [hdis]⟩, q1⟩
end
end GX

set_option Elab.async false
set_option linter.all false
set_option maxRecDepth 100000
set_option maxHeartbeats 4000000
/-! enumerate of a tuple -/
namespace GX
open PySem PySem.Spec PyProof.Rows L2
set_option maxHeartbeats 1000000 in
theorem meets_enum1 {v : Value} {o : Obj} {G : Heap → Prop} (B : Begins v o G) :
    Meets (Builtin.«enumerate.__new__» ⟨[.type "enumerate", v], []⟩) (fun _ R s => G s.heap ∧
      R (.ok (.ret (.ref (s.heap.push o).objs.size))) { s with heap := (s.heap.push o).push { cls := .type "enumerate", data := .fields #[.none, .bool false, .ref s.heap.objs.size, rawInt 0, .none, .none] } }) :=
  .of_wp fun prog w A R s h => by
    obtain ⟨hp, g, d, tk, os⟩ := s
    obtain ⟨hG, hR⟩ := h
    have sub := sub_enumerate
    have begins : ∀ {A' : Around} {E : Value → Shared → Prop} {Q : Value → Shared → Prop}, Q (.ref hp.objs.size) ⟨hp.push o, g, d, tk, os⟩ → wpAny (model prog w) A' (pyIter v) Q E ⟨hp, g, d, tk, os⟩ :=
      fun hq => B.iter prog w _ _ ⟨hp, g, d, tk, os⟩ _ hG hq
    wp_walk using begins
    refine wpAny_stack_any fun st => wpAny_pure ?_
    split
    · next c _ _ _ _ _ =>
      cases (c == Value.type "enumerate") <;> (wp_walk using begins; exact ⟨_, rfl, hR⟩)
    · wp_walk using begins
      exact ⟨_, rfl, hR⟩
theorem call_enumT {prog : Program} {w : World} {A : Around} {E : Value → Shared → Prop} {s : Shared} {t : Addr} {items : Array Value} {Q : Value → Shared → Prop} (ht : s.heap.IsTuple t items)
    (h : ∀ h', IsEnum h' (s.heap.objs.size + 1) s.heap.objs.size 0 .none → h'.IsTupleIter s.heap.objs.size t 0 → (∀ b o, s.heap.get? b = some o → h'.get? b = some o) → Q (.ref (s.heap.objs.size + 1)) { s with heap := h' }) :
    wpAny (model prog w) A (call (.type "enumerate") [.ref t]) Q E s := by
  refine callType_new F.called_enumerate (by decide) (F.typeCall_enumerate_1 _) (F.newCall_enumerate_1 _) (fun obj => F.args_object_init_2 obj _) F.entry_enumerate_new (meets_enum1 (begins_tuple t items)) ⟨ht, ?_⟩
  generalize ho : ({ cls := .type "tuple_iterator", data := .fields #[.ref t, .int 0 0] } : Obj) = o
  have hz : (s.heap.push o).objs.size = s.heap.objs.size + 1 := Heap.size_push ..
  show _ ∧ _
  rw [hz]
  generalize hx : ({ cls := .type "enumerate", data := .fields #[.none, .bool false, .ref s.heap.objs.size, rawInt 0, .none, .none] } : Obj) = x
  have fx : x.isFreed = false := by rw [← hx]; rfl
  have fo : o.isFreed = false := by rw [← ho]; rfl
  have gx : ((s.heap.push o).push x).get? (s.heap.objs.size + 1) = some x := by
    have := Heap.get?_push_size (s.heap.push o) fx
    rw [hz] at this
    exact this
  have go : ((s.heap.push o).push x).get? s.heap.objs.size = some o := Heap.get?_push_of_some _ (Heap.get?_push_size _ fo)
  have ie : IsEnum ((s.heap.push o).push x) (s.heap.objs.size + 1) s.heap.objs.size 0 .none := by
    show ((s.heap.push o).push x).get? (s.heap.objs.size + 1) = _
    rw [gx, ← hx]
  have ti : ((s.heap.push o).push x).IsTupleIter s.heap.objs.size t 0 := ⟨o, go, by rw [← ho], by rw [← ho]; rfl⟩
  exact ⟨⟨x, gx, by rw [← hx]⟩, h _ ie ti fun b u e => Heap.get?_push_of_some _ (Heap.get?_push_of_some _ e)⟩
/-- the tuple at a, each item in a new pair behind its number -/
def IteT (K : PySem.W.Frag) (a : Addr) : It :=
  ⟨fun i H => ∃ (xs : List V) (x : V), SqT K H a xs ∧ xs[i]? = some x, fun i H v H' => ∃ T x, v = .ref T ∧ H T = none ∧ H' = upd H T (.tup [.int (i : Nat), x]) ∧ ∀ xs, SqT K H a xs → xs[i]? = some x, fun i H => ∃ xs : List V, SqT K H a xs ∧ xs.length ≤ i⟩
theorem walk_enumT {K : PySem.W.Frag} {a : Addr} {xs : List V} : Walk (IteT K a) xs.length (fun H => SqT K H a xs) (YPair (fun i => some (.int (i : Nat))) (fun i => xs[i]?)) where
  goes := fun i H hi hq => ⟨xs, xs[i], hq, List.getElem?_eq_getElem hi⟩
  stops := fun H hq => ⟨xs, hq, Nat.le_refl _⟩
  yields := fun i H x H' hi hq ⟨T, y, e, n, u, z⟩ => ⟨T, _, y, e, n, u, rfl, z xs hq⟩
theorem wpAny_pyNext_enumT_end {prog : Program} {w : World} {A : Around} {E : Value → Shared → Prop} {s : Shared} {e it t : Addr} {n : Nat} {c : Int} {items : Array Value} {old : Value} {Q : Option Value → Shared → Prop} (hh : A.handled = none)
    (he : IsEnum s.heap e it c old) (hit : s.heap.IsTupleIter it t n) (ht : s.heap.IsTuple t items) (hx : items[n]? = none)
    (hQ : ∀ h', Heap.ExtBut it s.heap h' → Q none { s with heap := h' }) : wpAny (model prog w) A (pyNext (.ref e)) Q E s := by
  have hT : s.TypeIs (.ref e) "enumerate" := ⟨_, he, rfl⟩
  unfold pyNext
  refine wpAny_bind (wpAny_attempt (wpAny_callSpecial?_slot (name := Str.ofString "__next__") hT F.slot_enumerate_next (wpAny_call_entry F.slot_enumerate_next hT F.entry_enumerate_next ?_ (F.args_enumerate_next_1 _))))
  show wpAny _ _ (field (.ref e) 2 >>= _) _ _ _
  refine wpAny_bind (wpAny_field he rfl (x := .ref it) rfl (wpAny_bind (wpAny_nextOf_tuple_end (A := A.in1) hh hit ht hx fun h' x ext ⟨o, ho, hc⟩ => ?_)))
  exact wpAny_bind (wpAny_isInstance (T := "StopIteration") (b := true) ⟨o, ho, hc⟩ isSubtype_stop (wpAny_pure (hQ _ ext)))
theorem turn_enumT {P : Program} {w : World} {K : PySem.W.Frag} {elts : List Expr} {kk : Nat} {tpos : Pos} (a e it : Addr) :
    Turn P w K (.Tuple elts kk tpos) (IteT K a) [e, it] e (fun i h => (∃ old, IsEnum h e it ((i : Nat) : Int) old) ∧ h.IsTupleIter it a i ∧ e ≠ it ∧ a ≠ it) where
  mem := List.mem_cons_self ..
  obj := fun i h st b hb => by
    obtain ⟨⟨old, he⟩, ⟨o, ho, hc, hd⟩, _⟩ := st
    rcases List.mem_cons.mp hb with rfl | hb
    · exact ⟨_, he, fun v q => nomatch q⟩
    · rw [List.mem_singleton.mp hb]
      exact ⟨o, ho, fun v q => by rw [hd] at q; cases q⟩
  keep := fun i h h' st k => let ⟨⟨old, he⟩, hi, hne⟩ := st; ⟨⟨old, k e (by simp) _ he⟩, hi.at fun o q => k it (by simp) o q, hne⟩
  item := by
    intro X hP hw hK hc i pins s σ H E I hf st hg
    subst hP hw hK
    obtain ⟨⟨old, he⟩, hit, hne, hna⟩ := st
    obtain ⟨xs, x, hq, hx⟩ := hg
    obtain ⟨its, rv, pt, hz⟩ := I.tuple hq
    have hT0 : s.heap.IsTuple a its.toArray := pt
    obtain ⟨u, hu, ru⟩ := rv.get hx
    have hel : e < s.heap.objs.size := Heap.lt_size he
    have hil : it < s.heap.objs.size := by obtain ⟨_, q, _⟩ := id hit; exact Heap.lt_size q
    have hea : e ≠ a := fun z => by
      obtain ⟨_, q, hc, n, hd⟩ := id hT0
      rw [← z] at q
      have q' := q.symm.trans he
      obtain rfl := Option.some.inj q'
      exact absurd (Value.type.inj hc) (by decide)
    have isz : i < its.toArray.size := by
      rw [List.size_toArray]
      rcases Nat.lt_or_ge i its.length with z | z
      · exact z
      · rw [List.getElem?_eq_none z] at hu
        cases hu
    refine wpAny_pyNext_enum_itemD (Draws.tuple (A := X.A.in1) (I.ok.hd hc) it a hna its.toArray) he ⟨hit, hT0⟩ isz hne (by simp [hne, hea]) fun x' h' tk hx' ho hst' hT hsz hk => ?_
    have hxu : x' = u := by
      have z : its[i]? = some x' := by simpa using hx'
      rw [hu] at z
      exact (Option.some.inj z).symm
    subst hxu
    refine ⟨_, rfl, wpAny_letOwnedTupleGo_enum (s := { s with heap := h', toks := tk + 1 }) ho fun h'' he' sb => ?_⟩
    have hT2 : h''.get? s.heap.objs.size = some { cls := .type "tuple", data := .seq #[.int i tk, x'] } := (sb.2 _ (Nat.ne_of_gt hel)).trans hT
    have new : ObjOk X.prog X.w (upd H s.heap.objs.size (.tup [.int (i : Nat), x])) h'' s.heap.objs.size (.tup [.int (i : Nat), x]) :=
      ⟨by show 2 ≤ sizeLine; decide, [.int i tk, x'], .cons ⟨_, rfl⟩ (.cons ru .nil), ⟨_, hT2, rfl, _, rfl⟩⟩
    have I1 : Inv X pins σ (upd H s.heap.objs.size (.tup [.int (i : Nat), x])) { s with heap := h'', toks := tk + 1 } :=
      I.turnedNew (ch := [e, it]) (fun b ob hb q => (sb.2 b (fun z => hb (by simp [z]))).trans (hk b ob (fun z => hb (by simp [z])) (fun z => hb (by simp [z])) q)) hf (Nat.le_refl _) new
    refine ⟨.ref s.heap.objs.size, _, I1, rfl, ⟨_, x, rfl, I.hok.fresh (Nat.le_refl _), rfl, fun ys hy => ?_⟩, ⟨⟨x', ?_⟩, hst'.1.at fun o q => (sb.2 it (Ne.symm hne)).trans q, hne, hna⟩, fun b hb => ?_⟩
    · rw [I.tuple_inj hy hq]
      exact hx
    · have e1 : ((i + 1 : Nat) : Int) = (i : Int) + 1 := by omega
      rw [e1]
      exact he'
    · have hb' : b < s.heap.objs.size := by
        rcases List.mem_cons.mp hb with z | z
        · rw [z]; exact hel
        · rw [List.mem_singleton.mp z]; exact hil
      rw [upd_ne (Nat.ne_of_lt hb')]
      exact (hf b hb).1
  done := by
    intro X hP hw hK hc i pins s σ H E I hf st hg
    subst hP hw hK
    obtain ⟨⟨old, he⟩, hit, hne, hna⟩ := st
    obtain ⟨xs, hq, hx⟩ := hg
    obtain ⟨its, rv, pt, hz⟩ := I.tuple hq
    obtain ⟨f0, f1, f2, f3, f4, f5⟩ := hf it (by simp)
    have hl := rv.length
    have hT0 : s.heap.IsTuple a its.toArray := pt
    have hend : i = its.toArray.size ∨ its.toArray.size < i := by
      have z : its.toArray.size ≤ i := by rw [List.size_toArray]; omega
      omega
    have he' := he
    refine wpAny_pyNext_enumT_end (I.ok.hd hc) he hit hT0 (by simp; omega) fun h' eb => ⟨rfl, I.turned (t' := s.toks) (fun b o hb q => eb b o hb q) f0 f1 f3 f4 f5⟩
  self := fun A i s Q E st h => let ⟨⟨_, he⟩, _⟩ := st; wpAny_pyIter_enum he h
def iEnumT (K : PySem.W.Frag) (ta : TA) : TI := fun σ H R => ta σ H fun vs H1 => ∃ a xs, vs = [.ref a] ∧ SqT K H1 a xs ∧ R (IteT K a) H1
theorem pi_enumT {X : Cx} {e : Expr} {ta : TA} {p pos tpos : Pos} {elts : List Expr} {kk : Nat} (hg : Gl X "enumerate") (hm : X.mg "enumerate" = none) (ha : PA X [e] ta) (hs : starEach [e] X.env = [(false, eval e X.env)] := by rfl) :
    PI X (.Tuple elts kk tpos) (.Call (.Name "enumerate" p) [e] [] pos) (iEnumT X.K ta) := by
  refine ⟨fun pins s σ H R I h => Call_ (ld_blt I hg hm boot_enumerate (PyProof.Rows.callWith_type1 (thn (ha.run pos pins s σ H _ I h) fun us s1 hx => ?_) hs rfl))⟩
  obtain ⟨vs, H1, I1, r1, a, xs, rfl, hq, q⟩ := hx
  obtain ⟨u, rfl, rx⟩ := vals1 r1
  cases rx
  obtain ⟨its, rv, pt, hz⟩ := I1.tuple hq
  have hT0 : s1.heap.IsTuple a its.toArray := pt
  have alt : a < s1.heap.objs.size := by
    obtain ⟨_, z, _⟩ := id hT0
    exact Heap.lt_size z
  refine call_enumT hT0 fun h' he hit hk => wpAny_pyIter_enum he ?_
  refine ⟨s1.heap.objs.size + 1, [s1.heap.objs.size + 1, s1.heap.objs.size], _, _, H1, rfl, I1.kept (t' := s1.toks) hk, turn_enumT a (s1.heap.objs.size + 1) s1.heap.objs.size, ⟨⟨.none, he⟩, hit, Nat.succ_ne_self _, Nat.ne_of_lt alt⟩, fun b hb => ?_, q⟩
  have hle : s1.heap.objs.size ≤ b := by
    rcases List.mem_cons.mp hb with z | z
    · rw [z]; exact Nat.le_add_right _ _
    · rw [List.mem_singleton.mp z]; exact Nat.le_refl _
  exact I1.fpOk hle (I1.hok.fresh hle)
end GX

set_option Elab.async false
set_option linter.all false
set_option maxRecDepth 100000
set_option maxHeartbeats 4000000
/-! {k: v for t in i if ..}, the keys new tuples -/
namespace GX
open PySem PySem.Spec PyProof.Rows L2
section
variable {X : Cx} {pins : List (Addr × Obj)} {σ : L2.St} {H : Hp} {s : Shared}
theorem dictSet_t {E : Value → Shared → Prop} {D b : Addr} {kvs : List (List L2.Key × V)} {k : List L2.Key} {v : V} {r : Value} {Q : Unit → Shared → Prop} (hu : X.A.units < cLine) (I : L2.Inv X pins σ H s) (hD : H D = some (.dT kvs)) (hb : H b = some (.tup (k.map kV)))
    (hz : kvs.length < sizeLine) (rv : L2.RelV v r) (fin : ∀ s', L2.Inv X pins σ (upd H D (.dT (putK kvs k v))) s' → Q () s') : wpAny (model X.prog X.w) X.A (dictSet D (.ref b) r) Q E s := by
  obtain ⟨z, low, xs, rel, dd⟩ := dt_of I.hok hD
  have lxs : xs.length ≤ sizeLine := Nat.le_trans (Nat.le_of_eq (Paired.length rel).symm) z
  have lput : (putK kvs k v).length ≤ sizeLine := Nat.le_trans (length_putK kvs k v) hz
  refine wpAny_dictSet_heap (knd := tupleKind (mixKind X.prog X.w)) (hsz := lxs) hu (key_of I.hok hb) dd fun h' dd' same => fin _ ?_
  obtain ⟨q, es, ep, hq, g2, g3, g4, _, g5⟩ := dd'
  have stays : KT (upd H D (.dT (putK kvs k v))) (putK kvs k v) (storedH xs k b r) := (rel.put k hb rv).keeps fun c ys ec => (upd_ne (ne_of ec hD fun z => nomatch z)).trans ec
  exact d_write I (by rw [hD]; trivial) same ⟨q, hq⟩ ⟨lput, low, _, stays, q, es, ep, hq, g2, g3, g4, g5⟩
end
/-- the reading -/
def tDcT (wi : TI) (g : TG) (tt : TT) (tk tv : TE) (vs : List Nat) : TE := fun σ H Q => wi σ H fun J H1 => ∀ D, H1 D = none → ∃ W : Nat → Nat → Hp → Prop, (∃ m, W 0 m (upd H1 D (.dT []))) ∧ ∀ i m H, W i m H →
  (J.stop i H ∧ Q (.ref D) H) ∨ (J.go i H ∧ ∃ Nx : Hp → Prop, (∀ H', Nx H' → ∃ m', m' < m ∧ W (i + 1) m' H') ∧ ∀ x H', J.yld i H x H' → g x (wipe σ vs) H' fun σ2 H2 => wipe σ2 vs = wipe σ vs ∧ tt σ2 H2 fun b H3 =>
    if b = true then tk σ2 H3 fun y H4 => tv σ2 H4 fun z H5 => ∃ kvs k b, y = .ref b ∧ H5 b = some (.tup (k.map kV)) ∧ H5 D = some (.dT kvs) ∧ kvs.length < sizeLine ∧ Nx (upd H5 D (.dT (putK kvs k z))) else Nx H3)
section
variable {X : Cx} {kx vx tg iter : Expr} {ifs : List Expr} {scope : Scope} {own : List (Str × Nat)} {pos : Pos} {wi : TI} {g : TG} {tt : TT} {tk tv : TE}
theorem pe_dcT (hu : X.A.units < cLine) (hc : X.calm = true) (hN : X.N.Nodup) (hi : PI X tg iter wi) (ok : BlkOk X.N X.env.scope scope own)
    (hg : ∀ s H C cl fp, PG (X.blk s H scope (compEnvC scope cl C X.env) fp) tg g) (ht : ∀ s H C cl fp, PTs (X.blk s H scope (compEnvC scope cl C X.env) fp) ifs tt)
    (hk : ∀ s H C cl fp, PE (X.blk s H scope (compEnvC scope cl C X.env) fp) kx tk) (he : ∀ s H C cl fp, PE (X.blk s H scope (compEnvC scope cl C X.env) fp) vx tv) (hs : ∀ x, foldedSetIterable iter X.env x = pure x := by intro _; rfl) :
    PE X (.DictComp kx vx [⟨tg, iter, ifs, 0⟩] scope pos) (tDcT wi g tt tk tv (own.map (·.2))) := by
  refine ⟨fun pins s σ H Q I h => ?_⟩
  rw [arm_eval_DictComp]
  have cellsOf : ∀ y ∈ scope.names, y.2 = .free → ∃ c, X.env.cells.lookup y.1 = some c := fun y hy e => (ok.free y hy e).elim (fun k => I.ok.has _ (.inl k)) fun k => I.ok.has _ (.inr k)
  refine wpAny_comprehension_free (use := none) rfl hs (closure_ok cellsOf) ok.kind (fun y hy e => (ok.uniq y hy).trans (congrArg some e)) (thn (hi.run pins s σ H _ I h) fun xv s1 hx => thn hx fun itv s2 z2 => ?_)
  obtain ⟨it, fp, tn, J, H2, rfl, I2, T, at2, free2, spec⟩ := z2
  refine wpAny_newObj_type (newEnv_comp ?_)
  generalize eD : s2.heap.objs.size = D
  have freshD : H2 D = none := I2.hok.fresh (Nat.le_of_eq eD)
  obtain ⟨W, ⟨m0, w0⟩, turn⟩ := spec D freshD
  generalize es3 : ({ s2 with heap := s2.heap.push { cls := .type "dict", data := .dict #[] } } : Shared) = s3
  have hp3 : s3.heap = s2.heap.push { cls := .type "dict", data := .dict #[] } := by rw [← es3]
  have keep3 : ∀ b o, s2.heap.get? b = some o → s3.heap.get? b = some o := fun b o e => by
    rw [hp3]
    exact Heap.get?_push_of_some _ e
  generalize eH3 : upd H2 D (.dT []) = H3 at w0
  have I3 : L2.Inv X pins σ H3 s3 := by
    rw [← eH3, ← es3]
    refine I2.laid (t' := s2.toks) (fun b o e => Heap.get?_push_of_some _ e) (Nat.le_of_eq eD) ?_
    rw [← eD]
    exact dt_empty s2.heap I2.big
  have low : ∀ b ∈ fp, b < s2.heap.objs.size := fun b hb => let ⟨_, e, _⟩ := T.obj _ _ at2 b hb; Heap.lt_size e
  have free3 : ∀ b ∈ fp, FpOk X pins H3 b ∧ b < s3.heap.objs.size := fun b hb => by
    refine ⟨⟨?_, (free2 b hb).2⟩, ?_⟩
    · rw [← eH3, upd_ne (fun z => Nat.lt_irrefl _ (Nat.lt_of_lt_of_le (low b hb) (Nat.le_of_eq (eD.trans z.symm))))]
      exact (free2 b hb).1
    · rw [hp3, Heap.size_push]
      exact Nat.lt_succ_of_lt (low b hb)
  have at3 : tn 0 s3.heap := T.keep _ _ _ at2 fun b _ o e => keep3 b o e
  have I4 := block_start I3 ok hN free3
  show codeAny (model X.prog X.w) X.A (.compStart (.DictComp kx vx [⟨tg, iter, ifs, 0⟩] scope pos) 0 (.ref it) (.ref D) (compEnvC scope (cellsFrom (s3.heap.objs.size + 1) scope.names (cloFrom X.env.cells scope.names [])) s3.heap.objs.size X.env)) (compPost (model X.prog X.w) X.A X.xe none (EP X pins σ Q) (.ref D) s3.heap.objs.size)
    { s3 with heap := pushCells (s3.heap.push { cls := .type "dict", data := .dict #[] }) scope.names }
  generalize eC : s3.heap.objs.size = C at I4 ⊢
  generalize ecl : cellsFrom (C + 1) scope.names (cloFrom X.env.cells scope.names []) = cl at I4 ⊢
  have gg := hg s3 H3 C cl fp
  have gt := ht s3 H3 C cl fp
  have gk := hk s3 H3 C cl fp
  have ge := he s3 H3 C cl fp
  generalize ece : compEnvC scope cl C X.env = ce at I4 gg gt gk ge ⊢
  have loc : ce.locals = C := by rw [← ece]; rfl
  generalize es4 : ({ s3 with heap := pushCells (s3.heap.push { cls := .type "dict", data := .dict #[] }) scope.names } : Shared) = s4 at I4 ⊢
  have at4 : tn 0 s4.heap := T.keep _ _ _ at3 fun b _ o e => by
    rw [← es4]
    exact pushCells_keeps _ _ _ _ (Heap.get?_push_of_some _ e)
  generalize eY : X.blk s3 H3 scope ce fp = Y at I4 gg gt gk ge
  have apart : ∀ {σ' : L2.St} {H' : Hp} {s' : Shared}, L2.Inv Y [] σ' H' s' → (∀ b ∈ fp, H' b = none) → ∀ b ∈ fp, FpOk Y [] H' b := by
    subst eY
    exact fun I' nn b hb => ⟨nn b hb, (I'.ok.exf b hb).1, I'.ok.exfs b hb, .inl hb, fun x c e => (I'.ok.exf b hb).2 x c e, fun p hp => absurd hp (by simp)⟩
  have back : ∀ {σ' : L2.St} {H' : Hp} {s' : Shared}, L2.Inv Y [] σ' H' s' → L2.Inv X pins σ H' s' := by
    subst eY
    exact fun I' => I3.call' (ch := fp) I'.os I'.base I'.hok I'.bare fun b hb => ⟨(free3 b hb).1.2.2.2.1, (free3 b hb).1.2.1, (free3 b hb).1.2.2.2.2.1, (free3 b hb).1.2.2.2.2.2⟩
  have yp : Y.prog = X.prog ∧ Y.w = X.w ∧ Y.K = X.K ∧ Y.calm = true ∧ Y.A = X.A ∧ Y.env = ce := by
    subst eY
    exact ⟨rfl, rfl, rfl, hc, rfl, rfl⟩
  have yx : Y.xe = fun _ _ => False := by
    subst eY
    rfl
  obtain ⟨y1, y2, y3, y4, y5, y6⟩ := yp
  have loop : codeAny (model X.prog X.w) X.A (.compLoop (.DictComp kx vx [⟨tg, iter, ifs, 0⟩] scope pos) 0 (.ref it) (.ref D) ce) (compPost (model X.prog X.w) X.A X.xe none (EP X pins σ Q) (.ref D) C) s4 := by
    refine compLoop_anyD (fun n s' => ∃ i H', L2.Inv Y [] (wipe σ (own.map (·.2))) H' s' ∧ tn i s'.heap ∧ (∀ b ∈ fp, H' b = none) ∧ W i n H') (fun n s5 hI5 => ?_) m0 ⟨0, H3, I4, at4, fun b hb => (free3 b hb).1.1, w0⟩
    obtain ⟨i, H5, I5, at5, nn5, w5⟩ := hI5
    rcases turn i n H5 w5 with ⟨stop, fin⟩ | ⟨go, Nx, less, step⟩
    · have z := T.done Y y1 y2 y3 y4 i [] s5 _ H5 (fun _ _ => False) I5 (apart I5 nn5) at5 stop
      rw [y5] at z
      refine thnF z fun r s6 ⟨er, I6⟩ => ?_
      subst er
      have noC : H5 C = none := by
        have q := I6.free
        rw [y6, loc] at q
        exact q
      obtain ⟨m, hn, _⟩ := I6.loc
      rw [y6, loc] at hn
      have IX := back I6
      obtain ⟨f0, f1, f2, f3, f4, f5⟩ := I3.fpOk (b := C) (H' := H5) (Nat.le_of_eq eC) noC
      exact ⟨m, hn, fun h'' sb => ⟨.ref D, H5, IX.turned (t' := s6.toks) (fun b o hb e => (sb.2 b hb).trans e) f0 f1 f3 f4 f5, rfl, fin⟩⟩
    · have z := T.item Y y1 y2 y3 y4 i [] s5 _ H5 (fun _ _ => False) I5 (apart I5 nn5) at5 go
      rw [y5] at z
      refine thnF z fun r s6 ⟨u, er, h6⟩ => ?_
      subst er
      refine thnF h6 fun _ s7 ⟨x, H7, I7, r7, yl, at7, nn7⟩ => ?_
      have P7 := I7.pinned (apart I7 nn7) (T.obj _ _ at7)
      have zg := gg.run _ s7 _ H7 x u _ P7 r7 (step x H7 yl)
      rw [y1, y2, y5, y6, yx] at zg
      refine thnF zg fun _ s8 ⟨σ8, H8, I8, hw8, q8⟩ => ?_
      have zt := gt.run _ s8 σ8 H8 _ I8 q8
      rw [y1, y2, y5, y6, yx] at zt
      refine thnF zt fun b s9 ⟨H9, I9, q9⟩ => ?_
      have fin : ∀ {s' : Shared} {H' : Hp}, L2.Inv Y ([] ++ pinsAt fp s7.heap) σ8 H' s' → Nx H' → ∃ m, m < n ∧ ∃ i H', L2.Inv Y [] (wipe σ (own.map (·.2))) H' s' ∧ tn i s'.heap ∧ (∀ b ∈ fp, H' b = none) ∧ W i m H' := fun {s' H'} I' nx => by
        obtain ⟨m', lt, w'⟩ := less H' nx
        have stay : ∀ b ∈ fp, ∀ o, s7.heap.get? b = some o → s'.heap.get? b = some o ∧ H' b = none := fun b hb o e => by
          have z := I'.pin (b, o) (List.mem_append_right _ (List.mem_append_right _ (mem_pinsAt hb e)))
          exact ⟨z.1, z.2.1⟩
        have len8 : (wipe σ (own.map (·.2))).length = σ8.length := (congrArg List.length hw8).symm.trans (wipe_length ..)
        refine ⟨m', lt, i + 1, H', (I'.unpinned (pins := [])).weak len8 (fun j v e => ?_), T.keep _ _ _ at7 fun b hb o e => (stay b hb o e).1, fun b hb => ?_, w'⟩
        · exact (wipe_some (hw8 ▸ e)).1
        · obtain ⟨o, e, _⟩ := T.obj _ _ at7 b hb
          exact (stay b hb o e).2
      cases b with
      | true =>
        simp only [if_true] at q9 ⊢
        have zk := gk.run _ s9 σ8 H9 _ I9 q9
        rw [y1, y2, y5, y6, yx] at zk
        refine thnF zk fun u1 s10 ⟨yk, H10, I10, r10, q10⟩ => ?_
        have ze := ge.run _ s10 σ8 H10 _ I10 q10
        rw [y1, y2, y5, y6, yx] at ze
        refine thnF ze fun u2 s11 ⟨yv, H11, I11, r11, kvs, k, kb, ek, hkb, hD11, hz11, nx⟩ => ?_
        subst ek
        cases r10
        have zd := dictSet_t (X := Y) (E := fun _ _ => False) (Q := fun _ s' => ∃ m, m < n ∧ ∃ i H', L2.Inv Y [] (wipe σ (own.map (·.2))) H' s' ∧ tn i s'.heap ∧ (∀ b ∈ fp, H' b = none) ∧ W i m H') (by rw [y5]; exact hu) I11 hD11 hkb hz11 r11 fun s12 I12 => fin I12 nx
        rw [y1, y2, y5] at zd
        exact thnF zd fun _ _ q => q
      | false =>
        simp only [Bool.false_eq_true, if_false] at q9 ⊢
        exact fin I9 q9
  exact codeAny_compStart_dict loop (T.self X.A 0 _ _ _ at4 loop)
end
end GX

set_option Elab.async false
set_option linter.all false
set_option maxRecDepth 100000
set_option maxHeartbeats 4000000
/-! data of puzzles on the heap: tuples of ints, rows, rules, puzzles; what keeps them; list comprehensions by walks -/
namespace GX
open PySem PySem.Spec PyProof.Rows L2
/-- all tuples stay -/
def Kt (H H' : Hp) : Prop := ∀ b xs, H b = some (.tup xs) → H' b = some (.tup xs)
/-- all but tables of codes stays -/
def Kb (H H' : Hp) : Prop := (∀ b o, (∀ ps, o ≠ .tbl ps) → H b = some o → H' b = some o) ∧ ∀ P, GxR.TabG H P → GxR.TabG H' P
theorem Kt.refl (H : Hp) : Kt H H := fun _ _ e => e
theorem Kt.trans {A B C : Hp} (h : Kt A B) (g : Kt B C) : Kt A C := fun b xs e => g b xs (h b xs e)
theorem kt_same {H H' : Hp} (h : Same H H') : Kt H H' := fun b xs e => h b _ e
theorem kt_kb {H H' : Hp} (h : Kb H H') : Kt H H' := fun b xs e => h.1 b _ (fun ps z => by cases z) e
theorem kb_same {H H' : Hp} (h : Same H H') : Kb H H' := ⟨fun b o _ e => h b o e, fun P ⟨ps, e, t⟩ => ⟨ps, h _ _ e, t⟩⟩
theorem Kb.refl (H : Hp) : Kb H H := ⟨fun _ _ _ e => e, fun _ e => e⟩
theorem Kb.trans {A B C : Hp} (h : Kb A B) (g : Kb B C) : Kb A C := ⟨fun b o n e => g.1 b o n (h.1 b o n e), fun P e => g.2 P (h.2 P e)⟩
theorem kb_tab {P : Addr} {H H' : Hp} (hT : GxR.TabG H P) (h : GxR.Tabbed P H H') : Kb H H' := by
  obtain ⟨ps, e, t⟩ := hT
  refine ⟨fun b o n eb => ?_, fun R hR => ?_⟩
  · by_cases z : b = P
    · subst z
      rw [e] at eb
      cases eb
      exact absurd rfl (n ps)
    · rw [h.2 b z]
      exact eb
  · by_cases z : R = P
    · subst z
      exact h.1
    · obtain ⟨qs, e2, t2⟩ := hR
      exact ⟨qs, by rw [h.2 R z]; exact e2, t2⟩
theorem same_new {H : Hp} {p : Addr} {o : HO} (h : H p = none) : Same H (upd H p o) := fun b o' e => by
  rw [upd_ne (fun z => by rw [z, h] at e; cases e)]
  exact e
theorem Same.tr {A B C : Hp} (h : Same A B) (g : Same B C) : Same A C := fun b o e => g b o (h b o e)
/-- a tuple of ints -/
def IH (H : Hp) (v : V) (ns : List Int) : Prop := ∃ a, v = .ref a ∧ H a = some (.tup (ns.map V.int))
/-- a tuple of such tuples -/
def RowsH (H : Hp) (v : V) (rows : List (List Int)) : Prop := ∃ a vs, v = .ref a ∧ H a = some (.tup vs) ∧ Paired (IH H) vs rows
/-- a tie as a row -/
def tie2 (p : Int × Int) : List Int := [p.1, p.2]
inductive Rul
  | table (cs : List Int) (rows : List (List Int))
  | unlike (cs : List Int)
  | sum (cs : List Int) (lo hi : Int)
  | count (cs vs : List Int) (lo hi : Int)
  | below (a b : Int)
  | runs (cs ls : List Int)
  | joined (cs : List Int) (ties : List (Int × Int)) (vs : List Int)
structure Puz where
  doms : List (List Int)
  rules : List Rul
/-- a rule -/
def RuH (H : Hp) (v : V) : Rul → Prop
  | .table cs rows => ∃ a x y, v = .ref a ∧ H a = some (.tup [.str "table", x, y]) ∧ IH H x cs ∧ RowsH H y rows
  | .unlike cs => ∃ a x, v = .ref a ∧ H a = some (.tup [.str "unlike", x]) ∧ IH H x cs
  | .sum cs lo hi => ∃ a x, v = .ref a ∧ H a = some (.tup [.str "sum", x, .int lo, .int hi]) ∧ IH H x cs
  | .count cs vs lo hi => ∃ a x y, v = .ref a ∧ H a = some (.tup [.str "count", x, y, .int lo, .int hi]) ∧ IH H x cs ∧ IH H y vs
  | .below i j => ∃ a, v = .ref a ∧ H a = some (.tup [.str "below", .int i, .int j])
  | .runs cs ls => ∃ a x y, v = .ref a ∧ H a = some (.tup [.str "runs", x, y]) ∧ IH H x cs ∧ IH H y ls
  | .joined cs ties vs => ∃ a x y z, v = .ref a ∧ H a = some (.tup [.str "joined", x, y, z]) ∧ IH H x cs ∧ RowsH H y (ties.map tie2) ∧ IH H z vs
def RusH (H : Hp) (v : V) (rs : List Rul) : Prop := ∃ a vs, v = .ref a ∧ H a = some (.tup vs) ∧ Paired (RuH H) vs rs
def PzH (H : Hp) (v : V) (p : Puz) : Prop := ∃ a x y, v = .ref a ∧ H a = some (.tup [x, y]) ∧ RowsH H x p.doms ∧ RusH H y p.rules
theorem IH.kt {H H' : Hp} (k : Kt H H') {v : V} {ns : List Int} (h : IH H v ns) : IH H' v ns := let ⟨a, e, q⟩ := h; ⟨a, e, k _ _ q⟩
theorem paired_mono {α β : Type} {R S : α → β → Prop} (h : ∀ a b, R a b → S a b) : ∀ {xs : List α} {ys : List β}, Paired R xs ys → Paired S xs ys
  | _, _, .nil => .nil
  | _, _, .cons a r => .cons (h _ _ a) (paired_mono h r)
theorem RowsH.kt {H H' : Hp} (k : Kt H H') {v : V} {rows : List (List Int)} (h : RowsH H v rows) : RowsH H' v rows := let ⟨a, vs, e, q, p⟩ := h; ⟨a, vs, e, k _ _ q, paired_mono (fun _ _ => IH.kt k) p⟩
theorem RuH.kt {H H' : Hp} (k : Kt H H') {v : V} : ∀ {r : Rul}, RuH H v r → RuH H' v r
  | .table _ _, ⟨a, x, y, e, q, i, j⟩ => ⟨a, x, y, e, k _ _ q, i.kt k, j.kt k⟩
  | .unlike _, ⟨a, x, e, q, i⟩ => ⟨a, x, e, k _ _ q, i.kt k⟩
  | .sum _ _ _, ⟨a, x, e, q, i⟩ => ⟨a, x, e, k _ _ q, i.kt k⟩
  | .count _ _ _ _, ⟨a, x, y, e, q, i, j⟩ => ⟨a, x, y, e, k _ _ q, i.kt k, j.kt k⟩
  | .below _ _, ⟨a, e, q⟩ => ⟨a, e, k _ _ q⟩
  | .runs _ _, ⟨a, x, y, e, q, i, j⟩ => ⟨a, x, y, e, k _ _ q, i.kt k, j.kt k⟩
  | .joined _ _ _, ⟨a, x, y, z, e, q, i, j, l⟩ => ⟨a, x, y, z, e, k _ _ q, i.kt k, j.kt k, l.kt k⟩
theorem RusH.kt {H H' : Hp} (k : Kt H H') {v : V} {rs : List Rul} (h : RusH H v rs) : RusH H' v rs := let ⟨a, vs, e, q, p⟩ := h; ⟨a, vs, e, k _ _ q, paired_mono (fun _ _ => RuH.kt k) p⟩
theorem PzH.kt {H H' : Hp} (k : Kt H H') {v : V} {p : Puz} (h : PzH H v p) : PzH H' v p := let ⟨a, x, y, e, q, i, j⟩ := h; ⟨a, x, y, e, k _ _ q, i.kt k, j.kt k⟩
theorem sqt {K : PySem.W.Frag} {H : Hp} {a : Addr} {xs : List V} (h : H a = some (.tup xs)) : SqT K H a xs := .inl (.inl h)
theorem sql {K : PySem.W.Frag} {H : Hp} {a : Addr} {xs : List V} (h : H a = some (.lst xs)) : SqL K H a xs := .inl (.inl h)
/-! as data -/
def dI (ns : List Int) : PyData := .tuple (ns.map .int)
theorem dpAll_ints {K : PySem.W.Frag} {H : Hp} : ∀ ns : List Int, DpAll K H (ns.map V.int) (ns.map PyData.int)
  | [] => .nil
  | n :: ns => .cons (.int n) (dpAll_ints ns)
theorem IH.dp {K : PySem.W.Frag} {H : Hp} {v : V} {ns : List Int} (h : IH H v ns) : Dp K H v (dI ns) := by
  obtain ⟨a, rfl, q⟩ := h
  exact .tup (sqt q) (dpAll_ints ns)
theorem dpAll_rows {K : PySem.W.Frag} {H : Hp} : ∀ {vs : List V} {rows : List (List Int)}, Paired (IH H) vs rows → DpAll K H vs (rows.map dI)
  | _, _, .nil => .nil
  | _, _, .cons a r => .cons a.dp (dpAll_rows r)
def dRows (rows : List (List Int)) : PyData := .tuple (rows.map dI)
theorem RowsH.dp {K : PySem.W.Frag} {H : Hp} {v : V} {rows : List (List Int)} (h : RowsH H v rows) : Dp K H v (dRows rows) := by
  obtain ⟨a, vs, rfl, q, p⟩ := h
  exact .tup (sqt q) (dpAll_rows p)
theorem cmp_int (i : Int) : Cmp (.int i) := ⟨rfl, by show PyData.depth (.int i) ≤ 40; unfold PyData.depth; omega⟩
theorem canAll_ints : ∀ ns : List Int, PyData.canLayAll0 (ns.map PyData.int) = true
  | [] => by simp [PyData.canLayAll0]
  | n :: ns => by
    simp only [List.map_cons, PyData.canLayAll0, PyData.canLay0, canAll_ints ns, Bool.and_true, Bool.true_and]
theorem can_dI (ns : List Int) : (dI ns).canLay0 = true := by
  unfold dI PyData.canLay0
  exact canAll_ints ns
theorem canAll_rows : ∀ rows : List (List Int), PyData.canLayAll0 (rows.map dI) = true
  | [] => by simp [PyData.canLayAll0]
  | r :: rows => by
    simp only [List.map_cons, PyData.canLayAll0, can_dI, canAll_rows rows, Bool.and_true]
theorem depth_ints : ∀ ns : List Int, PyData.depthAll (ns.map PyData.int) = 0
  | [] => by simp [PyData.depthAll]
  | n :: ns => by simp only [List.map_cons, PyData.depthAll, PyData.depth, depth_ints ns, Nat.max_self]
theorem depth_dI (ns : List Int) : (dI ns).depth = 1 := by
  unfold dI PyData.depth
  rw [depth_ints]
theorem depth_rows : ∀ rows : List (List Int), PyData.depthAll (rows.map dI) ≤ 1
  | [] => by simp [PyData.depthAll]
  | r :: rows => by
    simp only [List.map_cons, PyData.depthAll, depth_dI]
    exact Nat.max_le.mpr ⟨Nat.le_refl _, depth_rows rows⟩
theorem cmp_dI (ns : List Int) : Cmp (dI ns) := ⟨can_dI ns, by rw [depth_dI]; decide⟩
theorem cmp_rows (rows : List (List Int)) : Cmp (dRows rows) := by
  refine ⟨by unfold dRows PyData.canLay0; exact canAll_rows rows, ?_⟩
  have := depth_rows rows
  unfold dRows PyData.depth
  omega
theorem cmp_lrows (rows : List (List Int)) : Cmp (.list (rows.map dI)) := by
  refine ⟨by unfold PyData.canLay0; exact canAll_rows rows, ?_⟩
  have := depth_rows rows
  unfold PyData.depth
  omega
theorem cmp_lints (ns : List Int) : Cmp (.list (ns.map .int)) := by
  refine ⟨by unfold PyData.canLay0; exact canAll_ints ns, ?_⟩
  unfold PyData.depth
  rw [depth_ints]
  decide
theorem eqvAll_ints : ∀ a b : List Int, PyData.eqvAll (a.map .int) (b.map .int) = decide (a = b)
  | [], [] => by simp [PyData.eqvAll]
  | [], _ :: _ => by simp [PyData.eqvAll]
  | _ :: _, [] => by simp [PyData.eqvAll]
  | x :: a, y :: b => by
    simp only [List.map_cons, PyData.eqvAll, PyData.eqv, eqvAll_ints a b, List.cons.injEq, Bool.decide_and]
    by_cases e : x = y <;> simp [e]
theorem eqv_dI (a b : List Int) : PyData.eqv (dI a) (dI b) = decide (a = b) := by
  unfold dI PyData.eqv
  exact eqvAll_ints a b
theorem eqvAll_rows : ∀ a b : List (List Int), PyData.eqvAll (a.map dI) (b.map dI) = decide (a = b)
  | [], [] => by simp [PyData.eqvAll]
  | [], _ :: _ => by simp [PyData.eqvAll]
  | _ :: _, [] => by simp [PyData.eqvAll]
  | x :: a, y :: b => by
    simp only [List.map_cons, PyData.eqvAll, eqv_dI, eqvAll_rows a b, List.cons.injEq, Bool.decide_and]
theorem eqv_rows (a b : List (List Int)) : PyData.eqv (dRows a) (dRows b) = decide (a = b) := by
  unfold dRows PyData.eqv
  exact eqvAll_rows a b
theorem eqv_lrows (a b : List (List Int)) : PyData.eqv (.list (a.map dI)) (.list (b.map dI)) = decide (a = b) := by
  unfold PyData.eqv
  exact eqvAll_rows a b
theorem eqv_lints (a b : List Int) : PyData.eqv (.list (a.map .int)) (.list (b.map .int)) = decide (a = b) := by
  unfold PyData.eqv
  exact eqvAll_ints a b
theorem any_rows (rows : List (List Int)) (r : List Int) : (rows.map dI).any (fun z => PyData.eqv z (dI r)) = decide (r ∈ rows) := by
  rw [List.any_map]
  by_cases h : r ∈ rows
  · rw [decide_eq_true h, List.any_eq_true]
    exact ⟨r, h, by show PyData.eqv (dI r) (dI r) = true; rw [eqv_dI]; exact decide_eq_true rfl⟩
  · rw [decide_eq_false h, List.any_eq_false]
    intro x hx
    show ¬ PyData.eqv (dI x) (dI r) = true
    rw [eqv_dI]
    simp only [decide_eq_true_eq]
    exact fun z => h (z ▸ hx)
theorem any_ints (ns : List Int) (n : Int) : (ns.map PyData.int).any (fun z => PyData.eqv z (.int n)) = decide (n ∈ ns) := by
  rw [List.any_map]
  by_cases h : n ∈ ns
  · rw [decide_eq_true h, List.any_eq_true]
    exact ⟨n, h, by show PyData.eqv (.int n) (.int n) = true; unfold PyData.eqv; simp⟩
  · rw [decide_eq_false h, List.any_eq_false]
    intro x hx
    show ¬ PyData.eqv (.int x) (.int n) = true
    unfold PyData.eqv
    simp only [beq_iff_eq]
    exact fun z => h (z ▸ hx)
theorem cmp_str (x : Str) (h : (PyData.str x).canLay0 = true) : Cmp (.str x) := ⟨h, by unfold PyData.depth; omega⟩
theorem cmp_nil : Cmp (dI []) := cmp_dI []
/-! comprehensions by walks -/
section
variable {J J1 : It} {n : Nat} {G : Hp → Prop} {Y : Nat → Hp → V → Hp → Prop} {g g1 : TG} {tt tt1 : TT} {te tk tv : TE} {wi1 : TI} {vs vs1 : List Nat} {σ : L2.St} {H1 : Hp} {D : Addr} {Qd : Hp → Prop}
theorem dcTW (w : Walk J n G Y) (Pv : Nat → Hp → Prop) (h0 : Pv 0 (upd H1 D (.dT []))) (hG : ∀ i H, i ≤ n → Pv i H → G H)
    (hs : ∀ i x H H', i < n → Pv i H → Y i H x H' → g x (wipe σ vs) H' fun σ2 H2 => wipe σ2 vs = wipe σ vs ∧ tt σ2 H2 fun b H3 =>
      if b = true then tk σ2 H3 fun y H4 => tv σ2 H4 fun z H5 => ∃ es ky kb, y = .ref kb ∧ H5 kb = some (.tup (ky.map kV)) ∧ H5 D = some (.dT es) ∧ es.length < sizeLine ∧ Pv (i + 1) (upd H5 D (.dT (putK es ky z))) else Pv (i + 1) H3) (hd : ∀ H, Pv n H → Qd H) :
    ∃ W : Nat → Nat → Hp → Prop, (∃ m, W 0 m (upd H1 D (.dT []))) ∧ ∀ i m H, W i m H →
      (J.stop i H ∧ Qd H) ∨ (J.go i H ∧ ∃ Nx : Hp → Prop, (∀ H', Nx H' → ∃ m', m' < m ∧ W (i + 1) m' H') ∧ ∀ x H', J.yld i H x H' → g x (wipe σ vs) H' fun σ2 H2 => wipe σ2 vs = wipe σ vs ∧ tt σ2 H2 fun b H3 =>
        if b = true then tk σ2 H3 fun y H4 => tv σ2 H4 fun z H5 => ∃ es ky kb, y = .ref kb ∧ H5 kb = some (.tup (ky.map kV)) ∧ H5 D = some (.dT es) ∧ es.length < sizeLine ∧ Nx (upd H5 D (.dT (putK es ky z))) else Nx H3) := by
  refine ⟨fun i m H => m = n - i ∧ i ≤ n ∧ Pv i H, ⟨n, rfl, Nat.zero_le _, h0⟩, fun i m H ⟨em, hi, p⟩ => ?_⟩
  subst em
  by_cases hlt : i < n
  · exact .inr ⟨w.goes i H hlt (hG i H hi p), Pv (i + 1), fun H' p' => ⟨n - (i + 1), by omega, rfl, hlt, p'⟩, fun x H' y => hs i x H H' hlt p (w.yields i H x H' hlt (hG i H hi p) y)⟩
  · have e : i = n := by omega
    subst e
    exact .inl ⟨w.stops H (hG i H hi p), hd H p⟩
end
theorem walk_zipT {K : PySem.W.Frag} {a b : Addr} {xs ys : List V} {n : Nat} (hn : n = min xs.length ys.length) : Walk (RZ.ItzT K a b) n (fun H => SqT K H a xs ∧ SqT K H b ys) (YPair (fun i => xs[i]?) (fun i => ys[i]?)) where
  goes := fun i H hi hq => ⟨xs, ys, xs[i]'(by omega), ys[i]'(by omega), hq.1, hq.2, List.getElem?_eq_getElem _, List.getElem?_eq_getElem _⟩
  stops := fun H hq => ⟨xs, ys, hq.1, hq.2, by omega⟩
  yields := fun i H x H' hi hq ⟨T, u, v, e, nn, w, z1, z2⟩ => ⟨T, u, v, e, nn, w, z1 xs hq.1, z2 ys hq.2⟩
/-! heap steps -/
theorem upd_at {H : Hp} {p b : Addr} {o o' : HO} (hp : H p = none) (e : H b = some o') : upd H p o b = some o' := by
  rw [upd_ne (fun z => by rw [z, hp] at e; cases e)]
  exact e
theorem paired_at {α β : Type} {R : α → β → Prop} : ∀ {xs : List α} {ys : List β} {i : Nat} {x : α}, Paired R xs ys → xs[i]? = some x → ∃ y, ys[i]? = some y ∧ R x y
  | _, _, i, x, .nil, h => by simp at h
  | _, _, 0, x, .cons a r, h => by
    simp only [List.getElem?_cons_zero, Option.some.injEq] at h
    subst h
    exact ⟨_, rfl, a⟩
  | _, _, i + 1, x, .cons a r, h => by
    simp only [List.getElem?_cons_succ] at h
    obtain ⟨y, e, q⟩ := paired_at r h
    exact ⟨y, by simpa using e, q⟩
theorem paired_at' {α β : Type} {R : α → β → Prop} : ∀ {xs : List α} {ys : List β} {i : Nat} {y : β}, Paired R xs ys → ys[i]? = some y → ∃ x, xs[i]? = some x ∧ R x y
  | _, _, i, y, .nil, h => by simp at h
  | _, _, 0, y, .cons a r, h => by
    simp only [List.getElem?_cons_zero, Option.some.injEq] at h
    subst h
    exact ⟨_, rfl, a⟩
  | _, _, i + 1, y, .cons a r, h => by
    simp only [List.getElem?_cons_succ] at h
    obtain ⟨x, e, q⟩ := paired_at' r h
    exact ⟨x, by simpa using e, q⟩
theorem paired_app {α β : Type} {R : α → β → Prop} : ∀ {xs us : List α} {ys ws : List β}, Paired R xs ys → Paired R us ws → Paired R (xs ++ us) (ys ++ ws)
  | _, _, _, _, .nil, h => h
  | _, _, _, _, .cons a r, h => .cons a (paired_app r h)
theorem paired_one {α β : Type} {R : α → β → Prop} {x : α} {y : β} (h : R x y) : Paired R [x] [y] := .cons h .nil
theorem at_ints {ns : List Int} {i : Nat} {x : V} (h : (ns.map V.int)[i]? = some x) : ∃ z, ns[i]? = some z ∧ x = V.int z := by
  rw [List.getElem?_map] at h
  cases e : ns[i]? with
  | none =>
    rw [e] at h
    cases h
  | some z =>
    rw [e] at h
    exact ⟨z, rfl, (Option.some.inj h).symm⟩
/-! rules with the known frame told apart from the context (for comprehensions) -/
section
variable {X : Cx}
theorem ixT (K : PySem.W.Frag) (h : X.K = K := by rfl) : IxR X (rIxT K) := h ▸ ix_tup
theorem ixL (K : PySem.W.Frag) (h : X.K = K := by rfl) : IxR X (rIxL K) := h ▸ ix_list
theorem catA (K : PySem.W.Frag) (h : X.K = K := by rfl) : OpR X (binaryOp .Add) (rCatA K) := h ▸ op_catA
theorem tupleOf (K : PySem.W.Frag) (h : X.K = K := by rfl) : CallR X (.type "tuple") (fun xs H Q => ∃ p ys, xs = [.ref p] ∧ ((SqL K H p ys ∧ ∀ l, H l = none → Q (.ref l) (upd H l (.tup ys))) ∨ (SqT K H p ys ∧ Q (.ref p) H))) := h ▸ call_tuple_of
theorem eqDD (K : PySem.W.Frag) (hu : X.A.units + 64 < cLine) (h : X.K = K := by rfl) : OpR X (compareOp .Eq) (fun x y H Q => ∃ d e, Dp K H x d ∧ Dp K H y e ∧ Cmp d ∧ Cmp e ∧ Q (.bl (PyData.eqv d e)) H) := h ▸ op_eqDD hu
theorem neDD (K : PySem.W.Frag) (hu : X.A.units + 64 < cLine) (h : X.K = K := by rfl) : OpR X (compareOp .NotEq) (fun x y H Q => ∃ d e, Dp K H x d ∧ Dp K H y e ∧ Cmp d ∧ Cmp e ∧ Q (.bl (!PyData.eqv d e)) H) := h ▸ op_neDD hu
theorem inDD (K : PySem.W.Frag) (hu : X.A.units + 64 < cLine) (h : X.K = K := by rfl) : OpR X (compareOp .In) (fun x y H Q => ∃ d ds, Dp K H x d ∧ (Dp K H y (.tuple ds) ∨ Dp K H y (.list ds)) ∧ Cmp d ∧ PyData.canLayAll0 ds = true ∧ Q (.bl (ds.any fun z => PyData.eqv z d)) H) := h ▸ op_inDD hu
theorem notInDD (K : PySem.W.Frag) (hu : X.A.units + 64 < cLine) (h : X.K = K := by rfl) : OpR X (compareOp .NotIn) (fun x y H Q => ∃ d ds, Dp K H x d ∧ (Dp K H y (.tuple ds) ∨ Dp K H y (.list ds)) ∧ Cmp d ∧ PyData.canLayAll0 ds = true ∧ Q (.bl (!ds.any fun z => PyData.eqv z d)) H) := h ▸ op_notInDD hu
theorem piT (K : PySem.W.Frag) {tg l : Expr} {tl : TE} (he : PE X l tl) (h : X.K = K := by rfl) : PI X tg l (iTup K tl) := h ▸ pi_tup he
theorem pg_tupK (K : PySem.W.Frag) {es : List Expr} {kk n : Nat} {t : TGs} {pos : Pos} (hc : X.calm = true) (h : PGs X es t) (hn : (assignEach es X.env).length = n := by rfl) (hst : (assignEach es X.env).findIdx? (·.1) = none := by rfl) (e : X.K = K := by rfl) : PG X (.Tuple es kk pos) (gTup K n t) := e ▸ pg_tup hc h hn hst
theorem piL (K : PySem.W.Frag) {tg l : Expr} {tl : TE} (he : PE X l tl) (h : X.K = K := by rfl) : PI X tg l (iList K tl) := h ▸ pi_list he
end
theorem IH.rd {K : PySem.W.Frag} {H : Hp} {v : V} {ns : List Int} (h : IH H v ns) : ∃ a, v = .ref a ∧ SqT K H a (ns.map V.int) := let ⟨a, e, q⟩ := h; ⟨a, e, sqt q⟩
end GX
namespace GX
open PySem PySem.Spec PyProof.Rows L2
/-- xs[-1] -/
theorem pget_last {X : Cx} : PGet X (fun o i H Q => ∃ p xs v, o = .ref p ∧ i = .int (-1) ∧ SqL X.K H p xs ∧ xs[xs.length - 1]? = some v ∧ Q v H) := by
  intro pins s σ H o i ov iv Q I ro ri h
  obtain ⟨p, xs, v, rfl, rfl, hq, hv, q⟩ := h
  cases ro
  obtain ⟨t, rfl⟩ := ri
  obtain ⟨its, r, pl, hz⟩ := I.list hq
  obtain ⟨w, ew, rw'⟩ := r.get hv
  have hl := r.length
  have hlt : xs.length - 1 < xs.length := (List.getElem?_eq_some_iff.mp hv).1
  have e : ((-1 : Int) + (its.toArray.size : Int)).toNat = xs.length - 1 := by
    rw [List.size_toArray, ← hl]
    omega
  have hs : its.toArray.size = xs.length := by rw [List.size_toArray, hl]
  have hn := line63
  exact wpAny_getItem_list_neg pl.isList (by omega) (by omega) (by omega) (by rw [e]; simpa using ew) ⟨v, H, I, rw', q⟩
end GX

set_option Elab.async false
set_option linter.all false
set_option maxRecDepth 100000
set_option maxHeartbeats 4000000
/-! y = {k: v for t in i}, y a local name -/
namespace GX
open PySem PySem.Spec PyProof.Rows L2
theorem swapD {kx vx : Expr} {gs : List Comprehension} {scope : Scope} {pos py : Pos} {y : Str} {l : Nat} {env : Env} (hk : env.scope.kind = .function) (hy : env.scope.names.lookup y = some .local) (hl : (py.line == pos.line) = true)
    (ha : (scope.names.any fun p => p.1 == y && (p.2 == .local || p.2 == .cell)) = false) : swapsWith (.DictComp kx vx gs scope pos) (some (.Name y py)) l env = pure true := by
  have kind : env.kindOf y = some .local := hy
  have block : env.blockKind = .function := by
    unfold Env.blockKind
    rw [hk]
    rfl
  have ha' : (scope.names.any fun (n, k) => n == y && (k == .local || k == .cell)) = false := ha
  unfold swapsWith
  simp only [block, kind, ha', Expr.pos, hl]
  rfl
theorem ps_setDc {X : Cx} {i : Nat} {y : Str} {py : Pos} {kx vx tg iter : Expr} {ifs : List Expr} {scope : Scope} {own : List (Str × Nat)} {pos spos : Pos} {wi : TI} {g : TG} {tt : TT} {tk tv : TE} (hc : X.calm = true) (hN : X.N.Nodup) (hy : X.N[i]? = some y) (loc : X.env.scope.names.lookup y = some .local)
    (sw : swapsWith (.DictComp kx vx [⟨tg, iter, ifs, 0⟩] scope pos) (some (.Name y py)) spos.line X.env = pure true) (hi : PI X tg iter wi) (ok : BlkOk X.N X.env.scope scope own)
    (hg : ∀ s H C cl fp, PG (X.blk s H scope (compEnvC scope cl C X.env) fp) tg g) (ht : ∀ s H C cl fp, PTs (X.blk s H scope (compEnvC scope cl C X.env) fp) ifs tt)
    (hk : ∀ s H C cl fp, PE (X.blk s H scope (compEnvC scope cl C X.env) fp) kx tk) (hv : ∀ s H C cl fp, PE (X.blk s H scope (compEnvC scope cl C X.env) fp) vx tv) (hs : ∀ x, foldedSetIterable iter X.env x = pure x := by intro _; rfl) :
    PS X (.Assign [.Name y py] (.DictComp kx vx [⟨tg, iter, ifs, 0⟩] scope pos) spos) (tAsg (tDc wi g tt tk tv (own.map (·.2))) (gName i)) := by
  refine ⟨fun pins s σ H D I h => ?_⟩
  rw [exec_Assign_Name_used _ _ _ _ sw]
  have reading : tDc wi g tt tk tv (own.map (·.2)) σ H (fun x H1 => gName i x σ H1 D.nx) := h
  refine wpAny_bind (wpAny_standAt (wpAny_bind ?_))
  show wpAny _ X.A (comprehension (.DictComp kx vx [⟨tg, iter, ifs, 0⟩] scope pos) scope X.env (firstIterPos [⟨tg, iter, ifs, 0⟩] pos) newDict false (eval iter X.env) (some (assign (.Name y py) X.env)) >>= _) _ _ s
  refine wpAny_bind (thn (dc_core (Qf := fun _ s' => SP X pins D .next s') hc hN I hi ok hg ht hk hv hs reading fun L C s' m H' I' q hn f => ?_) fun _ s' hq => wpAny_pure (wpAny_pure hq))
  show wpAny _ _ (assign (.Name y py) X.env (.ref L)) _ _ _
  obtain ⟨f0, f1, f2, f3, f4, f5⟩ := f
  refine wpAny_assign_Name (store_ok2 (v := V.ref L) I' hN hy (.inl loc) rfl (fun s2 I2 ⟨a, sb, ha⟩ => ?_) (.inr loc))
  have apart : C ≠ a := ha.elim (fun z => z ▸ f1) fun z e => f4 y a z e.symm
  exact ⟨m, hn.sameBut sb apart, fun h3 sb3 => ⟨_, H', I2.turned (t' := s2.toks) (fun b o hb e => (sb3.2 b hb).trans e) f0 f1 f3 f4 f5, q⟩⟩
theorem dcW {J : It} {n : Nat} {G : Hp → Prop} {Y : Nat → Hp → V → Hp → Prop} {g : TG} {tt : TT} {tk tv : TE} {vs : List Nat} {σ : L2.St} {H1 : Hp} {D : Addr} {Qd : Hp → Prop} (w : Walk J n G Y) (Pv : Nat → Hp → Prop) (begin0 : Pv 0 (upd H1 D (.dK []))) (hG : ∀ i H, i ≤ n → Pv i H → G H)
    (turn : ∀ i x H H', i < n → Pv i H → Y i H x H' → g x (wipe σ vs) H' fun σ2 H2 => wipe σ2 vs = wipe σ vs ∧ tt σ2 H2 fun b H3 =>
      if b = true then tk σ2 H3 fun y H4 => tv σ2 H4 fun z H5 => ∃ es ky, y = kV ky ∧ H5 D = some (.dK es) ∧ es.length < sizeLine ∧ Pv (i + 1) (upd H5 D (.dK (putK es ky z))) else Pv (i + 1) H3) (fin : ∀ H, Pv n H → Qd H) :
    ∃ W : Nat → Nat → Hp → Prop, (∃ m, W 0 m (upd H1 D (.dK []))) ∧ ∀ i m H, W i m H →
      (J.stop i H ∧ Qd H) ∨ (J.go i H ∧ ∃ Nx : Hp → Prop, (∀ H', Nx H' → ∃ m', m' < m ∧ W (i + 1) m' H') ∧ ∀ x H', J.yld i H x H' → g x (wipe σ vs) H' fun σ2 H2 => wipe σ2 vs = wipe σ vs ∧ tt σ2 H2 fun b H3 =>
        if b = true then tk σ2 H3 fun y H4 => tv σ2 H4 fun z H5 => ∃ es ky, y = kV ky ∧ H5 D = some (.dK es) ∧ es.length < sizeLine ∧ Nx (upd H5 D (.dK (putK es ky z))) else Nx H3) := by
  refine ⟨fun i m H => m = n - i ∧ i ≤ n ∧ Pv i H, ⟨n, rfl, Nat.zero_le _, begin0⟩, fun i m H ⟨em, hi, p⟩ => ?_⟩
  subst em
  by_cases hlt : i < n
  · exact .inr ⟨w.goes i H hlt (hG i H hi p), Pv (i + 1), fun H' p' => ⟨n - (i + 1), by omega, rfl, hlt, p'⟩, fun x H' y => turn i x H H' hlt p (w.yields i H x H' hlt (hG i H hi p) y)⟩
  · have e : i = n := by omega
    subst e
    exact .inl ⟨w.stops H (hG i H hi p), fin H p⟩
end GX

set_option Elab.async false
set_option linter.all false
set_option maxRecDepth 100000
set_option maxHeartbeats 4000000
/-! zip of a tuple and a list -/
namespace GX
open PySem PySem.Spec PyProof.Rows L2
def ItzM (K : PySem.W.Frag) (a b : Addr) : It where
  go i H := ∃ xs ys x y, SqT K H a xs ∧ SqL K H b ys ∧ xs[i]? = some x ∧ ys[i]? = some y
  yld i H v H' := ∃ T x y, v = .ref T ∧ H T = none ∧ H' = upd H T (.tup [x, y]) ∧ (∀ xs, SqT K H a xs → xs[i]? = some x) ∧ ∀ ys, SqL K H b ys → ys[i]? = some y
  stop i H := ∃ xs ys, SqT K H a xs ∧ SqL K H b ys ∧ min xs.length ys.length = i
theorem walk_zipM {K : PySem.W.Frag} {a b : Addr} {xs ys : List V} {n : Nat} (hn : n = min xs.length ys.length) : Walk (ItzM K a b) n (fun H => SqT K H a xs ∧ SqL K H b ys) (YPair (fun i => xs[i]?) (fun i => ys[i]?)) where
  goes := fun i H hi hq => ⟨xs, ys, xs[i]'(by omega), ys[i]'(by omega), hq.1, hq.2, List.getElem?_eq_getElem _, List.getElem?_eq_getElem _⟩
  stops := fun H hq => ⟨xs, ys, hq.1, hq.2, hn.symm⟩
  yields := fun i H x H' hi hq ⟨T, u, v, e, nn, w, z1, z2⟩ => ⟨T, u, v, e, nn, w, z1 xs hq.1, z2 ys hq.2⟩
theorem turn_zipM {P : Program} {w : World} {K : PySem.W.Frag} {elts : List Expr} {kk : Nat} {tpos : Pos} {a b z TI TO i1 i2 : Addr} (S : ZipSep2 z TI TO i1 i2 [i1, a] [i2, b]) (na : a ≠ i1) (nb : b ≠ i2) :
    Turn P w K (.Tuple elts kk tpos) (ItzM K a b) [z, TI, TO, i1, i2] z (fun i h => IsZip h z TI TO .none ∧ IsTupOf2 h TI (.ref i1) (.ref i2) ∧ (∃ u v, IsTupOf2 h TO u v) ∧ h.IsTupleIter i1 a i ∧ h.IsListIter i2 b i) where
  mem := List.mem_cons_self ..
  obj := fun i h st c hc => by
    obtain ⟨hz, hTI, ⟨x, y, hTO⟩, ⟨o1, e1, _, d1⟩, ⟨o2, e2, _, d2⟩⟩ := st
    simp only [List.mem_cons, List.not_mem_nil, or_false] at hc
    rcases hc with rfl | rfl | rfl | rfl | rfl
    · exact ⟨_, hz, fun v q => nomatch q⟩
    · exact ⟨_, hTI, fun v q => nomatch q⟩
    · exact ⟨_, hTO, fun v q => nomatch q⟩
    · exact ⟨o1, e1, fun v q => by rw [d1] at q; cases q⟩
    · exact ⟨o2, e2, fun v q => by rw [d2] at q; cases q⟩
  keep := fun i h h' st k => by
    obtain ⟨hz, hTI, ⟨x, y, hTO⟩, h1, h2⟩ := st
    exact ⟨k z (by simp) _ hz, k TI (by simp) _ hTI, ⟨x, y, k TO (by simp) _ hTO⟩, h1.at fun o q => k i1 (by simp) o q, h2.at fun o q => k i2 (by simp) o q⟩
  item := by
    intro X hP hw hK hc i pins s σ H E I hf st hg
    subst hP hw hK
    obtain ⟨hz, hTI, hTO, h1, h2⟩ := st
    obtain ⟨xs, ys, x, y, hqx, hqy, hx, hy⟩ := hg
    obtain ⟨its, rv, p, _⟩ := I.tuple hqx
    obtain ⟨its2, rv2, p2, _⟩ := I.list hqy
    have t1 : s.heap.IsTuple a its.toArray := p
    obtain ⟨u, hu, ru⟩ := rv.get hx
    obtain ⟨u2, hu2, ru2⟩ := rv2.get hy
    have hd := I.ok.hd hc
    have W := WalksT.zipD2 (A := X.A) (prog := X.prog) (w := X.w) S (Draws.tuple (A := X.A.in1) hd i1 a na its.toArray) (Draws.list (A := X.A.in1) hd i2 b nb its2.toArray)
    have lt1 : i < its.length := by
      rcases Nat.lt_or_ge i its.length with q | q
      · exact q
      · rw [List.getElem?_eq_none q] at hu
        cases hu
    have lt2 : i < its2.length := by
      rcases Nat.lt_or_ge i its2.length with q | q
      · exact q
      · rw [List.getElem?_eq_none q] at hu2
        cases hu2
    refine W.item i s _ E (by simp; omega) ⟨hz, hTI, hTO, ⟨h1, t1⟩, h2, p2.isList⟩ fun T vals h' tk hv hle hT mid hk => ⟨.ref T, rfl, ?_⟩
    refine W.go elts kk tpos i T { s with heap := h', toks := tk } _ E mid fun h'' st'' hk2 => ?_
    obtain ⟨v1, v2, e1, e2, rfl⟩ := hv
    have q1 : v1 = u := by
      have q : its[i]? = some v1 := by simpa using e1
      rw [hu] at q
      exact (Option.some.inj q).symm
    have q2 : v2 = u2 := by
      have q : its2[i]? = some v2 := by simpa using e2
      rw [hu2] at q
      exact (Option.some.inj q).symm
    subst q1 q2
    obtain ⟨oT, eT, cT, nT, dT⟩ := hT
    have TnW := W.apart i T h' mid
    have eT2 : h''.get? T = some oT := hk2 T oT TnW eT
    have new : ObjOk X.prog X.w (upd H T (.tup [x, y])) h'' T (.tup [x, y]) := ⟨by show 2 ≤ sizeLine; decide, [v1, v2], .cons ru (.cons ru2 .nil), ⟨oT, eT2, cT, nT, dT⟩⟩
    have sub : ∀ c, c ∉ [z, TI, TO, i1, i2] → c ∉ [z, TO, i1, i2] := fun c hn q => hn (by simp at q ⊢; rcases q with q | q | q | q <;> simp [q])
    have I1 : Inv X pins σ (upd H T (.tup [x, y])) { s with heap := h'', toks := tk } :=
      I.turnedNew (t' := tk) (ch := [z, TI, TO, i1, i2]) (fun c o hb q => hk2 c o (sub c hb) (hk c o (sub c hb) q)) hf hle new
    have hTn : H T = none := I.hok.fresh hle
    obtain ⟨z'', TI'', TO'', ⟨i1'', _⟩, i2'', _⟩ := st''
    refine ⟨.ref T, _, I1, rfl, ⟨T, x, y, rfl, hTn, rfl, fun l hl => by rw [I.tuple_inj hl hqx]; exact hx, fun l hl => by rw [I.list_inj hl hqy]; exact hy⟩, ⟨z'', TI'', TO'', i1'', i2''⟩, fun c hcm => ?_⟩
    have hlt : c < s.heap.objs.size := by
      obtain ⟨u0, v0, hTO⟩ := hTO
      simp only [List.mem_cons, List.not_mem_nil, or_false] at hcm
      rcases hcm with rfl | rfl | rfl | rfl | rfl
      · exact Heap.lt_size hz
      · exact Heap.lt_size hTI
      · exact Heap.lt_size hTO
      · obtain ⟨_, e1, _⟩ := h1; exact Heap.lt_size e1
      · obtain ⟨_, e2, _⟩ := h2; exact Heap.lt_size e2
    rw [upd_ne (Nat.ne_of_lt (Nat.lt_of_lt_of_le hlt hle))]
    exact (hf c hcm).1
  done := by
    intro X hP hw hK hc i pins s σ H E I hf st hg
    subst hP hw hK
    obtain ⟨hz, hTI, hTO, h1, h2⟩ := st
    obtain ⟨xs, ys, hqx, hqy, hend⟩ := hg
    obtain ⟨its, rv, p, _⟩ := I.tuple hqx
    obtain ⟨its2, rv2, p2, _⟩ := I.list hqy
    have t1 : s.heap.IsTuple a its.toArray := p
    have hd := I.ok.hd hc
    have l1 := rv.length
    have l2 := rv2.length
    have W := WalksT.zipD2 (A := X.A) (prog := X.prog) (w := X.w) S (Draws.tuple (A := X.A.in1) hd i1 a na its.toArray) (Draws.list (A := X.A.in1) hd i2 b nb its2.toArray)
    have en : min its.toArray.size its2.toArray.size = i := by
      rw [List.size_toArray, List.size_toArray]
      omega
    rw [en] at W
    have sub : ∀ c, c ∉ [z, TI, TO, i1, i2] → c ∉ [z, TO, i1, i2] := fun c hn q => hn (by simp at q ⊢; rcases q with q | q | q | q <;> simp [q])
    exact W.done s _ E ⟨hz, hTI, hTO, ⟨h1, t1⟩, h2, p2.isList⟩ fun h' tk hk => ⟨rfl, I.turnedL (t' := tk) (ch := [z, TI, TO, i1, i2]) (fun c o hb q => hk c o (sub c hb) q) hf⟩
  self := fun A i s Q E st h => wpAny_pyIter_zip st.1 h
theorem notin2 {x u v : Nat} (h1 : x ≠ u) (h2 : x ≠ v) : x ∉ [u, v] := fun h => (List.mem_cons.mp h).elim h1 fun q => h2 (List.mem_singleton.mp q)
theorem zsep (n a b : Nat) (la : a < n) (lb : b < n) : ZipSep2 (n + 4) (n + 2) (n + 3) n (n + 1) [n, a] [n + 1, b] where
  TIz := Nat.ne_of_lt (by omega : n + 2 < n + 4)
  TOz := Nat.ne_of_lt (by omega : n + 3 < n + 4)
  TITO := Nat.ne_of_lt (by omega : n + 2 < n + 3)
  TIi1 := Nat.ne_of_gt (by omega : n < n + 2)
  mem1 := List.mem_cons_self ..
  zf1 := notin2 (by omega) (by omega)
  Tf1 := notin2 (by omega) (by omega)
  TIi2 := Nat.ne_of_gt (by omega : n + 1 < n + 2)
  mem2 := List.mem_cons_self ..
  zf2 := notin2 (by omega) (by omega)
  Tf2 := notin2 (by omega) (by omega)
  sep1_2 := notin2 (by omega) (by omega)
  sep2_1 := notin2 (by omega) (by omega)
def iZipM (K : PySem.W.Frag) (ta : TA) : TI := fun σ H R => ta σ H fun vs H1 => ∃ a b xs ys, vs = [.ref a, .ref b] ∧ SqT K H1 a xs ∧ SqL K H1 b ys ∧ R (ItzM K a b) H1
theorem pi_zipM {X : Cx} {e e2 : Expr} {ta : TA} {p pos tpos : Pos} {elts : List Expr} {kk : Nat} (hg : Gl X "zip") (hm : X.mg "zip" = none) (ha : PA X [e, e2] ta)
    (hs : starEach [e, e2] X.env = (false, eval e X.env) :: starEach [e2] X.env := by rfl) (hpl : (backTo pos (starEach [e2] X.env)).any (·.1) = false := by rfl) :
    PI X (.Tuple elts kk tpos) (.Call (.Name "zip" p) [e, e2] [] pos) (iZipM X.K ta) := by
  refine ⟨fun pins s σ H R I h => Call_ (ld_blt I hg hm PyProof.Rows.boot_zip (PyProof.Rows.callWith_type1 (thn (ha.run pos pins s σ H _ I h) fun us s1 hx => ?_) hs hpl))⟩
  obtain ⟨vs, H1, I1, r1, a, b, xs, ys, rfl, hqx, hqy, q⟩ := hx
  cases r1 with
  | cons r rr =>
    cases rr with
    | cons r' rr =>
      cases rr
      cases r
      cases r'
      obtain ⟨its, rv, p1, _⟩ := I1.tuple hqx
      obtain ⟨its2, rv2, p2, _⟩ := I1.list hqy
      have t1 : s1.heap.IsTuple a its.toArray := p1
      have la : a < s1.heap.objs.size := by obtain ⟨_, e, _⟩ := id t1; exact Heap.lt_size e
      have lb : b < s1.heap.objs.size := by obtain ⟨_, e, _⟩ := id p2.isList; exact Heap.lt_size e
      refine zip_begins2 (begins_tuple a its.toArray) (begins_list b its2.toArray) t1 p2.isList fun h' hz hTI hTO h1 h2 hsz hk => wpAny_pyIter_zip hz ?_
      have I2 : Inv X pins σ H1 { s1 with heap := h' } := I1.kept (t' := s1.toks) hk
      refine ⟨s1.heap.objs.size + 4, [s1.heap.objs.size + 4, s1.heap.objs.size + 2, s1.heap.objs.size + 3, s1.heap.objs.size, s1.heap.objs.size + 1], _, _, H1, rfl, I2, turn_zipM (zsep _ a b la lb) (Nat.ne_of_lt la) (Nat.ne_of_lt (Nat.lt_succ_of_lt lb)), ⟨hz, hTI, ⟨_, _, hTO⟩, ⟨_, h1, rfl, rfl⟩, ⟨_, h2, rfl, rfl⟩⟩, fun c hcm => ?_, q⟩
      have hle : s1.heap.objs.size ≤ c := by
        simp only [List.mem_cons, List.not_mem_nil, or_false] at hcm
        rcases hcm with rfl | rfl | rfl | rfl | rfl
        · exact Nat.le_add_right _ _
        · exact Nat.le_add_right _ _
        · exact Nat.le_add_right _ _
        · exact Nat.le_refl _
        · exact Nat.le_add_right _ _
      exact I1.fpOk hle (I1.hok.fresh hle)
end GX
namespace GX
open PySem PySem.Spec PyProof.Rows L2
section
variable {X : Cx}
theorem listK (K : PySem.W.Frag) (h : X.K = K := by rfl) : CallR X (.type "list") (fun xs H Q => ∃ p ys, xs = [.ref p] ∧ (SqL K H p ys ∨ SqT K H p ys) ∧ ∀ l, H l = none → Q (.ref l) (upd H l (.lst ys))) := h ▸ call_list_of
theorem lcountK (K : PySem.W.Frag) (h : X.K = K := by rfl) : MtR X "list.count" (rCntI K) := h ▸ mt_lcount
end
end GX
namespace GX
open PySem PySem.Spec PyProof.Rows L2
/-- over a tuple or a list -/
def iBoth (K : PySem.W.Frag) (tl : TE) : TI := fun σ H R => iTup K tl σ H R ∨ iList K tl σ H R
theorem pi_both {X : Cx} {tg l : Expr} {tl : TE} (he : PE X l tl) : PI X tg l (iBoth X.K tl) := ⟨fun pins s σ H R I h => h.elim ((pi_tup he).run pins s σ H R I) ((pi_list he).run pins s σ H R I)⟩
theorem piB (K : PySem.W.Frag) {X : Cx} {tg l : Expr} {tl : TE} (he : PE X l tl) (h : X.K = K := by rfl) : PI X tg l (iBoth K tl) := h ▸ pi_both he
theorem slA (K : PySem.W.Frag) {X : Cx} (h : X.K = K := by rfl) : SlR X (rSlA K) := h ▸ sl_tupA
/-- a list of rows -/
def LRows (H : Hp) (v : V) (rows : List (List Int)) : Prop := ∃ a vs, v = .ref a ∧ H a = some (.lst vs) ∧ Paired (IH H) vs rows
theorem LRows.dp {K : PySem.W.Frag} {H : Hp} {v : V} {rows : List (List Int)} (h : LRows H v rows) : Dp K H v (.list (rows.map dI)) := by
  obtain ⟨a, vs, rfl, q, p⟩ := h
  exact .lst (sql q) (dpAll_rows p)
theorem LRows.same {H H' : Hp} (k : Same H H') {v : V} {rows : List (List Int)} (h : LRows H v rows) : LRows H' v rows := let ⟨a, vs, e, q, p⟩ := h; ⟨a, vs, e, k _ _ q, paired_mono (fun _ _ => IH.kt (kt_same k)) p⟩
theorem LRows.kb {H H' : Hp} (k : Kb H H') {v : V} {rows : List (List Int)} (h : LRows H v rows) : LRows H' v rows := let ⟨a, vs, e, q, p⟩ := h; ⟨a, vs, e, k.1 _ _ (fun ps z => by cases z) q, paired_mono (fun _ _ => IH.kt (kt_kb k)) p⟩
end GX

set_option Elab.async false
set_option linter.all false
set_option maxRecDepth 100000
set_option maxHeartbeats 4000000
/-! sorted(t), t a tuple of ints -/
namespace GX
open PySem PySem.Spec PyProof.Rows L2
section
variable {prog : Program} {w : World} {A : Around} {E : Value → Shared → Prop} {s : Shared}
theorem collect_tup {t : Addr} {us : List Value} {Q : List Value → Shared → Prop} (ht : s.heap.IsTuple t us.toArray) (small : us.length ≤ sizeLine)
    (fin : Q us { s with heap := (s.heap.push (seqObj "list" #[] 0)).update s.heap.objs.size (Obj.mapSeq (· ++ us.toArray)) }) : wpAny (model prog w) A (collect (.ref t)) Q E s := by
  obtain ⟨ob, at_, cls, n, dat⟩ := id ht
  have new0 : (s.heap.push (seqObj "list" #[] 0)).get? s.heap.objs.size = some (seqObj "list" #[] 0) := Heap.get?_push_size _ rfl
  have old : (s.heap.push (seqObj "list" #[] 0)).get? t = some ob := Heap.get?_push_of_some _ at_
  unfold collect
  refine wpAny_bind (wpAny_runValue (codeAny_builtin entry_proto_collect' ?_))
  show wpAny _ _ (newList [] >>= _) _ _ s
  refine wpAny_bind (wpAny_newList (wpAny_pure ⟨Code.quiet_builtin _ (by decide +kernel), codeAny_builtin entry_list_iadd' ?_⟩))
  show wpAny _ _ (Builtin.List.listExtendWith (.ref s.heap.objs.size) (.ref t) (.ref s.heap.objs.size)) _ _ _
  unfold Builtin.List.listExtendWith
  refine wpAny_bind (wpAny_typeOf (T := "tuple") ⟨ob, old, cls⟩ ?_)
  have same : (Value.type "tuple" == Value.type "tuple") = true := by rfl
  rw [if_pos (by rw [same, Bool.or_true])]
  refine wpAny_bind (listItems_at old dat (wpAny_bind (listItems_at (xs := #[]) (n := 0) new0 rfl ?_)))
  rw [if_neg (by simp)]
  have room : ((#[] : Array Value) ++ us.toArray).size ≤ sizeLine + 1 := by
    rw [Array.size_append, List.size_toArray]
    show 0 + us.length ≤ _
    omega
  refine wpAny_bind (listUpdate_at (xs := #[]) (n := 0) new0 rfl ?_ (Nat.zero_le _) room)
  refine wpAny_pure ?_
  show wpAny (model prog w) A (load s.heap.objs.size >>= _) Q E _
  refine wpAny_bind (wpAny_load (get?_update_seq new0 _) ?_)
  have e : ((#[] : Array Value) ++ us.toArray).toList = us := by simp
  show wpAny _ _ (pure ((#[] : Array Value) ++ us.toArray).toList) Q E _
  rw [e]
  exact wpAny_pure fin
theorem sorted_tup {t : Addr} {us : List Value} {lt : Value → Value → Bool} {Q : Value → Shared → Prop} (O : SrtO.Swo lt) (ht : s.heap.IsTuple t us.toArray) (small : us.length ≤ sizeLine)
    (hS : 2 ≤ us.length → ∀ (h₁ : Heap) (a : Addr), h₁.get? a = some (seqObj "list" us.toArray 0) → (∀ b o, s.heap.get? b = some o → b ≠ a ∧ h₁.get? b = some o) → SrtO.SortableO prog w A.in1.in1 { s with heap := h₁ } a us lt)
    (fin : ∀ out : List Value, SrtO.Srtd lt out → SrtO.Stb lt out us → Q (.ref (s.heap.objs.size + 1)) { s with heap := PyProof.Rows.sortedAll s.heap us out.toArray }) :
    wpAny (model prog w) A (call (.builtin "sorted") [.ref t]) Q E s := by
  refine Calls.call_function_entry PyProof.Rows.kind_sorted PyProof.Rows.plain_sorted PyProof.Rows.entry_sorted (PyProof.Rows.args_sorted1 _) ?_
  unfold Builtin.«sorted»
  refine wpAny_bind (m := checkCount "sorted" 1 1 _) (wpAny_pure (wpAny_bind (collect_tup ht small (wpAny_bind (wpAny_newList ?_ small)))))
  generalize eh : (s.heap.push (seqObj "list" #[] 0)).update s.heap.objs.size (Obj.mapSeq (· ++ us.toArray)) = h2
  have size2 : h2.objs.size = s.heap.objs.size + 1 := by rw [← eh, Heap.size_update, size_push']
  have at2 : (h2.push (seqObj "list" us.toArray 0)).get? (s.heap.objs.size + 1) = some (seqObj "list" us.toArray 0) := by
    rw [← size2]
    exact Heap.get?_push_size _ rfl
  have keep2 : ∀ b o, s.heap.get? b = some o → b ≠ s.heap.objs.size + 1 ∧ (h2.push (seqObj "list" us.toArray 0)).get? b = some o := fun b o e => by
    have low : b < s.heap.objs.size := Heap.lt_size e
    refine ⟨Nat.ne_of_lt (Nat.lt_succ_of_lt low), Heap.get?_push_of_some _ ?_⟩
    rw [← eh, Heap.get?_update_ne _ _ _ _ (Nat.ne_of_lt low)]
    exact Heap.get?_push_of_some _ e
  show wpAny _ _ _ _ _ { s with heap := h2.push (seqObj "list" us.toArray 0) }
  rw [size2]
  refine wpAny_bind (wpAny_holding (wpAny_call_entry PyProof.Rows.slot_list_sort ⟨_, at2, rfl⟩ PyProof.Rows.entry_list_sort (SrtO.list_sort_ord O at2 small (fun l2 => hS l2 _ _ at2 keep2) fun out g1 g2 => ⟨_, rfl, ?_⟩) (PyProof.Rows.args_list_sort _)))
  have z := fin out g1 g2
  unfold PyProof.Rows.sortedAll at z
  rw [eh] at z
  exact wpAny_pure ⟨_, rfl, z⟩
end
theorem cr_sortedTI {X : Cx} : CallR X (.builtin "sorted") (fun vs H Q => ∃ (a : Addr) (ns : List Int), vs = [V.ref a] ∧ SqT X.K H a (ns.map V.int) ∧ ∀ (ns' : List Int) (p : Addr), ns'.Perm ns → ns'.Pairwise (· ≤ ·) → H p = none → Q (.ref p) (upd H p (.lst (ns'.map V.int)))) := by
  intro pins s σ H vs us Q I r h
  obtain ⟨a, ns, rfl, hs, q⟩ := h
  obtain ⟨its, rv, ht, small⟩ := I.tuple hs
  rw [Vals.ref1 r]
  refine sorted_tup SrtO.swo_int (show s.heap.IsTuple a its.toArray from ht) (by rw [← rv.length]; exact small) (fun l2 h₁ a' _ _ => SrtO.ints_sortable rv.ints l2) fun out g1 g2 => ?_
  obtain ⟨k1, k2, k3⟩ := SrtO.ints_out rv.ints g1 g2
  obtain ⟨ep, at_⟩ := PyProof.Rows.sortedAll_at s.heap its out.toArray
  have len : ((out.map SrtO.iv).map V.int).length ≤ sizeLine := by
    rw [List.length_map, k2.length_eq]
    rw [List.length_map] at small
    exact small
  exact ⟨.ref _, upd H (s.heap.objs.size + 1) (.lst ((out.map SrtO.iv).map V.int)), I.laid (t' := s.toks) (fun _ _ => PyProof.Rows.sortedAll_old) (Nat.le_succ _) ⟨len, out, ep, vals_of_ints k1, at_⟩, rfl, q _ _ k2 k3 (I.hok.fresh (Nat.le_succ _))⟩
end GX

set_option Elab.async false
set_option linter.all false
set_option maxRecDepth 100000
set_option maxHeartbeats 8000000
/-! set(l), l a list of ints -/
namespace GX
open PySem PySem.Spec PyProof.Rows L2
section
variable {P : Program} {w : World} {A : Around} {E : Value → Shared → Prop} {s : Shared}
/-- a set as it is made -/
abbrev blank (w : World) : Obj := { cls := .type "set", dict := none, data := .set #[] 0 (.fresh 0 0 (!w.params.followText "set-order")) }
theorem set_of_list {l : Addr} {items : Array Value} (ns : List Int) {Q : Value → Shared → Prop} (hh : A.handled = none) (hl : s.heap.IsList l items) (areInts : IntsAre items.toList ns) (few : ns.length + 1 < scanBound)
    (fin : ∀ (h' : Heap) (tk c : Nat), SetR w h' s.heap.objs.size (fun j => decide (j ∈ ns)) c → c ≤ ns.length → (∀ b o, s.heap.get? b = some o → h'.get? b = some o) → Q (.ref s.heap.objs.size) { s with heap := h', toks := tk }) :
    wpAny (model P w) A (call (.type "set") [.ref l]) Q E s := by
  have count : items.size = ns.length := (Array.length_toList (xs := items)).symm.trans (IntsAre.length areInts)
  obtain ⟨c, tl, hmro⟩ := F.called_set.mro
  have made := F.called_set.made
  have sub := F.called_set.sub
  refine wpAny_call (codeAny_of_tree ?_)
  show wpAny _ _ (callAny (.type "set") _) _ _ _
  refine wpAny_pure ⟨Code.quiet_builtin _ (by decide +kernel), codeAny_builtin F.entry_type_call ?_⟩
  rw [Around.under_plain (weight_type_call_type "set" [.ref l] []) rfl]
  have notType := F.called_set.notType
  have can := F.called_set.canCreate
  have chk := F.typeCall_set_1 (.ref l)
  repeat any_goals (first | assumption | wp_step)
  refine codeAny_mono (code_set_led1 (.ref l) (E := E) (Q₁ := fun obj s₁ => obj = .ref s.heap.objs.size ∧ s₁ = { s with heap := s.heap.push (blank w) }) ⟨rfl, rfl⟩) fun r s₁ hr => ?_
  cases r with
  | error e => exact hr
  | ok fl =>
    cases fl with
    | ret obj =>
      obtain ⟨rfl, rfl⟩ := hr
      have at0 : (s.heap.push (blank w)).get? s.heap.objs.size = some (blank w) := Heap.get?_push_size _ rfl
      have ty0 : Shared.TypeIs { s with heap := s.heap.push (blank w) } (.ref s.heap.objs.size) "set" := ⟨_, at0, rfl⟩
      have lookInit := F.called_set.init.lookup
      have bindInit := F.called_set.init.bind (.ref s.heap.objs.size)
      repeat any_goals (first | assumption | wp_step)
      refine codeAny_mono (codeAny_call_builtin (R := wants (fun r s₂ => r = .none ∧ ∃ h' tk c, s₂ = { s with heap := h', toks := tk } ∧ SetR w h' s.heap.objs.size (fun j => decide (j ∈ ns)) c ∧ c ≤ ns.length ∧ ∀ b o, s.heap.get? b = some o → h'.get? b = some o) E) F.called_set.init.plain F.entry_set_init (check_set_init_1 ty0 ?_)) fun r₂ s₂ hr₂ => ?_
      · obtain ⟨⟨oc, od, odata, osl⟩, oat, ocls, nl, odat⟩ := hl
        simp only at ocls odat
        subst ocls
        subst odat
        have oat1 : (s.heap.push (blank w)).get? l = some { cls := .type "list", dict := od, data := .seq items nl, slots := osl } := Heap.get?_push_of_some _ oat
        have no1 := F.sub_list_set
        have no2 := F.sub_list_frozenset
        have no3 : (Value.type "list" == Value.type "dict") = false := by decide
        have list1 : (s.heap.push (blank w)).IsList l items := ⟨_, oat1, rfl, nl, rfl⟩
        unfold Builtin.«set.__init__» noKeywords Builtin.Frozenset.updateFrom
        generalize hPI : pyIter = PI
        wp_walk
        subst hPI
        refine wpAny_pyIter_list list1 (wpAny_bind (wpAny_runValue ?_))
        have low : l < s.heap.objs.size := Heap.lt_size oat
        have size1 : (s.heap.push (blank w)).objs.size = s.heap.objs.size + 1 := Heap.size_push ..
        have apartI : l ≠ (s.heap.push (blank w)).objs.size := by rw [size1]; exact Nat.ne_of_lt (Nat.lt_succ_of_lt low)
        have apartS : s.heap.objs.size ∉ [(s.heap.push (blank w)).objs.size, l] := by
          rw [size1]
          exact notin2 (Nat.ne_of_lt (Nat.lt_succ_self _)) (Nat.ne_of_gt low)
        have vals : ∀ (i : Nat) (v : Value), items[i]? = some v → ∃ k t, ns[i]? = some k ∧ v = .int k t := fun i v hv => by
          have hi : i < ns.length := by rw [← count]; exact (Array.getElem?_eq_some_iff.mp hv).1
          obtain ⟨t, e⟩ := PyProof.Rows.IntsAre.int_at areInts i v (by rw [Array.getElem?_toList]; exact hv)
          have gd : ns.getD i 0 = ns[i] := by rw [List.getD_eq_getElem?_getD, List.getElem?_eq_getElem hi]; rfl
          exact ⟨ns[i], t, List.getElem?_eq_getElem hi, by rw [e, gd]⟩
        have clean : A.in1.in1.in1.handled = none := by simp [hh]
        refine set_update_ints ((Walks.list clean _ l apartI items).toS) s.heap.objs.size apartS ns count few vals (items.size - 0) 0 _ (by omega) (Nat.zero_le _) ⟨⟨_, Heap.get?_push_size _ rfl, rfl, rfl⟩, list1.push _⟩ ⟨0, Nat.le_refl 0, setR_new_at (Heap.get?_push_of_some _ at0)⟩ fun s' c' hm hc' hS' => ?_
        obtain ⟨h', g2, d', tk', os'⟩ := s'
        obtain rfl : g2 = s.gens := hm.gens
        obtain rfl : d' = s.drawn := hm.drawn
        obtain rfl : os' = s.os := hm.os
        show wpAny _ _ _ _ _ _
        refine wpAny_pure ?_
        show wpAny _ _ (ret Value.none) _ _ _
        rw [count] at hc'
        refine wpAny_pure ⟨rfl, h', tk', c', rfl, hS', hc', fun b o e => ?_⟩
        have lowb : b < s.heap.objs.size := Heap.lt_size e
        exact hm.heap b o (by
          rw [size1]
          simp only [List.mem_cons, List.not_mem_nil, or_false, not_or]
          exact ⟨Nat.ne_of_lt lowb, Nat.ne_of_lt (Nat.lt_succ_of_lt lowb)⟩) (Heap.get?_push_of_some _ (Heap.get?_push_of_some _ e))
      · cases r₂ with
        | error e => exact hr₂
        | ok fl₂ =>
          cases fl₂ with
          | ret r =>
            obtain ⟨rfl, h', tk, c', rfl, g1, g2, g3⟩ := hr₂
            repeat any_goals (first | assumption | wp_step)
            exact fin _ _ _ g1 g2 g3
          | _ => exact False.elim hr₂
    | _ => exact False.elim hr
end
theorem cr_setL {X : Cx} (hc : X.calm = true) : CallR X (.type "set") (fun xs H Q => ∃ (l : Addr) (ns : List Int), xs = [V.ref l] ∧ SqL X.K H l (ns.map V.int) ∧ ns.length ≤ 1000 ∧ ∀ (a : Addr) (c : Nat), H a = none → c ≤ ns.length → Q (.ref a) (upd H a (SetO X.w a (fun j => decide (j ∈ ns)) c))) := by
  intro pins s σ H xs us Q I r h
  obtain ⟨l, ns, rfl, hs, hl, q⟩ := h
  obtain ⟨its, rv, pl, hz⟩ := I.list hs
  rw [Vals.ref1 r]
  refine set_of_list ns (I.ok.hd hc) pl.isList (by simpa using RZ.intsAre_vals rv) (by unfold scanBound; omega) fun h' tk c R hc2 k => ?_
  exact ⟨.ref s.heap.objs.size, _, I.laid (t' := tk) k (Nat.le_refl _) (setO_new R), rfl, q _ c (I.hok.fresh (Nat.le_refl _)) hc2⟩
end GX

set_option Elab.async false
set_option linter.all false
set_option maxRecDepth 100000
set_option maxHeartbeats 4000000
/-! a def with the address of its code object -/
namespace GX
open PySem PySem.Spec PyProof.Rows L2
structure FunC (K : PySem.W.Frag) (x qual : Str) (st : Stmt) (f c : Addr) (fd : FuncData) : Prop where
  ex : ∃ (oc : Value) (od : Option Addr) (kV doc pm : Value) (an : Option Addr) (ct : Value) (osl : Array (Option Value)),
    fd = PySem.W.fnOf x qual (defArgs st) (defBody st) (defScope st) .none kV doc pm an (.ref c) ct ∧ K.lookup f = some ⟨oc, od, .func fd, osl⟩ ∧ PySem.W.codeIn K (.ref c) qual = true
  kp : PySem.W.keepIn K (.ref f) = true
theorem FunC.fun {K : PySem.W.Frag} {x qual : Str} {st : Stmt} {f c : Addr} {fd : FuncData} (F : FunC K x qual st f c fd) : Fun K x qual st f fd := by
  obtain ⟨oc, od, kV, doc, pm, an, ct, osl, h⟩ := F.ex
  exact ⟨⟨oc, od, kV, doc, pm, an, .ref c, ct, osl, h⟩, F.kp⟩
theorem funC_mk {K : PySem.W.Frag} {x qual : Str} {st : Stmt} {f c : Addr} {oc : Value} {od an : Option Addr} {osl : Array (Option Value)} {kV doc pm ct : Value} (l : K.lookup f = some ⟨oc, od, .func (PySem.W.fnOf x qual (defArgs st) (defBody st) (defScope st) .none kV doc pm an (.ref c) ct), osl⟩)
    (hc : PySem.W.codeIn K (.ref c) qual = true) (k : PySem.W.keepIn K (.ref f) = true) : FunC K x qual st f c (PySem.W.fnOf x qual (defArgs st) (defBody st) (defScope st) .none kV doc pm an (.ref c) ct) := ⟨⟨oc, od, kV, doc, pm, an, ct, osl, rfl, l, hc⟩, k⟩
theorem FunC.ok {P : Program} {w : World} {K : PySem.W.Frag} {mg : Str → Option Value} {base : Heap} {x qual : Str} {st : Stmt} {f c : Addr} {fd : FuncData} {N ps : List Str} {k : Nat} {sp : Sp} (F : FunC K x qual st f c fd) (S : FnScope N ps (defScope st)) (len : ∀ vs H Q E, sp vs H Q E → vs.length = ps.length)
    (hbody : ∀ (A : Around) (outer : List Env) (s : Shared) (H : Hp) (vs : List V) (Q : VK) (E : XK), Room k (A.deeper (envOfC qual (defScope st) s.heap.objs.size f (.ref c))) → sp vs H Q E →
      ∃ t, PSs (cxOf CX0 P w K mg base N qual (defScope st) f (.ref c) A outer s H E).nox (defBody st) t ∧ t { nx := fun _ H' => Q .non H', rt := Q } (start N vs) H) : FnOk P w K mg base CX0 (k + 1) f fd ps sp := by
  obtain ⟨oc, od, kV, doc, pm, an, ct, osl, rfl, lk, hcd⟩ := F.ex
  refine fn_of lk hcd S len fun A outer s H vs Q E hr hsp => ?_
  obtain ⟨t, h, q⟩ := hbody A outer s H vs Q E hr hsp
  exact ⟨t, h.nox, q⟩
end GX

set_option Elab.async false
set_option linter.all false
set_option maxRecDepth 100000
set_option maxHeartbeats 4000000
/-! zip of two tuples, the pair handed out kept (one name as target) -/
namespace GX
open PySem PySem.Spec PyProof.Rows L2
/-- a zip, whatever it knows of the pair that it gave out -/
abbrev ZipO (h : Heap) (z TI TO : Addr) (v : Value) (f : Bool) : Prop := h.get? z = some { cls := .type "zip", dict := none, data := .fields #[v, .bool f, .bool false, .ref TI, .ref TO], slots := #[] }
def Out (v : Value) : Prop := v = .none ∨ ∃ T : Nat, v = rawInt T
section
variable {prog : Program} {w : World} {A : Around} {E : Value → Shared → Prop} {s : Shared} {z TI TO i1 i2 : Addr} {fp1 fp2 : List Addr} {n1 n2 i : Nat} {P1 P2 : Nat → Value → Prop} {St1 St2 : Nat → Heap → Prop} {a1 a2 v : Value} {f : Bool}
theorem aliveAny {a : Addr} {Q : Option Obj → Shared → Prop} (h : Q (s.heap.get? a) s) : wpAny (model prog w) A (loadIfAlive a) Q E s := fun _ _ _ => h
theorem isFree_any {Q : Bool → Shared → Prop} (hz : ZipO s.heap z TI TO v f) (hv : Out v) (h1 : Q true s) (h2 : ∀ h', ZipO h' z TI TO v true → Heap.SameBut z s.heap h' → Q false { s with heap := h' }) : wpAny (model prog w) A (Builtin.SmallTypes.ownedTupleIsFree (.ref z)) Q E s := by
  unfold Builtin.SmallTypes.ownedTupleIsFree
  refine wpAny_bind (wpAny_field hz rfl (x := v) rfl ?_)
  rcases hv with rfl | ⟨T, rfl⟩
  · exact wpAny_pure h1
  · show wpAny _ _ (loadIfAlive ((T : Int).toNat) >>= _) _ _ _
    refine wpAny_bind (aliveAny ?_)
    cases s.heap.get? ((T : Int).toNat) with
    | none =>
      rw [if_pos (show (none : Option Obj).isNone = true from rfl)]
      exact wpAny_pure h1
    | some o =>
      rw [if_neg (show ¬ ((some o).isNone = true) from Bool.false_ne_true)]
      refine wpAny_bind (wpAny_field hz rfl (x := .bool f) rfl ?_)
      cases f with
      | true =>
        rw [if_neg (show ¬ ((Value.bool true != Value.bool true) = true) from Bool.false_ne_true)]
        exact wpAny_pure (h2 _ hz (.refl _ _))
      | false =>
        rw [if_pos (show (Value.bool false != Value.bool true) = true from rfl)]
        exact wpAny_bind (wpAny_setField_rec hz (by simp) fun g hg sg => wpAny_pure (h2 g hg sg))

theorem zipNext_item {Q : Value → Shared → Prop} (S : ZipSep2 z TI TO i1 i2 fp1 fp2) (D1 : Draws prog w A i1 fp1 n1 P1 St1) (D2 : Draws prog w A i2 fp2 n2 P2 St2) (hz : ZipO s.heap z TI TO v f) (hv : Out v) (hTI : IsTupOf2 s.heap TI (.ref i1) (.ref i2)) (hTO : IsTupOf2 s.heap TO a1 a2) (q1 : St1 i s.heap) (q2 : St2 i s.heap) (l1 : i < n1) (l2 : i < n2)
    (hQ : ∀ (y1 y2 : Value) (g : Heap) (tk : Nat) (v' : Value) (f' : Bool), P1 i y1 → P2 i y2 → Out v' → ZipO g z TI TO v' f' → (∃ b1 b2, IsTupOf2 g TO b1 b2) → St1 (i + 1) g → St2 (i + 1) g → IsTupOf2 g s.heap.objs.size y1 y2 → (∀ c o, c ≠ z → c ≠ TO → c ≠ i1 → c ≠ i2 → s.heap.get? c = some o → g.get? c = some o) → Q (.ref s.heap.objs.size) { s with heap := g, toks := tk }) :
    wpAny (model prog w) A (Builtin.«zip.__next__» ⟨[.ref z], []⟩) (fun r t => ∃ u, r = .done (.ret u) ∧ Q u t) E s := by
  obtain ⟨h0, gs, ds, k0, os⟩ := s
  have zlt : z < h0.objs.size := Heap.lt_size hz
  show wpAny _ _ (field (.ref z) 2 >>= fun _ => _) _ _ _
  refine wpAny_bind (wpAny_field hz rfl (x := .bool false) rfl ?_)
  show wpAny _ _ (field (.ref z) 3 >>= fun _ => _) _ _ _
  refine wpAny_bind (wpAny_field hz rfl (x := .ref TI) rfl (wpAny_bind (wpAny_seqItems hTI rfl ?_)))
  show wpAny _ _ (Builtin.SmallTypes.ownedTupleIsFree (.ref z) >>= fun _ => _) _ _ _
  refine wpAny_bind (isFree_any hz hv ?_ fun g0 hz0 s0 => ?_)
  · rw [if_pos rfl]
    refine wpAny_bind (wpAny_rule (wpAny_bind (wpAny_field hz rfl (x := .ref TO) rfl (wpAny_bind (wpAny_setField_rec hz (by simp) fun g0 hz0 s0 => ?_)))))
    have zz0 : ZipO g0 z TI TO .ellipsis f := hz0
    have c0 : Heap.SameBut z h0 g0 := s0
    clear hz0 s0
    refine wpAny_bind ?_
    simp only [List.zipIdx_cons, List.zipIdx_nil, List.forIn_cons, List.forIn_nil]
    refine wpAny_bind (wpAny_bind (wpAny_onRaise ?_))
    show wpAny _ _ (Builtin.SmallTypes.nextOf (.ref i1) >>= fun _ => _) _ _ ⟨g0, gs, ds, k0, os⟩
    refine wpAny_bind (D1.item i _ _ _ l1 (D1.over q1 c0 S.zf1) fun y1 p1 k1 r1 w1 b1 => wpAny_pure ?_)
    have c1 : Heap.SameBut i1 g0 p1 := b1
    have T1 : IsTupOf2 p1 TO a1 a2 := c1.extBut _ _ S.Ti1 (c0.extBut _ _ S.TOz hTO)
    refine wpAny_bind (wpAny_seqItems (s := ⟨p1, gs, ds, k1, os⟩) T1 rfl (wpAny_bind (updateSeq_IsTupOf2 (s := ⟨p1, gs, ds, k1, os⟩) T1 fun g1 hT1 b2 => ?_)))
    have T2 : IsTupOf2 g1 TO y1 a2 := hT1
    have c2 : Heap.SameBut TO p1 g1 := b2
    refine wpAny_bind (wpAny_letGo (wpAny_pure (wpAny_bind (wpAny_bind (wpAny_onRaise ?_)))))
    show wpAny _ _ (Builtin.SmallTypes.nextOf (.ref i2) >>= fun _ => _) _ _ ⟨g1, gs, ds, k1, os⟩
    refine wpAny_bind (D2.item i _ _ _ l2 (D2.over (D2.over (D2.over q2 c0 S.zf2) c1 S.sep1_2) c2 S.Tf2) fun y2 p2 k2 r2 w2 b3 => wpAny_pure ?_)
    have c3 : Heap.SameBut i2 g1 p2 := b3
    have T3 : IsTupOf2 p2 TO y1 a2 := c3.extBut _ _ S.Ti2 T2
    refine wpAny_bind (wpAny_seqItems (s := ⟨p2, gs, ds, k2, os⟩) T3 rfl (wpAny_bind (updateSeq_IsTupOf2 (s := ⟨p2, gs, ds, k2, os⟩) T3 fun g2 hT3 b4 => ?_)))
    have T4 : IsTupOf2 g2 TO y1 y2 := hT3
    have c4 : Heap.SameBut TO p2 g2 := b4
    refine wpAny_bind (wpAny_letGo (wpAny_pure (wpAny_pure (wpAny_bind (wpAny_seqItems (s := ⟨g2, gs, ds, k2, os⟩) T4 rfl (wpAny_bind (wpAny_newTuple ?_)))))))
    have size2 : g2.objs.size = h0.objs.size := by rw [c4.1, c3.1, c2.1, c1.1, c0.1]
    have thru : ∀ c o, c ≠ TO → c ≠ i1 → c ≠ i2 → g0.get? c = some o → g2.get? c = some o := fun c o n1 n2 n3 e => c4.extBut _ _ n1 (c3.extBut _ _ n3 (c2.extBut _ _ n1 (c1.extBut _ _ n2 e)))
    have zz2 : ZipO g2 z TI TO .ellipsis f := thru _ _ S.TOz.symm S.zi1 S.zi2 zz0
    have w1' : St1 (i + 1) g2 := D1.over (D1.over (D1.over w1 c2 S.Tf1) c3 S.sep2_1) c4 S.Tf1
    have w2' : St2 (i + 1) g2 := D2.over w2 c4 S.Tf2
    show wpAny _ _ (Builtin.SmallTypes.ownedTupleHandOut (.ref z) (.ref g2.objs.size) >>= fun _ => _) _ _ ⟨g2.push { cls := .type "tuple", data := .seq #[y1, y2] }, gs, ds, k2, os⟩
    refine wpAny_bind ?_
    unfold Builtin.SmallTypes.ownedTupleHandOut
    have zz3 : ZipO (g2.push { cls := .type "tuple", data := .seq #[y1, y2] }) z TI TO .ellipsis f := Heap.get?_push_of_some _ zz2
    refine wpAny_bind (wpAny_setField_rec zz3 (by simp) fun g4 hz4 b5 => wpAny_setField_rec (show ZipO g4 z TI TO (rawInt g2.objs.size) f from hz4) (by simp) fun g5 hz5 b6 => ?_)
    have zz5 : ZipO g5 z TI TO (rawInt g2.objs.size) false := hz5
    have c5 : Heap.SameBut z (g2.push { cls := .type "tuple", data := .seq #[y1, y2] }) g4 := b5
    have c6 : Heap.SameBut z g4 g5 := b6
    have up : ∀ c o, c ≠ z → (g2.push { cls := .type "tuple", data := .seq #[y1, y2] }).get? c = some o → g5.get? c = some o := fun c o n e => c6.extBut _ _ n (c5.extBut _ _ n e)
    have up2 : ∀ c o, c ≠ z → g2.get? c = some o → g5.get? c = some o := fun c o n e => up c o n (Heap.get?_push_of_some _ e)
    have TN : IsTupOf2 g5 g2.objs.size y1 y2 := up _ _ (by rw [size2]; exact Nat.ne_of_gt zlt) (Heap.get?_push_size _ rfl)
    refine wpAny_pure ⟨_, rfl, ?_⟩
    show Q (.ref g2.objs.size) ⟨g5, gs, ds, k2, os⟩
    rw [size2] at zz5 TN ⊢
    exact hQ y1 y2 g5 k2 _ false r1 r2 (.inr ⟨_, rfl⟩) zz5 ⟨_, _, up2 _ _ S.TOz T4⟩ (D1.frame _ _ _ w1' fun b hb o e => up2 b o (fun q => S.zf1 (q ▸ hb)) e) (D2.frame _ _ _ w2' fun b hb o e => up2 b o (fun q => S.zf2 (q ▸ hb)) e) TN
      fun c o n0 n1 n2 n3 e => up2 c o n0 (thru c o n1 n2 n3 (c0.extBut _ _ n0 e))
  · rw [if_neg Bool.false_ne_true]
    have zz0 : ZipO g0 z TI TO v true := hz0
    have c0 : Heap.SameBut z h0 g0 := s0
    refine wpAny_bind ?_
    rw [← Array.forIn_toList]
    simp only [List.forIn_cons, List.forIn_nil]
    refine wpAny_bind (wpAny_bind (wpAny_holding ?_))
    show wpAny _ _ (Builtin.SmallTypes.nextOf (.ref i1) >>= fun _ => _) _ _ ⟨g0, gs, ds, k0, os⟩
    refine wpAny_bind (D1.item i _ _ _ l1 (D1.over q1 c0 S.zf1) fun y1 p1 k1 r1 w1 b1 => wpAny_pure (wpAny_pure ?_))
    have c1 : Heap.SameBut i1 g0 p1 := b1
    refine wpAny_bind (wpAny_bind (wpAny_holding ?_))
    show wpAny _ _ (Builtin.SmallTypes.nextOf (.ref i2) >>= fun _ => _) _ _ ⟨p1, gs, ds, k1, os⟩
    refine wpAny_bind (D2.item i _ _ _ l2 (D2.over (D2.over q2 c0 S.zf2) c1 S.sep1_2) fun y2 p2 k2 r2 w2 b3 => wpAny_pure (wpAny_pure (wpAny_pure ?_)))
    have c3 : Heap.SameBut i2 p1 p2 := b3
    show wpAny _ _ (newTuple [y1, y2] >>= fun _ => _) _ _ ⟨p2, gs, ds, k2, os⟩
    refine wpAny_bind (wpAny_newTuple (wpAny_pure ⟨_, rfl, ?_⟩))
    have size2 : p2.objs.size = h0.objs.size := by rw [c3.1, c1.1, c0.1]
    have thru : ∀ c o, c ≠ i1 → c ≠ i2 → g0.get? c = some o → p2.get? c = some o := fun c o n2 n3 e => c3.extBut _ _ n3 (c1.extBut _ _ n2 e)
    have up : ∀ c o, p2.get? c = some o → (p2.push { cls := .type "tuple", data := .seq #[y1, y2] }).get? c = some o := fun c o e => Heap.get?_push_of_some _ e
    have TN : IsTupOf2 (p2.push { cls := .type "tuple", data := .seq #[y1, y2] }) p2.objs.size y1 y2 := Heap.get?_push_size _ rfl
    have w1' : St1 (i + 1) p2 := D1.over w1 c3 S.sep2_1
    show Q (.ref p2.objs.size) ⟨p2.push { cls := .type "tuple", data := .seq #[y1, y2] }, gs, ds, k2, os⟩
    rw [size2] at TN ⊢
    exact hQ y1 y2 _ k2 v true r1 r2 hv (up _ _ (thru _ _ S.zi1 S.zi2 zz0)) ⟨_, _, up _ _ (thru _ _ S.Ti1 S.Ti2 (c0.extBut _ _ S.TOz hTO))⟩ (D1.frame _ _ _ w1' fun b hb o e => up b o e) (D2.frame _ _ _ w2 fun b hb o e => up b o e) TN
      fun c o n0 n1 n2 n3 e => up c o (thru c o n2 n3 (c0.extBut _ _ n0 e))

theorem zipNext_end {Q : Fin → Shared → Prop} (S : ZipSep2 z TI TO i1 i2 fp1 fp2) (D1 : Draws prog w A i1 fp1 n1 P1 St1) (D2 : Draws prog w A i2 fp2 n2 P2 St2) (hz : ZipO s.heap z TI TO v f) (hv : Out v) (hTI : IsTupOf2 s.heap TI (.ref i1) (.ref i2)) (hTO : IsTupOf2 s.heap TO a1 a2) (q1 : St1 i s.heap) (q2 : St2 i s.heap) (l1 : i ≤ n1) (l2 : i ≤ n2) (hend : i = n1 ∨ i = n2)
    (hE : ∀ (g : Heap) (tk : Nat) (x : Addr), (∀ c o, c ≠ z → c ≠ TO → c ≠ i1 → c ≠ i2 → s.heap.get? c = some o → g.get? c = some o) → (∃ o, g.get? x = some o ∧ o.cls = .type "StopIteration") → E (.ref x) { s with heap := g, toks := tk }) :
    wpAny (model prog w) A (Builtin.«zip.__next__» ⟨[.ref z], []⟩) Q E s := by
  obtain ⟨h0, gs, ds, k0, os⟩ := s
  have back : ∀ {q : Heap} {k : Nat} {x : Addr}, ZipO q z TI TO .ellipsis f → (∀ c o, c ≠ z → c ≠ TO → c ≠ i1 → c ≠ i2 → h0.get? c = some o → q.get? c = some o) → (∃ o, q.get? x = some o ∧ o.cls = .type "StopIteration") → wpAny (model prog w) A (setField (.ref z) 0 .none) (fun _ t => E (.ref x) t) E ⟨q, gs, ds, k, os⟩ := fun {q k x} zq kp he => by
    obtain ⟨oe, hoe, hce⟩ := he
    have hne : x ≠ z := fun e => by
      rw [e, zq] at hoe
      cases hoe
      exact absurd hce (by simp)
    refine wpAny_setField_rec (s := ⟨q, gs, ds, k, os⟩) zq (by simp) fun q' _ b => ?_
    have c : Heap.SameBut z q q' := b
    exact hE q' k x (fun b o n0 n1 n2 n3 e => c.extBut _ _ n0 (kp b o n0 n1 n2 n3 e)) ⟨oe, c.extBut _ _ hne hoe, hce⟩
  show wpAny _ _ (field (.ref z) 2 >>= fun _ => _) _ _ _
  refine wpAny_bind (wpAny_field hz rfl (x := .bool false) rfl ?_)
  show wpAny _ _ (field (.ref z) 3 >>= fun _ => _) _ _ _
  refine wpAny_bind (wpAny_field hz rfl (x := .ref TI) rfl (wpAny_bind (wpAny_seqItems hTI rfl ?_)))
  show wpAny _ _ (Builtin.SmallTypes.ownedTupleIsFree (.ref z) >>= fun _ => _) _ _ _
  refine wpAny_bind (isFree_any hz hv ?_ fun g0 hz0 s0 => ?_)
  · rw [if_pos rfl]
    refine wpAny_bind (wpAny_rule (wpAny_bind (wpAny_field hz rfl (x := .ref TO) rfl (wpAny_bind (wpAny_setField_rec hz (by simp) fun g0 hz0 s0 => ?_)))))
    have zz0 : ZipO g0 z TI TO .ellipsis f := hz0
    have c0 : Heap.SameBut z h0 g0 := s0
    clear hz0 s0
    refine wpAny_bind ?_
    simp only [List.zipIdx_cons, List.zipIdx_nil, List.forIn_cons, List.forIn_nil]
    refine wpAny_bind (wpAny_bind (wpAny_onRaise ?_))
    show wpAny _ _ (Builtin.SmallTypes.nextOf (.ref i1) >>= fun _ => _) _ _ ⟨g0, gs, ds, k0, os⟩
    by_cases lt : i < n1
    · refine wpAny_bind (D1.item i _ _ _ lt (D1.over q1 c0 S.zf1) fun y1 p1 k1 r1 w1 b1 => wpAny_pure ?_)
      have c1 : Heap.SameBut i1 g0 p1 := b1
      have T1 : IsTupOf2 p1 TO a1 a2 := c1.extBut _ _ S.Ti1 (c0.extBut _ _ S.TOz hTO)
      refine wpAny_bind (wpAny_seqItems (s := ⟨p1, gs, ds, k1, os⟩) T1 rfl (wpAny_bind (updateSeq_IsTupOf2 (s := ⟨p1, gs, ds, k1, os⟩) T1 fun g1 hT1 b2 => ?_)))
      have c2 : Heap.SameBut TO p1 g1 := b2
      refine wpAny_bind (wpAny_letGo (wpAny_pure (wpAny_bind (wpAny_bind (wpAny_onRaise ?_)))))
      show wpAny _ _ (Builtin.SmallTypes.nextOf (.ref i2) >>= fun _ => _) _ _ ⟨g1, gs, ds, k1, os⟩
      have e2 : i = n2 := by omega
      have w2 : St2 n2 g1 := e2 ▸ D2.over (D2.over (D2.over q2 c0 S.zf2) c1 S.sep1_2) c2 S.Tf2
      refine wpAny_bind (D2.done ⟨g1, gs, ds, k1, os⟩ _ _ w2 fun q x hq he => ?_)
      have hq' : Heap.ExtBut i2 g1 q := hq
      exact back (hq' _ _ S.zi2 (c2.extBut _ _ S.TOz.symm (c1.extBut _ _ S.zi1 zz0))) (fun c o n0 n1 n2 n3 e => hq' _ _ n3 (c2.extBut _ _ n1 (c1.extBut _ _ n2 (c0.extBut _ _ n0 e)))) he
    · have e1 : i = n1 := by omega
      have w1 : St1 n1 g0 := e1 ▸ D1.over q1 c0 S.zf1
      refine wpAny_bind (D1.done ⟨g0, gs, ds, k0, os⟩ _ _ w1 fun q x hq he => ?_)
      have hq' : Heap.ExtBut i1 g0 q := hq
      exact back (hq' _ _ S.zi1 zz0) (fun c o n0 n1 n2 n3 e => hq' _ _ n2 (c0.extBut _ _ n0 e)) he
  · rw [if_neg Bool.false_ne_true]
    have c0 : Heap.SameBut z h0 g0 := s0
    refine wpAny_bind ?_
    rw [← Array.forIn_toList]
    simp only [List.forIn_cons, List.forIn_nil]
    refine wpAny_bind (wpAny_bind (wpAny_holding ?_))
    show wpAny _ _ (Builtin.SmallTypes.nextOf (.ref i1) >>= fun _ => _) _ _ ⟨g0, gs, ds, k0, os⟩
    by_cases lt : i < n1
    · refine wpAny_bind (D1.item i _ _ _ lt (D1.over q1 c0 S.zf1) fun y1 p1 k1 r1 w1 b1 => wpAny_pure (wpAny_pure ?_))
      have c1 : Heap.SameBut i1 g0 p1 := b1
      refine wpAny_bind (wpAny_bind (wpAny_holding ?_))
      show wpAny _ _ (Builtin.SmallTypes.nextOf (.ref i2) >>= fun _ => _) _ _ ⟨p1, gs, ds, k1, os⟩
      have e2 : i = n2 := by omega
      have w2 : St2 n2 p1 := e2 ▸ D2.over (D2.over q2 c0 S.zf2) c1 S.sep1_2
      refine wpAny_bind (D2.done ⟨p1, gs, ds, k1, os⟩ _ _ w2 fun q x hq he => ?_)
      have hq' : Heap.ExtBut i2 p1 q := hq
      exact hE q k1 x (fun c o n0 n1 n2 n3 e => hq' _ _ n3 (c1.extBut _ _ n2 (c0.extBut _ _ n0 e))) he
    · have e1 : i = n1 := by omega
      have w1 : St1 n1 g0 := e1 ▸ D1.over q1 c0 S.zf1
      refine wpAny_bind (D1.done ⟨g0, gs, ds, k0, os⟩ _ _ w1 fun q x hq he => ?_)
      have hq' : Heap.ExtBut i1 g0 q := hq
      exact hE q k0 x (fun c o n0 n1 n2 n3 e => hq' _ _ n2 (c0.extBut _ _ n0 e)) he
end
end GX

set_option Elab.async false
set_option linter.all false
set_option maxRecDepth 100000
set_option maxHeartbeats 4000000
/-! zip of two tuples, one name as target: the rule -/
namespace GX
open PySem PySem.Spec PyProof.Rows L2
section
variable {prog : Program} {w : World} {A : Around} {E : Value → Shared → Prop} {s : Shared} {z TI TO i1 i2 : Addr} {fp1 fp2 : List Addr} {n1 n2 i : Nat} {P1 P2 : Nat → Value → Prop} {St1 St2 : Nat → Heap → Prop} {a1 a2 v : Value} {f : Bool}
theorem zipIter_any {Q : Value → Shared → Prop} (hz : ZipO s.heap z TI TO v f) (h : Q (.ref z) s) : wpAny (model prog w) A (pyIter (.ref z)) Q E s := by
  have ty : s.TypeIs (.ref z) "zip" := ⟨_, hz, rfl⟩
  refine wpAny_pyIter_slot ty F.slot_zip_iter (wpAny_call_entry F.slot_zip_iter ty F.entry_zip_iter (show wpAny _ _ (ret (.ref z)) _ _ s from wpAny_pure ⟨_, rfl, "zip", _, ty, F.slot_zip_next.lookup, h⟩) (F.args_zip_iter_1 _))
theorem zipItem_any {Q : Option Value → Shared → Prop} (S : ZipSep2 z TI TO i1 i2 fp1 fp2) (D1 : Draws prog w A.in1 i1 fp1 n1 P1 St1) (D2 : Draws prog w A.in1 i2 fp2 n2 P2 St2) (hz : ZipO s.heap z TI TO v f) (hv : Out v) (hTI : IsTupOf2 s.heap TI (.ref i1) (.ref i2)) (hTO : IsTupOf2 s.heap TO a1 a2) (q1 : St1 i s.heap) (q2 : St2 i s.heap) (l1 : i < n1) (l2 : i < n2)
    (hQ : ∀ (y1 y2 : Value) (g : Heap) (tk : Nat) (v' : Value) (f' : Bool), P1 i y1 → P2 i y2 → Out v' → ZipO g z TI TO v' f' → (∃ b1 b2, IsTupOf2 g TO b1 b2) → St1 (i + 1) g → St2 (i + 1) g → IsTupOf2 g s.heap.objs.size y1 y2 → (∀ c o, c ≠ z → c ≠ TO → c ≠ i1 → c ≠ i2 → s.heap.get? c = some o → g.get? c = some o) → Q (some (.ref s.heap.objs.size)) { s with heap := g, toks := tk }) :
    wpAny (model prog w) A (pyNext (.ref z)) Q E s := by
  have ty : s.TypeIs (.ref z) "zip" := ⟨_, hz, rfl⟩
  unfold pyNext
  exact wpAny_bind (wpAny_attempt (wpAny_callSpecial?_slot (name := Str.ofString "__next__") ty F.slot_zip_next (wpAny_call_entry F.slot_zip_next ty F.entry_zip_next
    (zipNext_item S D1 D2 hz hv hTI hTO q1 q2 l1 l2 fun y1 y2 g tk v' f' e1 e2 e3 e4 e5 e6 e7 e8 e9 => wpAny_pure (hQ y1 y2 g tk v' f' e1 e2 e3 e4 e5 e6 e7 e8 e9)) (F.args_zip_next_1 _))))
theorem zipEnd_any {Q : Option Value → Shared → Prop} (S : ZipSep2 z TI TO i1 i2 fp1 fp2) (D1 : Draws prog w A.in1 i1 fp1 n1 P1 St1) (D2 : Draws prog w A.in1 i2 fp2 n2 P2 St2) (hz : ZipO s.heap z TI TO v f) (hv : Out v) (hTI : IsTupOf2 s.heap TI (.ref i1) (.ref i2)) (hTO : IsTupOf2 s.heap TO a1 a2) (q1 : St1 i s.heap) (q2 : St2 i s.heap) (l1 : i ≤ n1) (l2 : i ≤ n2) (hend : i = n1 ∨ i = n2)
    (hQ : ∀ (g : Heap) (tk : Nat), (∀ c o, c ≠ z → c ≠ TO → c ≠ i1 → c ≠ i2 → s.heap.get? c = some o → g.get? c = some o) → Q none { s with heap := g, toks := tk }) : wpAny (model prog w) A (pyNext (.ref z)) Q E s := by
  have ty : s.TypeIs (.ref z) "zip" := ⟨_, hz, rfl⟩
  unfold pyNext
  refine wpAny_bind (wpAny_attempt (wpAny_callSpecial?_slot (name := Str.ofString "__next__") ty F.slot_zip_next (wpAny_call_entry F.slot_zip_next ty F.entry_zip_next (zipNext_end S D1 D2 hz hv hTI hTO q1 q2 l1 l2 hend fun g tk x hk he => ?_) (F.args_zip_next_1 _))))
  obtain ⟨o, ho, hc⟩ := he
  exact wpAny_bind (wpAny_isInstance (T := "StopIteration") (b := true) ⟨o, ho, hc⟩ isSubtype_stop (wpAny_pure (hQ g tk hk)))
end
/-- two tuples, the items in new pairs -/
def Itz1 (K : PySem.W.Frag) (a b : Addr) : It where
  go i H := ∃ xs ys x y, SqT K H a xs ∧ SqT K H b ys ∧ xs[i]? = some x ∧ ys[i]? = some y
  yld i H v H' := ∃ T x y, v = .ref T ∧ H T = none ∧ H' = upd H T (.tup [x, y]) ∧ (∀ xs, SqT K H a xs → xs[i]? = some x) ∧ ∀ ys, SqT K H b ys → ys[i]? = some y
  stop i H := ∃ xs ys, SqT K H a xs ∧ SqT K H b ys ∧ min xs.length ys.length = i
theorem turn_zip1 {P : Program} {w : World} {K : PySem.W.Frag} {nm : Str} {ps : Pos} {a b z TI TO i1 i2 : Addr} (S : ZipSep2 z TI TO i1 i2 [i1, a] [i2, b]) (na : a ≠ i1) (nb : b ≠ i2) :
    Turn P w K (.Name nm ps) (Itz1 K a b) [z, TI, TO, i1, i2] z (fun i h => (∃ v f, Out v ∧ ZipO h z TI TO v f) ∧ IsTupOf2 h TI (.ref i1) (.ref i2) ∧ (∃ u v, IsTupOf2 h TO u v) ∧ h.IsTupleIter i1 a i ∧ h.IsTupleIter i2 b i) where
  mem := List.mem_cons_self ..
  obj := fun i h st c hc => by
    obtain ⟨⟨v, f, _, hz⟩, hTI, ⟨x, y, hTO⟩, ⟨o1, e1, _, d1⟩, ⟨o2, e2, _, d2⟩⟩ := st
    simp only [List.mem_cons, List.not_mem_nil, or_false] at hc
    rcases hc with rfl | rfl | rfl | rfl | rfl
    · exact ⟨_, hz, fun v q => nomatch q⟩
    · exact ⟨_, hTI, fun v q => nomatch q⟩
    · exact ⟨_, hTO, fun v q => nomatch q⟩
    · exact ⟨o1, e1, fun v q => by rw [d1] at q; cases q⟩
    · exact ⟨o2, e2, fun v q => by rw [d2] at q; cases q⟩
  keep := fun i h h' st k => by
    obtain ⟨⟨v, f, hv, hz⟩, hTI, ⟨x, y, hTO⟩, h1, h2⟩ := st
    exact ⟨⟨v, f, hv, k z (by simp) _ hz⟩, k TI (by simp) _ hTI, ⟨x, y, k TO (by simp) _ hTO⟩, h1.at fun o q => k i1 (by simp) o q, h2.at fun o q => k i2 (by simp) o q⟩
  item := by
    intro X hP hw hK hc i pins s σ H E I hf st hg
    subst hP hw hK
    obtain ⟨⟨v, f, hv, hz⟩, hTI, hTO, h1, h2⟩ := st
    obtain ⟨xs, ys, x, y, hqx, hqy, hx, hy⟩ := hg
    obtain ⟨its, rv, p, _⟩ := I.tuple hqx
    obtain ⟨its2, rv2, p2, _⟩ := I.tuple hqy
    have t1 : s.heap.IsTuple a its.toArray := p
    have t2 : s.heap.IsTuple b its2.toArray := p2
    obtain ⟨u, hu, ru⟩ := rv.get hx
    obtain ⟨u2, hu2, ru2⟩ := rv2.get hy
    have hd := I.ok.hd hc
    have lt1 : i < its.toArray.size := by
      rw [List.size_toArray]
      exact (List.getElem?_eq_some_iff.mp hu).1
    have lt2 : i < its2.toArray.size := by
      rw [List.size_toArray]
      exact (List.getElem?_eq_some_iff.mp hu2).1
    obtain ⟨u0, v0, hTO0⟩ := hTO
    refine zipItem_any S (Draws.tuple (A := X.A.in1) hd i1 a na its.toArray) (Draws.tuple (A := X.A.in1) hd i2 b nb its2.toArray) hz hv hTI hTO0 ⟨h1, t1⟩ ⟨h2, t2⟩ lt1 lt2 fun y1 y2 g tk v' f' e1 e2 hv' hz' hTO' w1 w2 hT hk => ?_
    have q1 : y1 = u := by
      have q : its[i]? = some y1 := by simpa using e1
      rw [hu] at q
      exact (Option.some.inj q).symm
    have q2 : y2 = u2 := by
      have q : its2[i]? = some y2 := by simpa using e2
      rw [hu2] at q
      exact (Option.some.inj q).symm
    subst q1 q2
    have new : ObjOk X.prog X.w (upd H s.heap.objs.size (.tup [x, y])) g s.heap.objs.size (.tup [x, y]) := ⟨by show 2 ≤ sizeLine; decide, [y1, y2], .cons ru (.cons ru2 .nil), ⟨_, hT, rfl, _, rfl⟩⟩
    have I1 : Inv X pins σ (upd H s.heap.objs.size (.tup [x, y])) { s with heap := g, toks := tk } :=
      I.turnedNew (t' := tk) (ch := [z, TI, TO, i1, i2]) (fun c o hb q => hk c o (fun e => hb (by simp [e])) (fun e => hb (by simp [e])) (fun e => hb (by simp [e])) (fun e => hb (by simp [e])) q) hf (Nat.le_refl _) new
    have hTn : H s.heap.objs.size = none := I.hok.fresh (Nat.le_refl _)
    refine ⟨_, rfl, (wpAny_pure ⟨.ref s.heap.objs.size, _, I1, rfl, ⟨_, x, y, rfl, hTn, rfl, fun l hl => by rw [I.tuple_inj hl hqx]; exact hx, fun l hl => by rw [I.tuple_inj hl hqy]; exact hy⟩, ⟨⟨v', f', hv', hz'⟩, hk _ _ S.TIz S.TITO S.TIi1 S.TIi2 hTI, hTO', w1.1, w2.1⟩, fun c hcm => ?_⟩)⟩
    have hlt : c < s.heap.objs.size := by
      simp only [List.mem_cons, List.not_mem_nil, or_false] at hcm
      rcases hcm with rfl | rfl | rfl | rfl | rfl
      · exact Heap.lt_size hz
      · exact Heap.lt_size hTI
      · exact Heap.lt_size hTO0
      · obtain ⟨_, e1, _⟩ := h1; exact Heap.lt_size e1
      · obtain ⟨_, e2, _⟩ := h2; exact Heap.lt_size e2
    rw [upd_ne (Nat.ne_of_lt hlt)]
    exact (hf c hcm).1
  done := by
    intro X hP hw hK hc i pins s σ H E I hf st hg
    subst hP hw hK
    obtain ⟨⟨v, f, hv, hz⟩, hTI, ⟨u0, v0, hTO⟩, h1, h2⟩ := st
    obtain ⟨xs, ys, hqx, hqy, hend⟩ := hg
    obtain ⟨its, rv, p, _⟩ := I.tuple hqx
    obtain ⟨its2, rv2, p2, _⟩ := I.tuple hqy
    have t1 : s.heap.IsTuple a its.toArray := p
    have t2 : s.heap.IsTuple b its2.toArray := p2
    have hd := I.ok.hd hc
    have m1 := rv.length
    have m2 := rv2.length
    have s1 : its.toArray.size = xs.length := by rw [List.size_toArray, m1]
    have s2 : its2.toArray.size = ys.length := by rw [List.size_toArray, m2]
    refine zipEnd_any S (Draws.tuple (A := X.A.in1) hd i1 a na its.toArray) (Draws.tuple (A := X.A.in1) hd i2 b nb its2.toArray) hz hv hTI hTO ⟨h1, t1⟩ ⟨h2, t2⟩ (by omega) (by omega) (by omega) fun g tk hk => ⟨rfl, I.turnedL (t' := tk) (ch := [z, TI, TO, i1, i2]) (fun c o hb q => hk c o (fun e => hb (by simp [e])) (fun e => hb (by simp [e])) (fun e => hb (by simp [e])) (fun e => hb (by simp [e])) q) hf⟩
  self := fun A i s Q E st h => let ⟨v, f, _, hz⟩ := st.1; zipIter_any hz h
theorem walk_zip1 {K : PySem.W.Frag} {a b : Addr} {xs ys : List V} {n : Nat} (hn : n = min xs.length ys.length) : Walk (Itz1 K a b) n (fun H => SqT K H a xs ∧ SqT K H b ys) (YPair (fun i => xs[i]?) (fun i => ys[i]?)) where
  goes := fun i H hi hq => ⟨xs, ys, xs[i]'(by omega), ys[i]'(by omega), hq.1, hq.2, List.getElem?_eq_getElem _, List.getElem?_eq_getElem _⟩
  stops := fun H hq => ⟨xs, ys, hq.1, hq.2, hn.symm⟩
  yields := fun i H x H' hi hq ⟨T, u, v, e, nn, w, z1, z2⟩ => ⟨T, u, v, e, nn, w, z1 xs hq.1, z2 ys hq.2⟩
def iZip1 (K : PySem.W.Frag) (ta : TA) : TI := fun σ H R => ta σ H fun vs H1 => ∃ a b xs ys, vs = [.ref a, .ref b] ∧ SqT K H1 a xs ∧ SqT K H1 b ys ∧ R (Itz1 K a b) H1
theorem pi_zip1 {X : Cx} {e e2 : Expr} {ta : TA} {p pos ps : Pos} {nm : Str} (hg : Gl X "zip") (hm : X.mg "zip" = none) (ha : PA X [e, e2] ta)
    (hs : starEach [e, e2] X.env = (false, eval e X.env) :: starEach [e2] X.env := by rfl) (hpl : (backTo pos (starEach [e2] X.env)).any (·.1) = false := by rfl) :
    PI X (.Name nm ps) (.Call (.Name "zip" p) [e, e2] [] pos) (iZip1 X.K ta) := by
  refine ⟨fun pins s σ H R I h => Call_ (ld_blt I hg hm PyProof.Rows.boot_zip (PyProof.Rows.callWith_type1 (thn (ha.run pos pins s σ H _ I h) fun us s1 hx => ?_) hs hpl))⟩
  obtain ⟨vs, H1, I1, r1, a, b, xs, ys, rfl, hqx, hqy, q⟩ := hx
  cases r1 with
  | cons r rr =>
    cases rr with
    | cons r' rr =>
      cases rr
      cases r
      cases r'
      obtain ⟨its, rv, p1, _⟩ := I1.tuple hqx
      obtain ⟨its2, rv2, p2, _⟩ := I1.tuple hqy
      have t1 : s1.heap.IsTuple a its.toArray := p1
      have t2 : s1.heap.IsTuple b its2.toArray := p2
      have la : a < s1.heap.objs.size := by obtain ⟨_, e, _⟩ := id t1; exact Heap.lt_size e
      have lb : b < s1.heap.objs.size := by obtain ⟨_, e, _⟩ := id t2; exact Heap.lt_size e
      refine zip_begins2 (begins_tuple a its.toArray) (begins_tuple b its2.toArray) t1 t2 fun h' hz hTI hTO h1 h2 hsz hk => zipIter_any (f := false) hz ?_
      have I2 : Inv X pins σ H1 { s1 with heap := h' } := I1.kept (t' := s1.toks) hk
      refine ⟨s1.heap.objs.size + 4, [s1.heap.objs.size + 4, s1.heap.objs.size + 2, s1.heap.objs.size + 3, s1.heap.objs.size, s1.heap.objs.size + 1], _, _, H1, rfl, I2, turn_zip1 (zsep _ a b la lb) (Nat.ne_of_lt la) (Nat.ne_of_lt (Nat.lt_succ_of_lt lb)), ⟨⟨_, false, .inl rfl, hz⟩, hTI, ⟨_, _, hTO⟩, ⟨_, h1, rfl, rfl⟩, ⟨_, h2, rfl, rfl⟩⟩, fun c hcm => ?_, q⟩
      have hle : s1.heap.objs.size ≤ c := by
        simp only [List.mem_cons, List.not_mem_nil, or_false] at hcm
        rcases hcm with rfl | rfl | rfl | rfl | rfl
        · exact Nat.le_add_right _ _
        · exact Nat.le_add_right _ _
        · exact Nat.le_add_right _ _
        · exact Nat.le_refl _
        · exact Nat.le_add_right _ _
      exact I1.fpOk hle (I1.hok.fresh hle)
theorem piZip1 (K : PySem.W.Frag) {X : Cx} {e e2 : Expr} {ta : TA} {p pos ps : Pos} {nm : Str} (hg : Gl X "zip") (hm : X.mg "zip" = none) (ha : PA X [e, e2] ta) (hK : X.K = K := by rfl)
    (hs : starEach [e, e2] X.env = (false, eval e X.env) :: starEach [e2] X.env := by rfl) (hpl : (backTo pos (starEach [e2] X.env)).any (·.1) = false := by rfl) :
    PI X (.Name nm ps) (.Call (.Name "zip" p) [e, e2] [] pos) (iZip1 K ta) := hK ▸ pi_zip1 hg hm ha hs hpl
end GX

set_option Elab.async false
set_option linter.all false
set_option maxRecDepth 100000
set_option maxHeartbeats 2000000
/-! the defs, their scopes -/
namespace G9
open PySem PySem.Spec PyProof.Rows L2
def top (i : Nat) : Stmt := PySem.Challenge.pw_toldreasons_k05_answers_by_trying.main.body.getD i (.Pass ⟨0, 0, 0, 0⟩)
abbrev sIsWhole : Stmt := top 1
abbrev sCellsOf : Stmt := top 2
abbrev sStretch : Stmt := top 3
abbrev sPartners : Stmt := top 4
abbrev sAreJoined : Stmt := top 5
abbrev sFits : Stmt := top 6
abbrev sUnder : Stmt := top 7
abbrev sStands : Stmt := top 9
abbrev sBroken : Stmt := top 10
abbrev sPartOf : Stmt := top 11
abbrev sCutTo : Stmt := top 12
abbrev sLookup : Stmt := top 14
abbrev sLets : Stmt := top 15
abbrev sByAll : Stmt := top 16
abbrev sAnswers : Stmt := top 17
abbrev sAnsWith : Stmt := top 18
abbrev sCount : Stmt := top 19
abbrev sFirst : Stmt := top 20
abbrev sSettled : Stmt := top 21
abbrev sJudge : Stmt := top 22
abbrev sWithout : Stmt := top 23
abbrev sJoint : Stmt := top 24
abbrev sMoved : Stmt := top 25
abbrev sBeside : Stmt := top 26
abbrev sFree : Stmt := top 27
abbrev sAnsVals : Stmt := top 28
abbrev sCommon : Stmt := top 29
abbrev sForced : Stmt := top 30
abbrev sOpen : Stmt := top 32
abbrev sPick : Stmt := top 33
abbrev sOrder : Stmt := top 34
abbrev sScope : Stmt := top 35
abbrev sRuns : Stmt := top 36
abbrev sLJoined : Stmt := top 37
abbrev sLFits : Stmt := top 38
abbrev sRows : Stmt := top 39
abbrev sLAnswers : Stmt := top 40
abbrev sDrawRule : Stmt := top 41
abbrev sDrawPuzzle : Stmt := top 42
abbrev sWith : Stmt := top 43
abbrev sDrawPart : Stmt := top 44
abbrev sFault : Stmt := top 45
abbrev sShift : Stmt := top 46
abbrev sLCommon : Stmt := top 47
abbrev sTold : Stmt := top 48
abbrev sJudged : Stmt := top 49
abbrev sLaw : Stmt := top 50
theorem scIsWhole : FnScope ["value"] ["value"] (defScope sIsWhole) := ⟨rfl, rfl, rfl, by decide +kernel, rfl, by decide +kernel, by decide +kernel⟩
theorem scCellsOf : FnScope ["rule"] ["rule"] (defScope sCellsOf) := ⟨rfl, rfl, rfl, by decide +kernel, rfl, by decide +kernel, by decide +kernel⟩
theorem scStretch : FnScope ["values", "lengths", "ahead", "value"] ["values"] (defScope sStretch) := ⟨rfl, rfl, rfl, by decide +kernel, rfl, by decide +kernel, by decide +kernel⟩
theorem scPartners : FnScope ["ties", "cell", "a", "b"] ["ties", "cell"] (defScope sPartners) := ⟨rfl, rfl, rfl, by decide +kernel, rfl, by decide +kernel, by decide +kernel⟩
theorem scAreJoined : FnScope ["marked", "ties", "cell", "reached", "waiting", "other"] ["marked", "ties"] (defScope sAreJoined) := ⟨rfl, rfl, rfl, by decide +kernel, rfl, by decide +kernel, by decide +kernel⟩
theorem scFits : FnScope ["rule", "values", "word", "marked", "value", "cell"] ["rule", "values"] (defScope sFits) := ⟨rfl, rfl, rfl, by decide +kernel, rfl, by decide +kernel, by decide +kernel⟩
theorem scUnder : FnScope ["rule", "values", "cell"] ["rule", "values"] (defScope sUnder) := ⟨rfl, rfl, rfl, by decide +kernel, rfl, by decide +kernel, by decide +kernel⟩
theorem scStands : FnScope ["domain", "value"] ["domain", "value"] (defScope sStands) := ⟨rfl, rfl, rfl, by decide +kernel, rfl, by decide +kernel, by decide +kernel⟩
theorem scBroken : FnScope ["puzzle", "values", "domains", "rules", "c", "domain", "j", "rule"] ["puzzle", "values"] (defScope sBroken) := ⟨rfl, rfl, rfl, by decide +kernel, rfl, by decide +kernel, by decide +kernel⟩
theorem scPartOf : FnScope ["values", "cells", "cell"] ["values", "cells"] (defScope sPartOf) := ⟨rfl, rfl, rfl, by decide +kernel, rfl, by decide +kernel, by decide +kernel⟩
theorem scCutTo : FnScope ["puzzle", "f", "given", "domains", "rules", "cell", "value", "c", "domain"] ["puzzle", "f"] (defScope sCutTo) := ⟨rfl, rfl, rfl, by decide +kernel, rfl, by decide +kernel, by decide +kernel⟩
theorem scLookup : FnScope ["rule", "row"] ["rule"] (defScope sLookup) := ⟨rfl, rfl, rfl, by decide +kernel, rfl, by decide +kernel, by decide +kernel⟩
theorem scLets : FnScope ["rule", "rows", "values", "under"] ["rule", "rows", "values"] (defScope sLets) := ⟨rfl, rfl, rfl, by decide +kernel, rfl, by decide +kernel, by decide +kernel⟩
theorem scByAll : FnScope ["due", "values"] ["due", "values"] (defScope sByAll) := ⟨rfl, rfl, rfl, by decide +kernel, rfl, by decide +kernel, by decide +kernel⟩
theorem scAnswers : FnScope ["puzzle", "domains", "rules", "found", "c", "domain", "due", "tried", "rule", "ahead", "value", "values"] ["puzzle"] (defScope sAnswers) := ⟨rfl, rfl, rfl, by decide +kernel, rfl, by decide +kernel, by decide +kernel⟩
theorem scAnsWith : FnScope ["puzzle", "part"] ["puzzle", "part"] (defScope sAnsWith) := ⟨rfl, rfl, rfl, by decide +kernel, rfl, by decide +kernel, by decide +kernel⟩
theorem scCount : FnScope ["puzzle"] ["puzzle"] (defScope sCount) := ⟨rfl, rfl, rfl, by decide +kernel, rfl, by decide +kernel, by decide +kernel⟩
theorem scFirst : FnScope ["puzzle", "found"] ["puzzle"] (defScope sFirst) := ⟨rfl, rfl, rfl, by decide +kernel, rfl, by decide +kernel, by decide +kernel⟩
theorem scSettled : FnScope ["puzzle"] ["puzzle"] (defScope sSettled) := ⟨rfl, rfl, rfl, by decide +kernel, rfl, by decide +kernel, by decide +kernel⟩
theorem scJudge : FnScope ["puzzle", "value"] ["puzzle", "value"] (defScope sJudge) := ⟨rfl, rfl, rfl, by decide +kernel, rfl, by decide +kernel, by decide +kernel⟩
theorem scWithout : FnScope ["puzzle", "j", "domains", "rules"] ["puzzle", "j"] (defScope sWithout) := ⟨rfl, rfl, rfl, by decide +kernel, rfl, by decide +kernel, by decide +kernel⟩
theorem scJoint : FnScope ["one", "other"] ["one", "other"] (defScope sJoint) := ⟨rfl, rfl, rfl, by decide +kernel, rfl, by decide +kernel, by decide +kernel⟩
theorem scMoved : FnScope ["rule", "by", "word", "cells", "cell", "a", "b"] ["rule", "by"] (defScope sMoved) := ⟨rfl, rfl, rfl, by decide +kernel, rfl, by decide +kernel, by decide +kernel⟩
theorem scBeside : FnScope ["one", "other", "by", "rule"] ["one", "other"] (defScope sBeside) := ⟨rfl, rfl, rfl, by decide +kernel, rfl, by decide +kernel, by decide +kernel⟩
theorem scFree : FnScope ["puzzle", "answer", "found", "c", "value", "other"] ["puzzle", "answer"] (defScope sFree) := ⟨rfl, rfl, rfl, by decide +kernel, rfl, by decide +kernel, by decide +kernel⟩
theorem scAnsVals : FnScope ["puzzle", "c", "values"] ["puzzle", "c"] (defScope sAnsVals) := ⟨rfl, rfl, rfl, by decide +kernel, rfl, by decide +kernel, by decide +kernel⟩
theorem scCommon : FnScope ["puzzle", "least", "free", "c"] ["puzzle"] (defScope sCommon) := ⟨rfl, rfl, rfl, by decide +kernel, rfl, by decide +kernel, by decide +kernel⟩
theorem scForced : FnScope ["puzzle", "part"] ["puzzle", "part"] (defScope sForced) := ⟨rfl, rfl, rfl, by decide +kernel, rfl, by decide +kernel, by decide +kernel⟩
theorem scOpen : FnScope ["_law_script", "_law_stirred", "_law_cell", "_law_cells"] ["_law_script"] (defScope sOpen) := ⟨rfl, rfl, rfl, by decide +kernel, rfl, by decide +kernel, by decide +kernel⟩
theorem scPick : FnScope ["_law_source", "_law_most", "_law_cells", "_law_others", "_law_lap", "_law_stirred"] ["_law_source", "_law_most"] (defScope sPick) := ⟨rfl, rfl, rfl, by decide +kernel, rfl, by decide +kernel, by decide +kernel⟩
theorem scOrder : FnScope ["_law_source", "_law_things", "_law_others", "_law_lap"] ["_law_source", "_law_things"] (defScope sOrder) := ⟨rfl, rfl, rfl, by decide +kernel, rfl, by decide +kernel, by decide +kernel⟩
theorem scScope : FnScope ["_law_rule"] ["_law_rule"] (defScope sScope) := ⟨rfl, rfl, rfl, by decide +kernel, rfl, by decide +kernel, by decide +kernel⟩
theorem scRuns : FnScope ["_law_values", "_law_found", "_law_many", "_law_value"] ["_law_values"] (defScope sRuns) := ⟨rfl, rfl, rfl, by decide +kernel, rfl, by decide +kernel, by decide +kernel⟩
theorem scLJoined : FnScope ["_law_cells", "_law_ties", "_law_marked", "_law_seen", "_law_rest", "_law_here", "_law_one", "_law_other", "_law_near"] ["_law_cells", "_law_ties", "_law_marked"] (defScope sLJoined) := ⟨rfl, rfl, rfl, by decide +kernel, rfl, by decide +kernel, by decide +kernel⟩
theorem scLFits : FnScope ["_law_rule", "_law_values", "_law_marked", "_law_value", "_law_cell"] ["_law_rule", "_law_values"] (defScope sLFits) := ⟨rfl, rfl, rfl, by decide +kernel, rfl, by decide +kernel, by decide +kernel⟩
theorem scRows : FnScope ["_law_lots", "_law_found", "_law_lot", "_law_further", "_law_row", "_law_value"] ["_law_lots"] (defScope sRows) := ⟨rfl, rfl, rfl, by decide +kernel, rfl, by decide +kernel, by decide +kernel⟩
theorem scLAnswers : FnScope ["_law_puzzle", "_law_found", "_law_row", "_law_rule", "_law_cell"] ["_law_puzzle"] (defScope sLAnswers) := ⟨rfl, rfl, rfl, by decide +kernel, rfl, by decide +kernel, by decide +kernel⟩
theorem scDrawRule : FnScope ["_law_source", "_law_domains", "_law_cells", "_law_some", "_law_road", "_law_rows_here", "_law_low", "_law_values", "_law_ties", "_law_row", "_law_cell", "_law_pair"] ["_law_source", "_law_domains"] (defScope sDrawRule) := ⟨rfl, rfl, rfl, by decide +kernel, rfl, by decide +kernel, by decide +kernel⟩
theorem scDrawPuzzle : FnScope ["_law_source", "_law_most", "_law_domains", "_law_rules", "_law_cell", "_law_lot", "_law_lap", "_law_value"] ["_law_source", "_law_most"] (defScope sDrawPuzzle) := ⟨rfl, rfl, rfl, by decide +kernel, rfl, by decide +kernel, by decide +kernel⟩
theorem scWith : FnScope ["_law_puzzle", "_law_part", "_law_row", "_law_cell", "_law_value"] ["_law_puzzle", "_law_part"] (defScope sWith) := ⟨rfl, rfl, rfl, by decide +kernel, rfl, by decide +kernel, by decide +kernel⟩
theorem scDrawPart : FnScope ["_law_source", "_law_puzzle", "_law_most", "_law_found", "_law_cell", "_law_lot"] ["_law_source", "_law_puzzle", "_law_most"] (defScope sDrawPart) := ⟨rfl, rfl, rfl, by decide +kernel, rfl, by decide +kernel, by decide +kernel⟩
theorem scFault : FnScope ["_law_puzzle", "_law_value", "_law_one", "_law_cell", "_law_lot", "_law_j", "_law_rule"] ["_law_puzzle", "_law_value"] (defScope sFault) := ⟨rfl, rfl, rfl, by decide +kernel, rfl, by decide +kernel, by decide +kernel⟩
theorem scShift : FnScope ["_law_rule", "_law_many", "_law_late", "_law_cell", "_law_one", "_law_other"] ["_law_rule", "_law_many"] (defScope sShift) := ⟨rfl, rfl, rfl, by decide +kernel, rfl, by decide +kernel, by decide +kernel⟩
theorem scLCommon : FnScope ["_law_rows_here", "_law_found", "_law_cell", "_law_value", "_law_row"] ["_law_rows_here"] (defScope sLCommon) := ⟨rfl, rfl, rfl, by decide +kernel, rfl, by decide +kernel, by decide +kernel⟩
theorem scTold : FnScope ["_law_source", "_law_puzzle", "_law_rows_here", "_law_part", "_law_cell", "_law_told", "_law_due", "_law_values", "_law_common_here", "_law_is_in", "_law_row", "_law_free", "_law_pair", "_law_one", "_law_other"] ["_law_source", "_law_puzzle", "_law_rows_here"] (defScope sTold) := ⟨rfl, rfl, rfl, by decide +kernel, rfl, by decide +kernel, by decide +kernel⟩
theorem scJudged : FnScope ["_law_source", "_law_puzzle", "_law_rows_here", "_law_n", "_law_row", "_law_cell", "_law_value", "_law_near", "_law_odd", "_law_one"] ["_law_source", "_law_puzzle", "_law_rows_here"] (defScope sJudged) := ⟨rfl, rfl, rfl, by decide +kernel, rfl, by decide +kernel, by decide +kernel⟩
theorem scLaw : FnScope ["_law_script", "_law_source", "_law_lap", "_law_puzzle", "_law_before", "_law_rows_here", "_law_other", "_law_late", "_law_whole", "_law_j", "_law_turn", "_law_rule"] ["_law_script"] (defScope sLaw) := ⟨rfl, rfl, rfl, by decide +kernel, rfl, by decide +kernel, by decide +kernel⟩
/-- a def as it stands around -/
structure Df (K : PySem.W.Frag) (mg : Str → Option Value) (x : Str) (st : Stmt) (ps : List Str) (f : Addr) (fd : FuncData) : Prop where
  F : Fun K x x st f fd
  b : Binds K fd ps []
  g : mg x = some (.ref f)
/-- the builtins' names are free -/
structure Bl (mg : Str → Option Value) : Prop where
  len : mg "len" = none
  all : mg "all" = none
  any : mg "any" = none
  enumerate : mg "enumerate" = none
  tuple : mg "tuple" = none
  list : mg "list" = none
  sset : mg "set" = none
  sum : mg "sum" = none
  max : mg "max" = none
  min : mg "min" = none
  sorted : mg "sorted" = none
  range : mg "range" = none
  zip : mg "zip" = none
  int : mg "int" = none
  abs : mg "abs" = none
  repr : mg "repr" = none
  isi : mg "isinstance" = none
  dict : mg "dict" = none
  bool : mg "bool" = none
end G9

set_option Elab.async false
set_option linter.all false
set_option maxRecDepth 100000
set_option maxHeartbeats 4000000
/-! cells_of, values_under, _stretches, _partners -/
namespace G9
open PySem PySem.Spec PyProof.Rows L2 GX
def Rul.cells : Rul → List Int
  | .table cs _ | .unlike cs | .sum cs _ _ | .count cs _ _ _ | .runs cs _ | .joined cs _ _ => cs
  | .below a b => [a, b]
theorem ifT {c : Bool} {A B : Prop} (hc : c = true) (h : A) : if c = true then A else B := by
  rw [if_pos hc]
  exact h
theorem ifF {c : Bool} {A B : Prop} (hc : c = false) (h : B) : if c = true then A else B := by
  rw [hc, if_neg Bool.false_ne_true]
  exact h
theorem none_under {H : Hp} {p b : Addr} {o : HO} (h : upd H p o b = none) : H b = none := by
  rw [upd_ne (ne_of_none upd_same h).symm] at h
  exact h
theorem same_refl (H : Hp) : Same H H := fun _ _ e => e
def spCellsOf : Sp := fun vs H Q _ => ∃ v r, vs = [v] ∧ RuH H v r ∧ ∀ w H', Same H H' → IH H' w (Rul.cells r) → Q w H'
section
variable {P : Program} {w : World} {K : PySem.W.Frag} {mg : Str → Option Value} {base : Heap} {f : Addr} {fd : FuncData}
theorem ok_cellsOf (D : Df K mg "cells_of" sCellsOf ["rule"] f fd) : FnOk P w K mg base CX0 1 f fd ["rule"] spCellsOf := by
  refine D.F.ok scCellsOf (fun vs H Q E h => ?_) (fun cdv A outer s H vs Q E hr h => ?_)
  · obtain ⟨v, r, rfl, _⟩ := h
    rfl
  · obtain ⟨v, r, rfl, hru, k⟩ := h
    refine ⟨_, pss_cons (ps_if (pt_cmpR op_eq (pe_ix ix_tup (pv 0) pe_int (fun _ _ => rfl)) pe_str (nomark _)) (pss_one (ps_ret (pe_slice sl_tup (pv 0) (po_some pe_int) (po_some pe_int)))) pss_nil)
      (pss_one (ps_ret (pe_ix ix_tup (pv 0) pe_int (fun _ _ => rfl)))), ?_⟩
    cases r with
    | below i j =>
      obtain ⟨a, rfl, q⟩ := hru
      refine ⟨_, rfl, a, _, 0, _, rfl, rfl, sqt q, rfl, rfl, _, rfl, ifT (by decide +kernel) ?_⟩
      refine ⟨_, rfl, 1, rfl, 3, rfl, a, _, rfl, sqt q, show ¬ (HT.sIx 3 0 (some 1) = 0 ∧ HT.sIx 3 3 (some 3) = 3) from by decide, fun p hp => ?_⟩
      exact k _ _ (same_new hp) ⟨p, rfl, upd_same⟩
    | unlike cs | sum cs lo hi =>
      obtain ⟨a, x, rfl, q, i⟩ := hru
      exact ⟨_, rfl, a, _, 0, _, rfl, rfl, sqt q, rfl, rfl, _, rfl, ifF (by decide +kernel) ⟨_, rfl, a, _, 1, _, rfl, rfl, sqt q, rfl, k _ _ (same_refl H) i⟩⟩
    | table cs rows | count cs vs lo hi | runs cs ls =>
      obtain ⟨a, x, y, rfl, q, i, _⟩ := hru
      exact ⟨_, rfl, a, _, 0, _, rfl, rfl, sqt q, rfl, rfl, _, rfl, ifF (by decide +kernel) ⟨_, rfl, a, _, 1, _, rfl, rfl, sqt q, rfl, k _ _ (same_refl H) i⟩⟩
    | joined cs ties vs =>
      obtain ⟨a, x, y, z, rfl, q, i, _⟩ := hru
      exact ⟨_, rfl, a, _, 0, _, rfl, rfl, sqt q, rfl, rfl, _, rfl, ifF (by decide +kernel) ⟨_, rfl, a, _, 1, _, rfl, rfl, sqt q, rfl, k _ _ (same_refl H) i⟩⟩
/-- of a row the values at some cells -/
def pick (vals cs : List Int) : List Int := cs.map fun c => vals.getD c.toNat 0
theorem pick_at {vals cs : List Int} (hc : ∀ c ∈ cs, 0 ≤ c ∧ c < vals.length) {c : Int} (h : c ∈ cs) : atI (vals.map V.int) c = some (V.int (vals.getD c.toNat 0)) := by
  obtain ⟨h0, h1⟩ := hc c h
  have e : ((c.toNat : Nat) : Int) = c := Int.toNat_of_nonneg h0
  have hlt : c.toNat < vals.length := by omega
  rw [← e]
  refine L2.atI_nat ?_
  rw [List.getElem?_map, List.getD_eq_getElem?_getD, Int.toNat_natCast, List.getElem?_eq_getElem hlt]
  rfl
def spUnder : Sp := fun vs H Q _ => ∃ v r u vals, vs = [v, u] ∧ RuH H v r ∧ IH H u vals ∧ (∀ c ∈ Rul.cells r, 0 ≤ c ∧ c < vals.length) ∧ (Rul.cells r).length ≤ 1000 ∧ ∀ w H', Same H H' → IH H' w (pick vals (Rul.cells r)) → Q w H'
theorem ok_under {f2 : Addr} {fd2 : FuncData} (B : Bl mg) (D : Df K mg "values_under" sUnder ["rule", "values"] f fd) (D2 : Df K mg "cells_of" sCellsOf ["rule"] f2 fd2) (G2 : FnOk P w K mg base CX0 1 f2 fd2 ["rule"] spCellsOf) : FnOk P w K mg base CX0 3 f fd ["rule", "values"] spUnder := by
  refine D.F.ok scUnder (fun vs H Q E h => ?_) (fun cdv A outer s H vs Q E hr h => ?_)
  · obtain ⟨v, r, u, vals, rfl, _⟩ := h
    rfl
  · obtain ⟨v, r, u, vals, rfl, hru, hv, hc, hl, k⟩ := h
    refine ⟨_, pss_one (ps_ret (pe_callTy call_tuple_of (by rfl) B.tuple PyProof.Rows.boot_tuple (pa_cons
      (pe_lc (own := [("cell", 2)]) rfl scUnder.nd (pi_tup (pe_call G2 (hr.mono (by decide)) (by rfl) D2.g D2.F.kp D2.b .nil pass0 (pa_cons (pv 0) pa_nil))) (blkOk_by (N := ["rule", "values", "cell"]) (sc := defScope sUnder) (by decide +kernel))
        (fun _ _ _ _ _ => pg_name (i := 2) scUnder.nd rfl (.inl rfl)) (fun _ _ _ _ _ => pts_nil) (fun _ _ _ _ _ => pe_ix (ixT K) (pv 1) (pv 2) (fun _ _ => rfl))) pa_nil))), ?_⟩
    refine ⟨_, rfl, v, r, rfl, hru, fun w1 H1 s1 i1 => ?_⟩
    obtain ⟨a1, rfl, q1⟩ := i1
    obtain ⟨b, rfl, qb⟩ := hv.kt (kt_same s1)
    refine ⟨a1, rfl, ⟨_, sqt q1⟩, fun L hL => lc_it (walk_tup (xs := (Rul.cells r).map V.int)) (fun i H' => H' = upd H1 L (.lst ((pick vals ((Rul.cells r).take i)).map V.int))) rfl (fun i H' _ h => ?_) (fun i x H' H'' hi h y => ?_) (fun H' h => ?_)⟩
    · subst h
      exact sqt (upd_at hL q1)
    · obtain ⟨rfl, hx⟩ := y
      obtain ⟨c, hc1, rfl⟩ := at_ints hx
      subst h
      have hm : c ∈ Rul.cells r := List.mem_of_getElem? hc1
      refine ⟨rfl, _, rfl, _, rfl, b, _, c, _, rfl, rfl, sqt (upd_at hL qb), pick_at hc hm, _, upd_same, ?_, ?_⟩
      · unfold pick
        rw [List.length_map, List.length_map, List.length_take, sizeLine_eq]
        omega
      · rw [upd_upd, List.take_add_one, hc1]
        unfold pick
        rw [List.map_append, List.map_append]
        rfl
    · rw [List.length_map, List.take_length] at h
      subst h
      refine ⟨L, _, rfl, .inl ⟨sql upd_same, fun T hT => ?_⟩⟩
      have hT1 : H1 T = none := by
        rw [upd_ne (ne_of_none upd_same hT).symm] at hT
        exact hT
      exact k _ _ (Same.tr s1 (Same.tr (same_new hL) (same_new hT))) ⟨T, rfl, upd_same⟩
end
end G9

set_option Elab.async false
set_option linter.all false
set_option maxRecDepth 100000
set_option maxHeartbeats 4000000
/-! _stretches and the law's own -/
namespace G9
open PySem PySem.Spec PyProof.Rows L2 GX
def stepR (p : List Int × Int) (v : Int) : List Int × Int := if v ≠ 0 then (p.1, p.2 + 1) else if 0 < p.2 then (p.1 ++ [p.2], 0) else p
def endR (p : List Int × Int) : List Int := p.1 ++ if 0 < p.2 then [p.2] else []
def foldR (vs : List Int) : List Int × Int := vs.foldl stepR ([], 0)
def runsOf (vs : List Int) : List Int := endR (foldR vs)
theorem foldR_snoc (vs : List Int) (v : Int) : foldR (vs ++ [v]) = stepR (foldR vs) v := by
  unfold foldR
  rw [List.foldl_append]
  rfl
theorem step_len (p : List Int × Int) (v : Int) : (stepR p v).1.length ≤ p.1.length + 1 ∧ (0 ≤ p.2 → 0 ≤ (stepR p v).2) := by
  unfold stepR
  split
  · exact ⟨by show p.1.length ≤ _; omega, fun h => by show 0 ≤ p.2 + 1; omega⟩
  · split
    · exact ⟨by simp, fun h => Int.le_refl _⟩
    · exact ⟨by omega, fun h => h⟩
theorem foldR_len (vs : List Int) : (foldR vs).1.length ≤ vs.length ∧ 0 ≤ (foldR vs).2 := by
  suffices h : ∀ (l : List Int) (p : List Int × Int), 0 ≤ p.2 → (l.foldl stepR p).1.length ≤ p.1.length + l.length ∧ 0 ≤ (l.foldl stepR p).2 by
    have := h vs ([], 0) (Int.le_refl _)
    exact ⟨by have := this.1; rw [List.length_nil, Nat.zero_add] at this; exact this, this.2⟩
  intro l
  induction l with
  | nil => exact fun p h => ⟨Nat.le_refl _, h⟩
  | cons a l ih =>
    intro p h
    have := step_len p a
    have z := ih (stepR p a) (this.2 h)
    exact ⟨by rw [List.length_cons]; have := z.1; show (l.foldl stepR (stepR p a)).1.length ≤ _; omega, z.2⟩
def spStretch : Sp := fun vs H Q _ => ∃ v vals, vs = [v] ∧ IH H v vals ∧ vals.length ≤ 1000 ∧ ∀ w H', Same H H' → IH H' w (runsOf vals) → Q w H'
section
variable {P : Program} {w : World} {K : PySem.W.Frag} {mg : Str → Option Value} {base : Heap} {f : Addr} {fd : FuncData}
theorem ok_stretch (B : Bl mg) (D : Df K mg "stretches" sStretch ["values"] f fd) : FnOk P w K mg base CX0 1 f fd ["values"] spStretch := by
  refine D.F.ok scStretch (fun vs H Q E h => ?_) (fun cdv A outer s H vs Q E hr h => ?_)
  · obtain ⟨v, vals, rfl, _⟩ := h
    rfl
  · obtain ⟨v, vals, rfl, hv, hl, k⟩ := h
    obtain ⟨a, rfl, ha⟩ := hv
    refine ⟨_, pss_cons (ps_set (i := 1) scStretch.nd rfl (.inl rfl) (pe_lst pa_nil)) (pss_cons (ps_set (i := 2) scStretch.nd rfl (.inl rfl) pe_int)
      (pss_cons (ps_for PassesOwn.never rfl (pi_tup (pv 0)) (pg_name (i := 3) scStretch.nd rfl (.inl rfl))
        (pss_cons (ps_if (pw_and (pt_cmpR op_ne (pv 3) pe_int (nomark _)) (pw_and1 (pt_cmpR op_ne (pv 2) pe_int (nomark _)))).pt
          (pss_one (ps_augS (pv 1) (pe_un un_neg pe_int) pget_last pe_int ip_add set_list))
          (pss_one (ps_if (pt_cmpR op_ne (pv 3) pe_int (nomark _)) (pss_one (ps_expr (pe_bm PySem.F.plainAttrs_list PySem.F.slot_list_append PySem.F.type_list_append mt_append (pv 1) (pa_cons pe_int pa_nil)))) pss_nil)))
        (pss_one (ps_set (i := 2) scStretch.nd rfl (.inl rfl) (pv 3)))))
      (pss_one (ps_ret (pe_callTy call_tuple_of (by rfl) B.tuple PyProof.Rows.boot_tuple (pa_cons (pv 1) pa_nil)))))), ?_⟩
    refine ⟨by decide, fun L hL => ?_⟩
    have nL : a ≠ L := ne_of_none ha hL
    refine ⟨_, rfl, a, rfl, ⟨_, sqt (upd_at hL ha)⟩, for_tup (K := K) (a := a) (xs := vals.map V.int) (fun i σ H' => ∃ (ah : Int) (o : Option V), σ = [some (.ref a), some (.ref L), some (.int ah), o] ∧ (ah ≠ 0 ↔ 0 < (foldR (vals.take i)).2) ∧ H' = upd H L (.lst ((runsOf (vals.take i)).map V.int)))
      ⟨0, none, rfl, ⟨fun z => absurd rfl z, fun z => absurd z (Int.lt_irrefl 0)⟩, rfl⟩ (fun i σ H' _ h => ?_) (fun i x σ H' hx h => ?_) (fun σ H' h => ?_)⟩
    · obtain ⟨_, _, _, _, rfl⟩ := h
      exact sqt (upd_at hL ha)
    · obtain ⟨ah, o, rfl, hah, rfl⟩ := h
      obtain ⟨c, hc, rfl⟩ := at_ints hx
      have hlt := (List.getElem?_eq_some_iff.mp hc).1
      have et : vals.take (i + 1) = vals.take i ++ [c] := by rw [List.take_add_one, hc]; rfl
      have es : foldR (vals.take (i + 1)) = stepR (foldR (vals.take i)) c := by rw [et, foldR_snoc]
      have fl := foldR_len (vals.take i)
      rw [List.length_take] at fl
      generalize hp : foldR (vals.take i) = p at es hah fl
      have er : runsOf (vals.take i) = endR p := by unfold runsOf; rw [hp]
      rw [er]
      have er2 : runsOf (vals.take (i + 1)) = endR (stepR p c) := by unfold runsOf; rw [es]
      refine ⟨_, rfl, rfl, _, rfl, ?_⟩
      by_cases c0 : c = 0
      · subst c0
        refine ifF (by decide) ?_
        refine ⟨_, rfl, rfl, _, rfl, ifF (by decide) ?_⟩
        refine ⟨_, rfl, 0, _, rfl, ?_, ?_⟩
        · rw [es]
          unfold stepR
          rw [if_neg (by decide)]
          split
          · exact ⟨fun z => absurd rfl z, fun z => absurd z (Int.lt_irrefl 0)⟩
          · exact ⟨fun z => absurd rfl z, fun z => absurd z (by assumption)⟩
        · rw [er2]
          unfold stepR
          rw [if_neg (by decide)]
          split
          · next h0 =>
            unfold endR
            rw [if_pos h0, if_neg (Int.lt_irrefl 0)]
            simp
          · rfl
      · refine ifT (by simp [c0]) ?_
        have st : stepR p c = (p.1, p.2 + 1) := by unfold stepR; rw [if_pos c0]
        refine ⟨_, rfl, rfl, _, rfl, ?_⟩
        by_cases a0 : ah = 0
        · subst a0
          have p0 : ¬ 0 < p.2 := fun z => (hah.mpr z) rfl
          have p1 : p.2 = 0 := by omega
          refine ifF (by decide) ?_
          refine ⟨_, rfl, rfl, _, rfl, ifT (by simp [c0]) ?_⟩
          refine ⟨_, rfl, .inl ⟨rfl, _, sql upd_same⟩, L, _, _, rfl, rfl, upd_same, ?_, ?_⟩
          · unfold endR
            rw [if_neg p0, List.append_nil, List.length_map, sizeLine_eq]
            omega
          refine ⟨_, rfl, c, _, rfl, ?_, ?_⟩
          · rw [es, st]
            exact ⟨fun _ => by show 0 < p.2 + 1; omega, fun _ => c0⟩
          · rw [upd_upd, er2, st]
            unfold endR
            rw [if_neg p0, if_pos (by show 0 < p.2 + 1; omega), p1]
            simp
        · have p0 : 0 < p.2 := hah.mp a0
          refine ifT (by simp [a0]) ?_
          have eE : endR p = p.1 ++ [p.2] := by unfold endR; rw [if_pos p0]
          have hlast : ((p.1 ++ [p.2]).map V.int)[((p.1 ++ [p.2]).map V.int).length - 1]? = some (.int p.2) := by simp
          rw [eE]
          refine ⟨_, rfl, 1, rfl, ?_⟩
          refine ⟨L, _, _, rfl, rfl, sql upd_same, hlast, p.2, 1, rfl, rfl, L, _, _, p.1.length, rfl, rfl, upd_same, ?_, ?_⟩
          · unfold ixN
            rw [if_neg (by decide), if_pos (by rw [List.length_map, List.length_append, List.length_singleton]; omega)]
            exact congrArg some (by rw [List.length_map, List.length_append, List.length_singleton]; omega)
          refine ⟨_, rfl, c, _, rfl, ?_, ?_⟩
          · rw [es, st]
            exact ⟨fun _ => by show 0 < p.2 + 1; omega, fun _ => c0⟩
          · rw [upd_upd, er2, st]
            unfold endR
            rw [if_pos (by show 0 < p.2 + 1; omega)]
            simp
    · obtain ⟨ah, o, rfl, hah, rfl⟩ := h
      rw [List.length_map, List.take_length]
      refine ⟨_, rfl, L, _, rfl, .inl ⟨sql upd_same, fun T hT => ?_⟩⟩
      have hT1 : H T = none := by
        rw [upd_ne (ne_of_none upd_same hT).symm] at hT
        exact hT
      exact k _ _ (fun b o e => upd_at hT (upd_at hL e)) ⟨T, rfl, upd_same⟩
end
end G9

set_option Elab.async false
set_option linter.all false
set_option maxRecDepth 100000
set_option maxHeartbeats 4000000
/-! the law's own lengths of stretches; _partners -/
namespace G9
open PySem PySem.Spec PyProof.Rows L2 GX
/-- a list of ints -/
def IL (H : Hp) (v : V) (ns : List Int) : Prop := ∃ a, v = .ref a ∧ H a = some (.lst (ns.map V.int))
def spRuns : Sp := fun vs H Q _ => ∃ v vals, vs = [v] ∧ IL H v vals ∧ vals.length ≤ 1000 ∧ ∀ w H', Same H H' → IH H' w (runsOf vals) → Q w H'
section
variable {P : Program} {w : World} {K : PySem.W.Frag} {mg : Str → Option Value} {base : Heap} {f : Addr} {fd : FuncData}
theorem ok_runs (B : Bl mg) (D : Df K mg "_law_runs" sRuns ["_law_values"] f fd) : FnOk P w K mg base CX0 1 f fd ["_law_values"] spRuns := by
  refine D.F.ok scRuns (fun vs H Q E h => ?_) (fun cdv A outer s H vs Q E hr h => ?_)
  · obtain ⟨v, vals, rfl, _⟩ := h
    rfl
  · obtain ⟨v, vals, rfl, hv, hl, k⟩ := h
    obtain ⟨a, rfl, ha⟩ := hv
    refine ⟨_, pss_cons (ps_par (i := 1) (j := 2) rfl scRuns.nd rfl rfl (by decide) rfl rfl (pa_cons (pe_lst pa_nil) (pa_cons pe_int pa_nil)) (by rfl))
      (pss_cons (ps_for PassesOwn.never rfl (pi_list (pv 0)) (pg_name (i := 3) scRuns.nd rfl (.inl rfl))
        (pss_one (ps_if (pt_cmpR op_ne (pv 3) pe_int (nomark _)) (pss_one (ps_set (i := 2) scRuns.nd rfl (.inl rfl) (pe_op op_add (pv 2) pe_int)))
          (pss_one (ps_if (pt_cmpR op_gt (pv 2) pe_int (nomark _)) (pss_one (ps_par (i := 1) (j := 2) rfl scRuns.nd rfl rfl (by decide) rfl rfl (pa_cons (pe_op op_cat (pv 1) (pe_lst (pa_cons (pv 2) pa_nil))) (pa_cons pe_int pa_nil)) (by rfl))) pss_nil)))))
      (pss_one (ps_ret (pe_callTy call_tuple_of (by rfl) B.tuple PyProof.Rows.boot_tuple (pa_cons (pe_op op_cat (pv 1) (pe_ifExp (pt_cmpR op_gt (pv 2) pe_int (nomark _)) (pe_lst (pa_cons (pv 2) pa_nil)) (pe_lst pa_nil))) pa_nil))))), ?_⟩
    refine ⟨by decide, fun L hL => ?_⟩
    refine ⟨_, _, rfl, _, rfl, a, rfl, ⟨_, sql (upd_at hL ha)⟩, for_list (K := K) (a := a) (xs := vals.map V.int) (fun i σ H' => ∃ (M : Addr) (o : Option V), σ = [some (.ref a), some (.ref M), some (.int (foldR (vals.take i)).2), o] ∧ H' M = some (.lst ((foldR (vals.take i)).1.map V.int)) ∧ Same H H')
      ⟨L, none, rfl, upd_same, same_new hL⟩ (fun i σ H' _ h => ?_) (fun i x σ H' hx h => ?_) (fun σ H' h => ?_)⟩
    · obtain ⟨_, _, _, _, sm⟩ := h
      exact sql (sm _ _ ha)
    · obtain ⟨M, o, rfl, hM, sm⟩ := h
      obtain ⟨c, hc, rfl⟩ := at_ints hx
      have et : vals.take (i + 1) = vals.take i ++ [c] := by rw [List.take_add_one, hc]; rfl
      have es : foldR (vals.take (i + 1)) = stepR (foldR (vals.take i)) c := by rw [et, foldR_snoc]
      have fl := foldR_len (vals.take i)
      rw [List.length_take] at fl
      generalize hp : foldR (vals.take i) = p at es fl hM
      refine ⟨_, rfl, rfl, _, rfl, ?_⟩
      by_cases c0 : c = 0
      · subst c0
        refine ifF (by decide) ?_
        refine ⟨_, rfl, _, _, rfl, rfl, _, rfl, ?_⟩
        by_cases h0 : 0 < p.2
        · refine ifT (by simp [h0]) ?_
          have st : stepR p 0 = (p.1 ++ [p.2], 0) := by unfold stepR; rw [if_neg (by decide), if_pos h0]
          refine ⟨_, rfl, _, rfl, (show 1 ≤ sizeLine by decide), fun N hN => ?_⟩
          refine ⟨M, N, _, _, rfl, rfl, upd_at hN hM, upd_same, ?_, fun R hR => ⟨_, _, rfl, R, some (.int 0), ?_, ?_, ?_⟩⟩
          · rw [List.length_map, sizeLine_eq]
            show p.1.length + 1 ≤ _
            omega
          · rw [es, st]
            rfl
          · rw [es, st, upd_same, List.map_append]
            rfl
          · exact fun b o e => upd_at hR (upd_at hN (sm b o e))
        · refine ifF (by simp; omega) ?_
          have st : stepR p 0 = p := by unfold stepR; rw [if_neg (by decide), if_neg h0]
          exact ⟨M, some (.int 0), by rw [es, st]; rfl, by rw [es, st]; exact hM, sm⟩
      · refine ifT (by simp [c0]) ?_
        have st : stepR p c = (p.1, p.2 + 1) := by unfold stepR; rw [if_pos c0]
        refine ⟨_, rfl, _, _, rfl, rfl, M, some (.int c), ?_, ?_, sm⟩
        · rw [es, st]
          rfl
        · rw [es, st]
          exact hM
    · obtain ⟨M, o, rfl, hM, sm⟩ := h
      rw [List.length_map, List.take_length] at *
      have fl := foldR_len vals
      have fin : ∀ (N : Addr) (H2 : Hp) (t : List V), Same H' H2 → H2 N = some (.lst t) → (foldR vals).1.map V.int ++ t = (runsOf vals).map V.int → t.length ≤ 1 → tCB (fun xs H Q => ∃ p ys, xs = [V.ref p] ∧ ((SqL K H p ys ∧ ∀ l, H l = none → Q (.ref l) (upd H l (.tup ys))) ∨ (SqT K H p ys ∧ Q (.ref p) H))) (fun σ H Q => ∃ l b xs zs, V.ref M = .ref l ∧ V.ref N = .ref b ∧ H l = some (.lst xs) ∧ H b = some (.lst zs) ∧ xs.length + zs.length ≤ sizeLine ∧ ∀ p, H p = none → Q [.ref p] (upd H p (.lst (xs ++ zs)))) [] H2 Q := fun N H2 t s2 hN et lt => by
        refine ⟨M, N, _, _, rfl, rfl, s2 _ _ hM, hN, ?_, fun R hR => ⟨R, _, rfl, .inl ⟨sql upd_same, fun T hT => ?_⟩⟩⟩
        · rw [List.length_map, sizeLine_eq]
          omega
        · refine k _ _ (fun b o e => upd_at hT (upd_at hR (s2 b o (sm b o e)))) ⟨T, rfl, ?_⟩
          rw [upd_same, et]
      refine ⟨_, rfl, _, rfl, _, _, rfl, rfl, _, rfl, ?_⟩
      by_cases h0 : 0 < (foldR vals).2
      · refine ifT (by simp [h0]) ⟨_, rfl, (show 1 ≤ sizeLine by decide), fun N hN => ?_⟩
        exact fin N _ _ (same_new hN) upd_same (by unfold runsOf endR; rw [if_pos h0, List.map_append]; rfl) (Nat.le_refl _)
      · refine ifF (by simp; omega) ⟨by decide, fun N hN => ?_⟩
        exact fin N _ _ (same_new hN) upd_same (by unfold runsOf endR; rw [if_neg h0, List.append_nil, List.append_nil]) (Nat.zero_le _)
/-- the cells that ties join to a cell -/
def partnersOf (ties : List (Int × Int)) (c : Int) : List Int := (ties.filter fun p => decide (p.1 = c)).map (·.2) ++ (ties.filter fun p => decide (p.2 = c)).map (·.1)
def spPartners : Sp := fun vs H Q _ => ∃ t ties c, vs = [t, .int c] ∧ RowsH H t (ties.map tie2) ∧ ties.length ≤ 1000 ∧ ∀ l H', Same H H' → H l = none → H' l = some (.lst ((partnersOf ties c).map V.int)) → Q (.ref l) H'
theorem ok_partners (D : Df K mg "_partners" sPartners ["ties", "cell"] f fd) : FnOk P w K mg base CX0 1 f fd ["ties", "cell"] spPartners := by
  refine D.F.ok scPartners (fun vs H Q E h => ?_) (fun cdv A outer s H vs Q E hr h => ?_)
  · obtain ⟨t, ties, c, rfl, _⟩ := h
    rfl
  · obtain ⟨t, ties, c, rfl, ht, hl, k⟩ := h
    obtain ⟨a, xs, rfl, ha, hp⟩ := ht
    refine ⟨_, pss_one (ps_ret (pe_op op_cat
      (pe_lc (own := [("a", 2), ("b", 3)]) rfl scPartners.nd (pi_tup (pv 0)) (blkOk_by (N := ["ties", "cell", "a", "b"]) (sc := defScope sPartners) (by decide +kernel))
        (fun _ _ _ _ _ => pg_tupK K (n := 2) rfl (pgs_cons (pg_name (i := 2) scPartners.nd rfl (.inl rfl)) (pgs_cons (pg_name (i := 3) scPartners.nd rfl (.inl rfl)) pgs_nil))) (fun _ _ _ _ _ => pts_one (pt_cmpR op_eq (pv 2) (pv 1) (nomark _))) (fun _ _ _ _ _ => pv 3))
      (pe_lc (own := [("a", 2), ("b", 3)]) rfl scPartners.nd (pi_tup (pv 0)) (blkOk_by (N := ["ties", "cell", "a", "b"]) (sc := defScope sPartners) (by decide +kernel))
        (fun _ _ _ _ _ => pg_tupK K (n := 2) rfl (pgs_cons (pg_name (i := 2) scPartners.nd rfl (.inl rfl)) (pgs_cons (pg_name (i := 3) scPartners.nd rfl (.inl rfl)) pgs_nil))) (fun _ _ _ _ _ => pts_one (pt_cmpR op_eq (pv 3) (pv 1) (nomark _))) (fun _ _ _ _ _ => pv 2)))), ?_⟩
    have tie : ∀ {H' : Hp} {i : Nat} {x : V}, Same H H' → xs[i]? = some x → ∃ b p, ties[i]? = some p ∧ x = .ref b ∧ H' b = some (.tup [.int p.1, .int p.2]) := fun {H' i x} sm hx => by
      obtain ⟨r, hr1, hr2⟩ := paired_at hp hx
      rw [List.getElem?_map] at hr1
      cases e : ties[i]? with
      | none =>
        rw [e] at hr1
        cases hr1
      | some p =>
        rw [e] at hr1
        cases hr1
        obtain ⟨b, eb, hb⟩ := hr2
        exact ⟨b, p, rfl, eb, sm _ _ hb⟩
    have hxl : xs.length = ties.length := by have := hp.length; rw [List.length_map] at this; exact this
    refine ⟨_, rfl, a, rfl, ⟨_, sqt ha⟩, fun L hL => lc_it (walk_tup (xs := xs)) (fun i H' => H' = upd H L (.lst ((((ties.take i).filter fun p => decide (p.1 = c)).map (·.2)).map V.int))) rfl (fun i H' _ h => ?_) (fun i x H' H'' hi h y => ?_) (fun H' h => ?_)⟩
    · subst h
      exact sqt (upd_at hL ha)
    · obtain ⟨rfl, hx⟩ := y
      subst h
      obtain ⟨b, p, hp1, rfl, hb⟩ := tie (same_new hL) hx
      refine ⟨b, _, rfl, sqt hb, rfl, _, _, rfl, _, _, rfl, rfl, rfl, _, rfl, _, rfl, rfl, _, rfl, ?_⟩
      by_cases e : p.1 = c
      · refine ifT (by simp [e]) ⟨_, rfl, _, upd_same, ?_, ?_⟩
        · have : ((ties.take i).filter fun p => decide (p.1 = c)).length ≤ (ties.take i).length := List.length_filter_le _ _
          rw [List.length_take] at this
          rw [List.length_map, List.length_map, sizeLine_eq]
          omega
        · rw [upd_upd, List.take_add_one, hp1]
          simp [e]
      · refine ifF (by simp [e]) ?_
        rw [List.take_add_one, hp1]
        simp [e]
    · rw [hxl, List.take_length] at h
      subst h
      refine ⟨_, rfl, a, rfl, ⟨_, sqt (upd_at hL ha)⟩, fun M hM => lc_it (walk_tup (xs := xs)) (fun i H' => H' = upd (upd H L (.lst (((ties.filter fun p => decide (p.1 = c)).map (·.2)).map V.int))) M (.lst ((((ties.take i).filter fun p => decide (p.2 = c)).map (·.1)).map V.int))) rfl (fun i H' _ h => ?_) (fun i x H' H'' hi h y => ?_) (fun H' h => ?_)⟩
      · subst h
        exact sqt (upd_at hM (upd_at hL ha))
      · obtain ⟨rfl, hx⟩ := y
        subst h
        obtain ⟨b, p, hp1, rfl, hb⟩ := tie (fun b o e => upd_at hM (upd_at hL e)) hx
        refine ⟨b, _, rfl, sqt hb, rfl, _, _, rfl, _, _, rfl, rfl, rfl, _, rfl, _, rfl, rfl, _, rfl, ?_⟩
        by_cases e : p.2 = c
        · refine ifT (by simp [e]) ⟨_, rfl, _, upd_same, ?_, ?_⟩
          · have : ((ties.take i).filter fun p => decide (p.2 = c)).length ≤ (ties.take i).length := List.length_filter_le _ _
            rw [List.length_take] at this
            rw [List.length_map, List.length_map, sizeLine_eq]
            omega
          · rw [upd_upd, List.take_add_one, hp1]
            simp [e]
        · refine ifF (by simp [e]) ?_
          rw [List.take_add_one, hp1]
          simp [e]
      · rw [hxl, List.take_length] at h
        subst h
        refine ⟨L, M, _, _, rfl, rfl, upd_at hM upd_same, upd_same, ?_, fun R hR => ?_⟩
        · have h1 : (ties.filter fun p => decide (p.1 = c)).length ≤ ties.length := List.length_filter_le _ _
          have h2 : (ties.filter fun p => decide (p.2 = c)).length ≤ ties.length := List.length_filter_le _ _
          simp only [List.length_map, sizeLine_eq]
          omega
        · refine k _ _ (fun b o e => upd_at hR (upd_at hM (upd_at hL e))) (none_under (none_under hR)) ?_
          rw [upd_same]
          unfold partnersOf
          rw [List.map_append]
end
end G9

set_option Elab.async false
set_option linter.all false
set_option maxRecDepth 100000
set_option maxHeartbeats 4000000
/-! joined cells: what a search finds -/
namespace G9
open PySem PySem.Spec PyProof.Rows L2 GX
def Adj (T : List (Int × Int)) (x y : Int) : Prop := (x, y) ∈ T ∨ (y, x) ∈ T
inductive Conn (M : List Int) (T : List (Int × Int)) (s : Int) : Int → Prop
  | start : s ∈ M → Conn M T s s
  | step {x y : Int} : Conn M T s x → y ∈ M → Adj T x y → Conn M T s y
/-- marked cells are joined -/
def Joined (M : List Int) (T : List (Int × Int)) : Prop := ∀ s r, M = s :: r → ∀ m ∈ M, Conn M T s m
noncomputable def joinedB (M : List Int) (T : List (Int × Int)) : Bool := @decide (Joined M T) (Classical.propDecidable _)
theorem joinedB_yes {M : List Int} {T : List (Int × Int)} (h : Joined M T) : joinedB M T = true := @decide_eq_true _ (Classical.propDecidable _) h
theorem joinedB_no {M : List Int} {T : List (Int × Int)} (h : ¬ Joined M T) : joinedB M T = false := @decide_eq_false _ (Classical.propDecidable _) h
theorem nodup_le : ∀ {l m : List Int}, l.Nodup → (∀ x ∈ l, x ∈ m) → l.length ≤ m.length
  | [], _, _, _ => Nat.zero_le _
  | a :: l, m, nd, sub => by
    obtain ⟨h1, h2⟩ := List.nodup_cons.mp nd
    have ha : a ∈ m := sub a (List.mem_cons_self ..)
    have := nodup_le (m := m.erase a) h2 fun x hx => (List.mem_erase_of_ne fun z : x = a => h1 (z ▸ hx)).mpr (sub x (List.mem_cons_of_mem _ hx))
    have hp : 0 < m.length := List.length_pos_of_mem ha
    rw [List.length_erase_of_mem ha] at this
    rw [List.length_cons]
    omega
theorem nodup_all {l m : List Int} (nd : l.Nodup) (sub : ∀ x ∈ l, x ∈ m) (hl : m.length ≤ l.length) : ∀ x ∈ m, x ∈ l := fun x hx => by
  by_cases e : x ∈ l
  · exact e
  · have := nodup_le (l := x :: l) (m := m) (List.nodup_cons.mpr ⟨e, nd⟩) fun y hy => (List.mem_cons.mp hy).elim (fun z => z ▸ hx) (sub y)
    rw [List.length_cons] at this
    omega
/-- a search under way: R found, W waiting; the cells of ex are not gone through to the end -/
structure Sr (M : List Int) (T : List (Int × Int)) (s : Int) (R W : List Int) (ex : Int → Prop) : Prop where
  nd : R.Nodup
  sub : ∀ x ∈ R, x ∈ M
  con : ∀ x ∈ R, Conn M T s x
  wr : ∀ x ∈ W, x ∈ R
  cl : ∀ x ∈ R, x ∉ W → ¬ ex x → ∀ y ∈ M, Adj T x y → y ∈ R
  st : s ∈ R
  wl : W.length ≤ R.length
theorem Sr.begin {M : List Int} {T : List (Int × Int)} {s : Int} (h : s ∈ M) : Sr M T s [s] [s] fun _ => False where
  nd := List.nodup_cons.mpr ⟨by simp, List.nodup_nil⟩
  sub := fun x hx => by rw [List.mem_singleton.mp hx]; exact h
  con := fun x hx => by rw [List.mem_singleton.mp hx]; exact .start h
  wr := fun x hx => hx
  cl := fun x hx hn => absurd hx hn
  st := List.mem_singleton.mpr rfl
  wl := Nat.le_refl _
theorem Sr.len {M : List Int} {T : List (Int × Int)} {s : Int} {R W : List Int} {ex : Int → Prop} (h : Sr M T s R W ex) : R.length ≤ M.length :=
  nodup_le h.nd h.sub
/-- one is taken -/
theorem Sr.take {M : List Int} {T : List (Int × Int)} {s c : Int} {R W : List Int} (h : Sr M T s R (W ++ [c]) fun _ => False) : Sr M T s R W (fun x => x = c) where
  nd := h.nd
  sub := h.sub
  con := h.con
  wr := fun x hx => h.wr x (List.mem_append_left _ hx)
  cl := fun x hx hn he => h.cl x hx (fun z => (List.mem_append.mp z).elim hn fun q => he (List.mem_singleton.mp q)) id
  st := h.st
  wl := by have := h.wl; rw [List.length_append] at this; omega
/-- a new one is found -/
theorem Sr.find {M : List Int} {T : List (Int × Int)} {s c y : Int} {R W : List Int} (h : Sr M T s R W (fun x => x = c)) (hc : c ∈ R) (hy : y ∈ M) (hn : y ∉ R) (ha : Adj T c y) : Sr M T s (R ++ [y]) (W ++ [y]) (fun x => x = c) where
  nd := by
    rw [List.nodup_append]
    refine ⟨h.nd, List.nodup_cons.mpr ⟨by simp, List.nodup_nil⟩, fun a ha b hb => ?_⟩
    rw [List.mem_singleton.mp hb]
    exact fun z => hn (z ▸ ha)
  sub := fun x hx => (List.mem_append.mp hx).elim (h.sub x) fun q => by rw [List.mem_singleton.mp q]; exact hy
  con := fun x hx => (List.mem_append.mp hx).elim (h.con x) fun q => by rw [List.mem_singleton.mp q]; exact .step (h.con c hc) hy ha
  wr := fun x hx => (List.mem_append.mp hx).elim (fun q => List.mem_append_left _ (h.wr x q)) fun q => List.mem_append_right _ q
  cl := fun x hx hnw he z hz az => by
    rcases List.mem_append.mp hx with q | q
    · exact List.mem_append_left _ (h.cl x q (fun w => hnw (List.mem_append_left _ w)) he z hz az)
    · exact absurd (List.mem_append_right _ q) hnw
  st := List.mem_append_left _ h.st
  wl := by have := h.wl; rw [List.length_append, List.length_append]; show W.length + 1 ≤ R.length + 1; omega
/-- all beside it have been looked at -/
theorem Sr.done {M : List Int} {T : List (Int × Int)} {s c : Int} {R W : List Int} (h : Sr M T s R W (fun x => x = c)) (all : ∀ y ∈ M, Adj T c y → y ∈ R) : Sr M T s R W fun _ => False where
  nd := h.nd
  sub := h.sub
  con := h.con
  wr := h.wr
  cl := fun x hx hn _ y hy ha => by
    by_cases e : x = c
    · subst e
      exact all y hy ha
    · exact h.cl x hx hn e y hy ha
  st := h.st
  wl := h.wl
theorem Sr.all {M : List Int} {T : List (Int × Int)} {s : Int} {R : List Int} (h : Sr M T s R [] fun _ => False) {y : Int} (c : Conn M T s y) : y ∈ R := by
  induction c with
  | start => exact h.st
  | step _ hy ha ih => exact h.cl _ ih (by simp) id _ hy ha
theorem Sr.count {M : List Int} {T : List (Int × Int)} {s : Int} {R r : List Int} (hM : M = s :: r) (nd : M.Nodup) (h : Sr M T s R [] fun _ => False) : decide ((R.length : Int) = (M.length : Int)) = joinedB M T := by
  by_cases j : Joined M T
  · have e1 : M.length ≤ R.length := nodup_le nd fun m hm => h.all (j s r hM m hm)
    have e2 := h.len
    rw [joinedB_yes j, decide_eq_true (by omega)]
  · rw [joinedB_no j]
    refine decide_eq_false fun e => j fun s' r' e' m hm => ?_
    have e2 : s' = s := by rw [hM] at e'; exact (List.cons.inj e').1.symm
    subst e2
    exact h.con m (nodup_all h.nd h.sub (by omega) m hm)
theorem joinedB_nil (T : List (Int × Int)) : joinedB [] T = true := joinedB_yes fun s r e => by cases e
theorem joinedB_one (s : Int) (T : List (Int × Int)) : joinedB [s] T = true := joinedB_yes fun s' r e m hm => by
  cases e
  rw [List.mem_singleton.mp hm]
  exact .start (List.mem_singleton.mpr rfl)
theorem adj_partners {T : List (Int × Int)} {c y : Int} : y ∈ partnersOf T c ↔ Adj T c y := by
  unfold partnersOf Adj
  simp only [List.mem_append, List.mem_map, List.mem_filter, decide_eq_true_eq]
  constructor
  · rintro (⟨p, ⟨hp, rfl⟩, rfl⟩ | ⟨p, ⟨hp, rfl⟩, rfl⟩)
    · exact .inl hp
    · exact .inr hp
  · rintro (h | h)
    · exact .inl ⟨_, ⟨h, rfl⟩, rfl⟩
    · exact .inr ⟨_, ⟨h, rfl⟩, rfl⟩
end G9

set_option Elab.async false
set_option linter.all false
set_option maxRecDepth 100000
set_option maxHeartbeats 4000000
/-! joined_to_first -/
namespace G9
open PySem PySem.Spec PyProof.Rows L2 GX
theorem cut1 (xs : List V) : cutV xs none (some 1) = xs.take 1 := by
  unfold cutV
  cases xs with
  | nil => rfl
  | cons x r =>
    have e : HT.sIx (x :: r).length (x :: r).length (some 1) - HT.sIx (x :: r).length 0 none = 1 := by simp [HT.sIx]
    rw [e]
    rfl
def dR (R : List Int) : List (Key × V) := R.map fun x => ((Sum.inl x : Key), V.bl true)
theorem valV_dR : ∀ (R : List Int) (x : Int), valV (dR R) (.inl x) = if x ∈ R then some (.bl true) else none
  | [], x => rfl
  | a :: R, x => by
    by_cases e : a = x
    · subst e
      rw [if_pos (List.mem_cons_self ..)]
      exact valV_pos rfl
    · have := valV_dR R x
      show valV (((Sum.inl a : Key), V.bl true) :: dR R) _ = _
      rw [valV_neg (fun z => e (Sum.inl.inj z)), this]
      by_cases h : x ∈ R
      · rw [if_pos h, if_pos (List.mem_cons_of_mem _ h)]
      · rw [if_neg h, if_neg fun z => (List.mem_cons.mp z).elim (fun q => e q.symm) h]
theorem putK_dR {R : List Int} {x : Int} (h : x ∉ R) : putK (dR R) (.inl x) (.bl true) = dR (R ++ [x]) := by
  rw [putK_new _ (by rw [valV_dR, if_neg h])]
  unfold dR
  rw [List.map_append]
  rfl
theorem dR_len (R : List Int) : (dR R).length = R.length := List.length_map ..
theorem IL.dp {K : PySem.W.Frag} {H : Hp} {v : V} {ns : List Int} (h : IL H v ns) : Dp K H v (.list (ns.map .int)) := by
  obtain ⟨a, rfl, q⟩ := h
  exact .lst (sql q) (dpAll_ints ns)
def spJoined : Sp := fun vs H Q _ => ∃ m M t ties, vs = [m, t] ∧ IL H m M ∧ RowsH H t (ties.map tie2) ∧ M.Nodup ∧ M.length ≤ 1000 ∧ ties.length ≤ 1000 ∧ ∀ (l : Addr) (R : List Int) (H' : Hp), Same H H' → decide (R.length = M.length) = joinedB M ties → H' l = some (.lst (R.map V.int)) → Q (.ref l) H'
section
variable {P : Program} {w : World} {K : PySem.W.Frag} {mg : Str → Option Value} {base : Heap} {f f2 : Addr} {fd fd2 : FuncData}
theorem ok_areJoined (B : Bl mg) (D : Df K mg "joined_to_first" sAreJoined ["marked", "ties"] f fd) (D2 : Df K mg "_partners" sPartners ["ties", "cell"] f2 fd2) (G2 : FnOk P w K mg base CX0 1 f2 fd2 ["ties", "cell"] spPartners) : FnOk P w K mg base CX0 3 f fd ["marked", "ties"] spJoined := by
  refine D.F.ok scAreJoined (fun vs H Q E h => ?_) (fun cdv A outer s H vs Q E hr h => ?_)
  · obtain ⟨m, M, t, ties, rfl, _⟩ := h
    rfl
  · obtain ⟨m, M, t, ties, rfl, hm, ht, nd, hM, hT, k⟩ := h
    have hu := hr.units
    have hu1 := hu_of hr
    refine ⟨_, pss_cons (ps_setDc (i := 3) (own := [("cell", 2)]) rfl scAreJoined.nd rfl rfl (swapD rfl rfl rfl (by decide +kernel)) (pi_list (pe_slice sl_list (pv 0) po_none (po_some pe_int))) (blkOk_by (N := ["marked", "ties", "cell", "reached", "waiting", "other"]) (sc := defScope sAreJoined) (by decide +kernel))
          (fun _ _ _ _ _ => pg_name (i := 2) scAreJoined.nd rfl (.inl rfl)) (fun _ _ _ _ _ => pts_nil) (fun _ _ _ _ _ => pv 2) (fun _ _ _ _ _ => pe_bl))
      (pss_cons (ps_set (i := 4) scAreJoined.nd rfl (.inl rfl) (pe_slice sl_list (pv 0) po_none (po_some pe_int)))
      (pss_cons (ps_while PassesOwn.never (pt_truth (pv 4) (fun _ => rfl))
        (pss_cons (ps_set (i := 2) scAreJoined.nd rfl (.inl rfl) (pe_bm0 PySem.F.plainAttrs_list PySem.F.slot_list_pop PySem.F.type_list_pop mt_pop (pv 4)))
        (pss_one (ps_for PassesOwn.never rfl (pi_list (pe_call G2 (hr.mono (by decide)) (by rfl) D2.g D2.F.kp D2.b .nil pass0 (pa_cons (pv 1) (pa_cons (pv 2) pa_nil)))) (pg_name (i := 5) scAreJoined.nd rfl (.inl rfl))
          (pss_one (ps_if (pw_and (pt_cmpR (inDD K hu) (pv 5) (pv 0) (by rfl)) (pw_and1 (pt_cmp (pc_dnotin hu1 (pv 5) (pv 3))))).pt
            (pss_cons (ps_dput hu1 (pv 3) (pv 5) pe_bl rfl) (pss_one (ps_expr (pe_bm PySem.F.plainAttrs_list PySem.F.slot_list_append PySem.F.type_list_append mt_append (pv 4) (pa_cons (pv 5) pa_nil))))) pss_nil))))))
      (pss_one (ps_ret (pe_callTy (call_listD rfl) (by rfl) B.list PyProof.Rows.boot_list (pa_cons (pv 3) pa_nil)))))), ?_⟩
    obtain ⟨a, rfl, ha⟩ := hm
    have ht0 := ht
    obtain ⟨tv, xs, rfl, htv, hpt⟩ := ht
    refine ⟨_, rfl, 1, rfl, a, _, rfl, sql ha, fun L hL => ⟨L, rfl, ⟨_, sql upd_same⟩, fun D hD => ?_⟩⟩
    have hDH : H D = none := by
      rw [upd_ne (ne_of_none upd_same hD).symm] at hD
      exact hD
    have nLD : L ≠ D := ne_of_none upd_same hD
    rw [cut1, ← List.map_take] at hD ⊢
    generalize hS : M.take 1 = S at hD ⊢
    have Sl : S.length ≤ 1 := by rw [← hS, List.length_take]; omega
    have Snd : S.Nodup := by rw [← hS]; exact (List.take_sublist 1 M).nodup nd
    refine dcW (walk_list (K := K) (a := L) (xs := S.map V.int)) (fun i H' => H' = upd (upd H L (.lst (S.map V.int))) D (.dK (dR (S.take i)))) rfl (fun i H' _ h => ?_) (fun i x H' H'' _ h hx => ?_) (fun H' h => ?_)
    · subst h
      exact sql (upd_at hD upd_same)
    · obtain ⟨rfl, hx⟩ := hx
      obtain ⟨c, hc, rfl⟩ := at_ints hx
      subst h
      have hn : c ∉ S.take i := fun z => by
        obtain ⟨j, hj, e⟩ := List.mem_take_iff_getElem.mp z
        have hi := (List.getElem?_eq_some_iff.mp hc)
        obtain ⟨hi1, hi2⟩ := hi
        have := (List.getElem_inj Snd (h₀ := by omega) (h₁ := hi1)).mp (e.trans hi2.symm)
        omega
      refine ⟨rfl, _, rfl, _, .inl c, rfl, upd_same, ?_, ?_⟩
      · rw [dR_len, List.length_take, sizeLine_eq]
        omega
      · rw [upd_upd, putK_dR hn, List.take_add_one, hc]
        rfl
    rw [List.length_map, List.take_length] at h
    subst h
    refine ⟨_, rfl, 1, rfl, a, _, rfl, sql (upd_at hD (upd_at hL ha)), fun Wt hW => ?_⟩
    rw [cut1, ← List.map_take, hS]
    have hWH : H Wt = none := none_under (none_under hW)
    have nDW : D ≠ Wt := ne_of_none upd_same hW
    -- the search
    have start : (M = [] ∧ S = []) ∨ ∃ s r, M = s :: r ∧ Sr M ties s S S fun _ => False := by
      cases M with
      | nil => exact .inl ⟨rfl, hS.symm⟩
      | cons s r =>
        refine .inr ⟨s, r, rfl, ?_⟩
        rw [← hS]
        exact Sr.begin (List.mem_cons_self ..)
    refine ⟨fun n σ H' => ∃ (R W : List Int) (o2 o5 : Option V), n = 2 * (M.length - R.length) + W.length ∧ σ = [some (.ref a), some (.ref tv), o2, some (.ref D), some (.ref Wt), o5] ∧ H' D = some (.dK (dR R)) ∧ H' Wt = some (.lst (W.map V.int)) ∧ Same H H' ∧ ((M = [] ∧ R = [] ∧ W = []) ∨ ∃ s r, M = s :: r ∧ Sr M ties s R W fun _ => False),
      ⟨_, S, S, none, none, rfl, rfl, upd_at hW upd_same, upd_same, fun b o e => upd_at hW (upd_at hD (upd_at hL e)), ?_⟩, fun n σ H' hI => ?_⟩
    · rcases start with ⟨e1, e2⟩ | z
      · exact .inl ⟨e1, e2, e2⟩
      · exact .inr z
    obtain ⟨R, W, o2, o5, rfl, rfl, hDR, hWW, sm, inv⟩ := hI
    refine ⟨_, rfl, !(W.map V.int).isEmpty, .inl ⟨_, sql hWW, rfl⟩, ?_⟩
    have out : decide (R.length = M.length) = joinedB M ties → ∃ vs1, [V.ref D] = vs1 ∧ ∃ (a1 : Addr) (kvs : List (Key × V)), vs1 = [.ref a1] ∧ Rd H' a1 (.dK kvs) ∧ ∀ p, H' p = none → Q (.ref p) (upd H' p (.lst (kvs.map fun kv => kV kv.1))) := fun e => by
      refine ⟨_, rfl, D, _, rfl, .inl hDR, fun p hp => k p R _ (fun b o e => upd_at hp (sm b o e)) e ?_⟩
      rw [upd_same]
      unfold dR
      rw [List.map_map]
      rfl
    rcases inv with ⟨eM, eR, eW⟩ | ⟨s0, r0, eM, inv⟩
    · subst eR eW
      refine ifF rfl ?_
      obtain ⟨_, rfl, D1, kvs, e, hD1, f⟩ := out (by subst eM; rw [joinedB_nil]; rfl)
      exact ⟨_, rfl, D1, kvs, e, hD1, f⟩
    by_cases hWe : W = []
    · subst hWe
      refine ifF rfl ?_
      obtain ⟨_, rfl, D1, kvs, e, hD1, f⟩ := out (by rw [← inv.count eM nd]; exact decide_eq_decide.mpr Int.ofNat_inj.symm)
      exact ⟨_, rfl, D1, kvs, e, hD1, f⟩
    · obtain ⟨W', c, rfl⟩ : ∃ W' c, W = W' ++ [c] := ⟨W.dropLast, W.getLast hWe, (List.dropLast_concat_getLast hWe).symm⟩
      refine ifT (by simp) ?_
      have hcR : c ∈ R := inv.wr c (by simp)
      have hRM := inv.len
      refine ⟨fun σ' H'' => ∃ (R2 W2 : List Int) (o2 o5 : Option V), 2 * (M.length - R2.length) + W2.length < 2 * (M.length - R.length) + (W' ++ [c]).length ∧ σ' = [some (.ref a), some (.ref tv), o2, some (.ref D), some (.ref Wt), o5] ∧ H'' D = some (.dK (dR R2)) ∧ H'' Wt = some (.lst (W2.map V.int)) ∧ Same H H'' ∧ ((M = [] ∧ R2 = [] ∧ W2 = []) ∨ ∃ s r, M = s :: r ∧ Sr M ties s R2 W2 fun _ => False), fun σ' H'' hN => ?_, ?_⟩
      · obtain ⟨R2, W2, p2, p5, lt, rest⟩ := hN
        exact ⟨_, lt, R2, W2, p2, p5, rfl, rest⟩
      refine ⟨_, rfl, .inl ⟨rfl, _, sql hWW⟩, Wt, _, .int c, rfl, rfl, hWW, by simp, ?_⟩
      have nDW' : D ≠ Wt := nDW
      have hpop : ((W' ++ [c]).map V.int).dropLast = W'.map V.int := by simp
      rw [hpop]
      have smW : ∀ {X Y : Hp} (o : HO), Same H X → Same H (upd X Wt o) := fun o z b o' e => by
        rw [upd_ne (fun q => by rw [q, hWH] at e; cases e)]
        exact z b o' e
      have smD : ∀ {X Y : Hp} (o : HO), Same H X → Same H (upd X D o) := fun o z b o' e => by
        rw [upd_ne (fun q => by rw [q, hDH] at e; cases e)]
        exact z b o' e
      have sm1 : Same H (upd H' Wt (.lst (W'.map V.int))) := smW (Y := H') _ sm
      refine ⟨_, rfl, _, rfl, .ref tv, ties, c, rfl, ht0.kt (kt_same sm1), hT, fun pl H2 s2 hpn hpl => ?_⟩
      have npW : pl ≠ Wt := (ne_of_none upd_same hpn).symm
      refine ⟨pl, rfl, ⟨_, sql hpl⟩, for_list (K := K) (a := pl) (xs := (partnersOf ties c).map V.int) (fun i σ H' => ∃ (R2 W2 : List Int) (o5 : Option V), 2 * (M.length - R2.length) + W2.length < 2 * (M.length - R.length) + (W' ++ [c]).length ∧ σ = [some (.ref a), some (.ref tv), some (.int c), some (.ref D), some (.ref Wt), o5] ∧ H' D = some (.dK (dR R2)) ∧ H' Wt = some (.lst (W2.map V.int)) ∧ Same H H' ∧ Sr M ties s0 R2 W2 (fun x => x = c) ∧ c ∈ R2 ∧ H' pl = some (.lst ((partnersOf ties c).map V.int)) ∧ ∀ y ∈ (partnersOf ties c).take i, y ∈ M → y ∈ R2)
        ⟨R, W', o5, by rw [List.length_append]; show _ < _ + (W'.length + 1); omega, rfl, s2 _ _ (by rw [upd_ne nDW]; exact hDR), s2 _ _ upd_same, fun b o e => s2 b o (sm1 b o e), inv.take, hcR, hpl, fun y hy => by simp at hy⟩ (fun i σ H' _ h => ?_) (fun i x σ H' hx h => ?_) (fun σ H' h => ?_)⟩
      · obtain ⟨_, _, _, _, _, _, _, _, _, _, h1, _⟩ := h
        exact sql h1
      · obtain ⟨R2, W2, q5, lt, rfl, hD2, hW2, sm2, inv2, hc2, hpl2, all2⟩ := h
        obtain ⟨y, hy, rfl⟩ := at_ints hx
        have sm2' := sm2
        have hadj : Adj ties c y := adj_partners.mp (List.mem_of_getElem? hy)
        have tk : (partnersOf ties c).take (i + 1) = (partnersOf ties c).take i ++ [y] := by rw [List.take_add_one, hy]; rfl
        refine ⟨_, rfl, _, rfl, .int y, M.map .int, .int y, .inr (IL.dp ⟨a, rfl, sm2 _ _ ha⟩), cmp_int y, canAll_ints M, _, rfl, ?_⟩
        rw [GX.any_ints]
        have len2 := inv2.len
        by_cases hyM : y ∈ M
        · refine ifT (decide_eq_true hyM) ?_
          refine ⟨_, rfl, _, rfl, D, _, rfl, DGet.k (k := .inl y) hD2, _, rfl, ?_⟩
          rw [valV_dR]
          by_cases hyR : y ∈ R2
          · rw [if_pos hyR]
            refine ifF rfl ?_
            refine ⟨R2, W2, some (.int y), lt, rfl, hD2, hW2, sm2, inv2, hc2, hpl2, fun z hz hzM => ?_⟩
            rw [tk] at hz
            rcases List.mem_append.mp hz with q | q
            · exact all2 z q hzM
            · rw [List.mem_singleton.mp q]; exact hyR
          · rw [if_neg hyR]
            refine ifT rfl ?_
            have inv3 := inv2.find hc2 hyM hyR hadj
            have len3 := inv3.len
            rw [List.length_append] at len3
            have l3 : R2.length + 1 ≤ M.length := len3
            have npD : pl ≠ D := ne_of hpl2 hD2 fun z => by cases z
            have lw := inv2.wl
            refine ⟨_, rfl, _, rfl, D, _, rfl, DPut.k (k := .inl y) (v := .bl true) hD2 (by rw [dR_len, sizeLine_eq]; omega), ?_⟩
            rw [putK_dR hyR]
            refine ⟨_, rfl, .inl ⟨rfl, _, sql ((upd_ne nDW.symm).trans hW2)⟩, _, rfl, Wt, _, .int y, rfl, rfl, (upd_ne nDW.symm).trans hW2, by rw [List.length_map, sizeLine_eq]; omega, ?_⟩
            refine ⟨R2 ++ [y], W2 ++ [y], some (.int y), ?_, rfl, by rw [upd_ne nDW]; exact upd_same, by rw [upd_same, List.map_append]; rfl, smW (Y := H') _ (smD (Y := H') _ sm2), inv3, List.mem_append_left _ hc2, ?_, fun z hz hzM => ?_⟩
            · rw [List.length_append, List.length_append]
              show 2 * (M.length - (R2.length + 1)) + (W2.length + 1) < _
              omega
            · rw [upd_ne npW, upd_ne npD]
              exact hpl2
            · rw [tk] at hz
              rcases List.mem_append.mp hz with q | q
              · exact List.mem_append_left _ (all2 z q hzM)
              · exact List.mem_append_right _ q
        · refine ifF (decide_eq_false hyM) ?_
          refine ifF rfl ?_
          refine ⟨R2, W2, some (.int y), lt, rfl, hD2, hW2, sm2, inv2, hc2, hpl2, fun z hz hzM => ?_⟩
          rw [tk] at hz
          rcases List.mem_append.mp hz with q | q
          · exact all2 z q hzM
          · rw [List.mem_singleton.mp q] at hzM
            exact absurd hzM hyM
      · obtain ⟨R2, W2, q5, lt, rfl, hD2, hW2, sm2, inv2, hc2, hpl2, all2⟩ := h
        rw [List.length_map, List.take_length] at all2
        exact ⟨R2, W2, _, q5, lt, rfl, hD2, hW2, sm2, .inr ⟨s0, r0, eM, inv2.done fun y hy ha => all2 y (adj_partners.mpr ha) hy⟩⟩
end
end G9

set_option Elab.async false
set_option linter.all false
set_option maxRecDepth 100000
set_option maxHeartbeats 4000000
/-! the law's own is_joined -/
namespace G9
open PySem PySem.Spec PyProof.Rows L2 GX
/-- what a tie joins to a cell -/
def nears (p : Int × Int) (c : Int) : List Int := (if p.1 = c then [p.2] else []) ++ (if p.2 = c then [p.1] else [])
theorem mem_nears {p : Int × Int} {c y : Int} : y ∈ nears p c ↔ (p = (c, y) ∨ p = (y, c)) := by
  obtain ⟨a, b⟩ := p
  unfold nears
  by_cases h1 : a = c <;> by_cases h2 : b = c <;> simp [h1, h2, Prod.ext_iff, eq_comm] <;> omega
theorem rep_bool (k : Bool) (x : V) : (List.replicate (if k = true then (1 : Int) else 0).toNat [x]).flatten = if k = true then [x] else [] := by
  cases k <;> rfl
theorem near_bool (p : Int × Int) (c : Int) : (if decide (V.int p.1 = V.int c) = true then [V.int p.2] else []) ++ (if decide (V.int p.2 = V.int c) = true then [V.int p.1] else []) = (nears p c).map V.int := by
  unfold nears
  by_cases h1 : p.1 = c <;> by_cases h2 : p.2 = c <;> simp [h1, h2]
def spLJoined : Sp := fun vs H Q _ => ∃ cs m M t ties, vs = [cs, t, m] ∧ IL H m M ∧ RowsH H t (ties.map tie2) ∧ M.Nodup ∧ M.length ≤ 1000 ∧ ties.length ≤ 1000 ∧ ∀ H', Same H H' → Q (.bl (joinedB M ties)) H'
section
variable {P : Program} {w : World} {K : PySem.W.Frag} {mg : Str → Option Value} {base : Heap} {f f2 : Addr} {fd fd2 : FuncData}
theorem ok_ljoined (B : Bl mg) (D : Df K mg "_law_is_joined" sLJoined ["_law_cells", "_law_ties", "_law_marked"] f fd) : FnOk P w K mg base CX0 1 f fd ["_law_cells", "_law_ties", "_law_marked"] spLJoined := by
  refine D.F.ok scLJoined (fun vs H Q E h => ?_) (fun cdv A outer s H vs Q E hr h => ?_)
  · obtain ⟨cs, m, M, t, ties, rfl, _⟩ := h
    rfl
  · obtain ⟨cs, m, M, t, ties, rfl, hm, ht, nd, hM, hT, k⟩ := h
    have hu := hr.units
    refine ⟨_, pss_cons (ps_if (pt_cmpR op_lt (pe_callB call_len_seq (by rfl) B.len PySem.boot_len (pa_cons (pv 2) pa_nil)) pe_int (nomark _)) (pss_one (ps_ret pe_bl)) pss_nil)
      (pss_cons (ps_par (i := 3) (j := 4) rfl scLJoined.nd rfl rfl (by decide) rfl rfl (pa_cons (pe_lst (pa_cons (pe_ix ix_list (pv 2) pe_int (fun _ _ => rfl)) pa_nil)) (pa_cons (pe_lst (pa_cons (pe_ix ix_list (pv 2) pe_int (fun _ _ => rfl)) pa_nil)) pa_nil)) (by rfl))
      (pss_cons (ps_while PassesOwn.never (pt_cmpR (neDD K hu) (pv 4) (pe_lst pa_nil) (nomark _))
        (pss_cons (ps_set (i := 5) scLJoined.nd rfl (.inl rfl) (pe_bm0 PySem.F.plainAttrs_list PySem.F.slot_list_pop PySem.F.type_list_pop mt_pop (pv 4)))
        (pss_one (ps_for PassesOwn.never rfl (pi_tup (pv 1)) (pg_tupK K (n := 2) rfl (pgs_cons (pg_name (i := 6) scLJoined.nd rfl (.inl rfl)) (pgs_cons (pg_name (i := 7) scLJoined.nd rfl (.inl rfl)) pgs_nil)))
          (pss_one (ps_for PassesOwn.never rfl (pi_list (pe_op op_cat
              (pe_op op_rep (pe_lst (pa_cons (pv 7) pa_nil)) (pe_callTy call_int1 (by rfl) B.int PyProof.Rows.boot_int (pa_cons (pe_cmpR op_eq (pv 6) (pv 5) (nomark _)) pa_nil)))
              (pe_op op_rep (pe_lst (pa_cons (pv 6) pa_nil)) (pe_callTy call_int1 (by rfl) B.int PyProof.Rows.boot_int (pa_cons (pe_cmpR op_eq (pv 7) (pv 5) (nomark _)) pa_nil))))) (pg_name (i := 8) scLJoined.nd rfl (.inl rfl))
            (pss_one (ps_if (pw_and (pt_cmpR (inDD K hu) (pv 8) (pv 2) (by rfl)) (pw_and1 (pt_cmpR (notInDD K hu) (pv 8) (pv 3) (by rfl)))).pt
              (pss_cons (ps_expr (pe_bm PySem.F.plainAttrs_list PySem.F.slot_list_append PySem.F.type_list_append mt_append (pv 3) (pa_cons (pv 8) pa_nil))) (pss_one (ps_expr (pe_bm PySem.F.plainAttrs_list PySem.F.slot_list_append PySem.F.type_list_append mt_append (pv 4) (pa_cons (pv 8) pa_nil))))) pss_nil))))))))
      (pss_one (ps_ret (pe_cmpR op_eq (pe_callB call_len_seq (by rfl) B.len PySem.boot_len (pa_cons (pv 3) pa_nil)) (pe_callB call_len_seq (by rfl) B.len PySem.boot_len (pa_cons (pv 2) pa_nil)) (nomark _)))))), ?_⟩
    obtain ⟨a, rfl, ha⟩ := hm
    obtain ⟨tv, xs, rfl, htv, hpt⟩ := ht
    refine ⟨_, rfl, a, _, rfl, .inl (sql ha), _, _, rfl, rfl, _, rfl, ?_⟩
    rw [List.length_map]
    by_cases l2 : M.length < 2
    · refine ifT (by simp; omega) ?_
      have : joinedB M ties = true := by
        match M, l2 with
        | [], _ => exact joinedB_nil ties
        | [x], _ => exact joinedB_one x ties
      rw [← this]
      exact k H (same_refl H)
    refine ifF (by simp; omega) ?_
    obtain ⟨s0, r0, eM⟩ : ∃ s r, M = s :: r := by
      cases M with
      | nil => simp at l2
      | cons s r => exact ⟨s, r, rfl⟩
    have h0 : atI (M.map V.int) 0 = some (.int s0) := by rw [eM]; exact L2.atI_nat (j := 0) rfl
    refine ⟨_, rfl, a, _, 0, _, rfl, rfl, sql ha, h0, (show 1 ≤ sizeLine by decide), fun S hS => ?_⟩
    refine ⟨_, rfl, a, _, 0, _, rfl, rfl, sql (upd_at hS ha), h0, (show 1 ≤ sizeLine by decide), fun Rt hR => ?_⟩
    have nSR : S ≠ Rt := ne_of_none upd_same hR
    have hRH : H Rt = none := none_under hR
    have smR : ∀ {X : Hp} (o : HO), Same H X → Same H (upd X Rt o) := fun o z b o' e => by
      rw [upd_ne (fun q => by rw [q, hRH] at e; cases e)]
      exact z b o' e
    have smS : ∀ {X : Hp} (o : HO), Same H X → Same H (upd X S o) := fun o z b o' e => by
      rw [upd_ne (fun q => by rw [q, hS] at e; cases e)]
      exact z b o' e
    have smN : ∀ {X : Hp} {p : Addr} {o : HO}, X p = none → Same H X → Same H (upd X p o) := fun hp z b o' e => upd_at hp (z b o' e)
    refine ⟨_, _, rfl, ?_⟩
    have dL : ∀ {H' : Hp} {l : Addr} {ns : List Int}, H' l = some (.lst (ns.map V.int)) → Dp K H' (.ref l) (.list (ns.map .int)) := fun h => IL.dp ⟨_, rfl, h⟩
    refine ⟨fun n σ H' => ∃ (R W : List Int) (o5 o6 o7 o8 : Option V), n = 2 * (M.length - R.length) + W.length ∧ σ = [some cs, some (.ref tv), some (.ref a), some (.ref S), some (.ref Rt), o5, o6, o7, o8] ∧ H' S = some (.lst (R.map V.int)) ∧ H' Rt = some (.lst (W.map V.int)) ∧ Same H H' ∧ Sr M ties s0 R W fun _ => False,
      ⟨_, [s0], [s0], none, none, none, none, rfl, rfl, upd_at hR upd_same, upd_same, fun b o e => upd_at hR (upd_at hS e), Sr.begin (by rw [eM]; exact List.mem_cons_self ..)⟩, fun n σ H' hI => ?_⟩
    obtain ⟨R, W, o5, o6, o7, o8, rfl, rfl, hSS, hRR, sm, inv⟩ := hI
    refine ⟨_, rfl, by decide, fun N hN => ?_⟩
    have hSS := upd_at (o := .lst []) hN hSS
    have hRR := upd_at (o := .lst []) hN hRR
    have sm := smN (o := .lst []) hN sm
    have hNN : upd H' N (.lst []) N = some (.lst (([] : List Int).map V.int)) := upd_same
    generalize upd H' N (.lst []) = H1 at hSS hRR sm hNN
    refine ⟨.list (W.map .int), .list (([] : List Int).map .int), dL hRR, dL hNN, cmp_lints W, cmp_lints [], _, rfl, ?_⟩
    rw [eqv_lints]
    by_cases hWe : W = []
    · subst hWe
      refine ifF (by decide) ?_
      refine ⟨_, rfl, S, _, rfl, .inl (sql hSS), _, rfl, a, _, rfl, .inl (sql (sm _ _ ha)), rfl, ?_⟩
      have := inv.count eM nd
      rw [List.length_map, List.length_map]
      rw [show decide (V.int ((R.length : Nat) : Int) = V.int ((M.length : Nat) : Int)) = joinedB M ties from by rw [← this]; simp]
      exact k _ sm
    obtain ⟨W', c, rfl⟩ : ∃ W' c, W = W' ++ [c] := ⟨W.dropLast, W.getLast hWe, (List.dropLast_concat_getLast hWe).symm⟩
    refine ifT (by simp) ?_
    have hcR : c ∈ R := inv.wr c (by simp)
    have hRM := inv.len
    refine ⟨fun σ' H'' => ∃ (R2 W2 : List Int) (o5 o6 o7 o8 : Option V), 2 * (M.length - R2.length) + W2.length < 2 * (M.length - R.length) + (W' ++ [c]).length ∧ σ' = [some cs, some (.ref tv), some (.ref a), some (.ref S), some (.ref Rt), o5, o6, o7, o8] ∧ H'' S = some (.lst (R2.map V.int)) ∧ H'' Rt = some (.lst (W2.map V.int)) ∧ Same H H'' ∧ Sr M ties s0 R2 W2 fun _ => False, fun σ' H'' hN => ?_, ?_⟩
    · obtain ⟨R2, W2, p5, p6, p7, p8, lt, rest⟩ := hN
      exact ⟨_, lt, R2, W2, p5, p6, p7, p8, rfl, rest⟩
    refine ⟨_, rfl, .inl ⟨rfl, _, sql hRR⟩, Rt, _, .int c, rfl, rfl, hRR, by simp, ?_⟩
    have hpop : ((W' ++ [c]).map V.int).dropLast = W'.map V.int := by simp
    rw [hpop]
    have sm1 : Same H (upd H1 Rt (.lst (W'.map V.int))) := smR _ sm
    refine ⟨_, rfl, tv, rfl, ⟨_, sqt (sm1 _ _ htv)⟩, ?_⟩
    have hxl : xs.length = ties.length := by have := hpt.length; rw [List.length_map] at this; exact this
    refine for_tup (K := K) (a := tv) (xs := xs) (fun i σ H' => ∃ (R2 W2 : List Int) (o6 o7 o8 : Option V), 2 * (M.length - R2.length) + W2.length < 2 * (M.length - R.length) + (W' ++ [c]).length ∧ σ = [some cs, some (.ref tv), some (.ref a), some (.ref S), some (.ref Rt), some (.int c), o6, o7, o8] ∧ H' S = some (.lst (R2.map V.int)) ∧ H' Rt = some (.lst (W2.map V.int)) ∧ Same H H' ∧ Sr M ties s0 R2 W2 (fun x => x = c) ∧ c ∈ R2 ∧ ∀ y ∈ M, (∃ p ∈ ties.take i, y ∈ nears p c) → y ∈ R2)
      ⟨R, W', o6, o7, o8, by rw [List.length_append]; show _ < _ + (W'.length + 1); omega, rfl, by rw [upd_ne nSR]; exact hSS, upd_same, sm1, inv.take, hcR, fun y _ hy => by obtain ⟨p, hp, _⟩ := hy; simp at hp⟩ (fun i σ H' _ h => ?_) (fun i x σ H' hx h => ?_) (fun σ H' h => ?_)
    · obtain ⟨_, _, _, _, _, _, _, _, _, smh, _⟩ := h
      exact sqt (smh _ _ htv)
    · obtain ⟨R2, W2, q6, q7, q8, lt, rfl, hS2, hW2, sm2, inv2, hc2, all2⟩ := h
      obtain ⟨b, p, hp1, rfl, hb⟩ : ∃ b p, ties[i]? = some p ∧ x = .ref b ∧ H' b = some (.tup [.int p.1, .int p.2]) := by
        obtain ⟨r, hr1, hr2⟩ := paired_at hpt hx
        rw [List.getElem?_map] at hr1
        cases e : ties[i]? with
        | none =>
          rw [e] at hr1
          cases hr1
        | some p =>
          rw [e] at hr1
          cases hr1
          obtain ⟨b, eb, hb⟩ := hr2
          exact ⟨b, p, rfl, eb, sm2 _ _ hb⟩
      have hpm : p ∈ ties := List.mem_of_getElem? hp1
      refine ⟨b, _, rfl, sqt hb, rfl, _, _, rfl, _, _, rfl, rfl, ?_⟩
      -- the list of what is near
      refine ⟨_, rfl, (show 1 ≤ sizeLine by decide), fun A1 h1 => ?_⟩
      refine ⟨_, rfl, _, rfl, rfl, .inr ⟨_, rfl, ?_⟩⟩
      have b63 : ∀ k : Bool, -(2 ^ 63) ≤ (if k = true then (1 : Int) else 0) ∧ (if k = true then (1 : Int) else 0) < 2 ^ 63 ∧ 1 * (if k = true then (1 : Int) else 0).toNat ≤ sizeLine := fun k => by cases k <;> exact ⟨by decide, by decide, by decide⟩
      generalize ek1 : decide (V.int p.1 = V.int c) = k1
      refine ⟨A1, _, _, rfl, rfl, upd_same, (b63 k1).1, (b63 k1).2.1, (b63 k1).2.2, fun A2 h2 => ?_⟩
      rw [rep_bool]
      refine ⟨_, rfl, (show 1 ≤ sizeLine by decide), fun A3 h3 => ?_⟩
      refine ⟨_, rfl, _, rfl, rfl, .inr ⟨_, rfl, ?_⟩⟩
      generalize ek2 : decide (V.int p.2 = V.int c) = k2
      refine ⟨A3, _, _, rfl, rfl, upd_same, (b63 k2).1, (b63 k2).2.1, (b63 k2).2.2, fun A4 h4 => ?_⟩
      rw [rep_bool]
      have l1 : ∀ (k : Bool) (x : V), (if k = true then [x] else []).length ≤ 1 := fun k x => by
        cases k
        · exact Nat.zero_le _
        · exact Nat.le_refl _
      refine ⟨A2, A4, _, _, rfl, rfl, upd_at h4 (upd_at h3 upd_same), upd_same, ?_, fun nl hnl => ?_⟩
      · have z1 := l1 k1 (V.int p.2)
        have z2 := l1 k2 (V.int p.1)
        rw [sizeLine_eq]
        omega
      have nSl : S ≠ nl := ne_of_none (upd_at h4 (upd_at h3 (upd_at h2 (upd_at h1 hS2)))) hnl
      have nRl : Rt ≠ nl := ne_of_none (upd_at h4 (upd_at h3 (upd_at h2 (upd_at h1 hW2)))) hnl
      have hS3 := upd_at (o := .lst ((if k1 = true then [V.int p.2] else []) ++ (if k2 = true then [V.int p.1] else []))) hnl (upd_at h4 (upd_at h3 (upd_at h2 (upd_at h1 hS2))))
      have hW3 := upd_at (o := .lst ((if k1 = true then [V.int p.2] else []) ++ (if k2 = true then [V.int p.1] else []))) hnl (upd_at h4 (upd_at h3 (upd_at h2 (upd_at h1 hW2))))
      have sm3 := smN (o := .lst ((if k1 = true then [V.int p.2] else []) ++ (if k2 = true then [V.int p.1] else []))) hnl (smN h4 (smN h3 (smN h2 (smN h1 sm2))))
      have hnl3 : upd (upd (upd (upd (upd H' A1 (.lst [V.int p.2])) A2 (.lst (if k1 = true then [V.int p.2] else []))) A3 (.lst [V.int p.1])) A4 (.lst (if k2 = true then [V.int p.1] else []))) nl (.lst ((if k1 = true then [V.int p.2] else []) ++ (if k2 = true then [V.int p.1] else []))) nl = some (.lst ((nears p c).map V.int)) := by
        rw [upd_same, ← near_bool p c, ek1, ek2]
      generalize upd (upd (upd (upd (upd H' A1 (.lst [V.int p.2])) A2 (.lst (if k1 = true then [V.int p.2] else []))) A3 (.lst [V.int p.1])) A4 (.lst (if k2 = true then [V.int p.1] else []))) nl (.lst ((if k1 = true then [V.int p.2] else []) ++ (if k2 = true then [V.int p.1] else []))) = H3 at hS3 hW3 sm3 hnl3
      refine ⟨nl, rfl, ⟨_, sql hnl3⟩, for_list (K := K) (a := nl) (xs := (nears p c).map V.int) (fun j σ H' => ∃ (R2 W2 : List Int) (o8 : Option V), 2 * (M.length - R2.length) + W2.length < 2 * (M.length - R.length) + (W' ++ [c]).length ∧ σ = [some cs, some (.ref tv), some (.ref a), some (.ref S), some (.ref Rt), some (.int c), some (.int p.1), some (.int p.2), o8] ∧ H' S = some (.lst (R2.map V.int)) ∧ H' Rt = some (.lst (W2.map V.int)) ∧ Same H H' ∧ Sr M ties s0 R2 W2 (fun x => x = c) ∧ c ∈ R2 ∧ (∀ y ∈ M, (∃ p ∈ ties.take i, y ∈ nears p c) → y ∈ R2) ∧ H' nl = some (.lst ((nears p c).map V.int)) ∧ ∀ y ∈ (nears p c).take j, y ∈ M → y ∈ R2)
        ⟨R2, W2, q8, lt, rfl, hS3, hW3, sm3, inv2, hc2, all2, hnl3, fun y hy => by simp at hy⟩ (fun j σ H' _ h => ?_) (fun j x σ H' hx h => ?_) (fun σ H' h => ?_)⟩
      · obtain ⟨_, _, _, _, _, _, _, _, _, _, _, h1, _⟩ := h
        exact sql h1
      · clear hS2 hW2 sm2 inv2 hc2 all2 lt hS3 hW3 sm3 hnl3
        obtain ⟨R2, W2, q8, lt, rfl, hS2, hW2, sm2, inv2, hc2, all2, hnl2, here⟩ := h
        obtain ⟨y, hy, rfl⟩ := at_ints hx
        have hadj : Adj ties c y := by
          rcases mem_nears.mp (List.mem_of_getElem? hy) with z | z
          · exact .inl (z ▸ hpm)
          · exact .inr (z ▸ hpm)
        have tk : (nears p c).take (j + 1) = (nears p c).take j ++ [y] := by rw [List.take_add_one, hy]; rfl
        refine ⟨_, rfl, _, rfl, .int y, M.map .int, .int y, .inr (dL (sm2 _ _ ha)), cmp_int y, canAll_ints M, _, rfl, ?_⟩
        rw [GX.any_ints]
        by_cases hyM : y ∈ M
        · refine ifT (decide_eq_true hyM) ?_
          refine ⟨_, rfl, _, rfl, .int y, R2.map .int, .int y, .inr (dL hS2), cmp_int y, canAll_ints R2, _, rfl, ?_⟩
          rw [GX.any_ints]
          by_cases hyR : y ∈ R2
          · rw [decide_eq_true hyR]
            refine ifF rfl ?_
            refine ⟨R2, W2, some (.int y), lt, rfl, hS2, hW2, sm2, inv2, hc2, all2, hnl2, fun z hz hzM => ?_⟩
            rw [tk] at hz
            rcases List.mem_append.mp hz with q | q
            · exact here z q hzM
            · rw [List.mem_singleton.mp q]; exact hyR
          · rw [decide_eq_false hyR]
            refine ifT rfl ?_
            have inv3 := inv2.find hc2 hyM hyR hadj
            have len3 := inv3.len
            rw [List.length_append] at len3
            have l3 : R2.length + 1 ≤ M.length := len3
            have lw := inv2.wl
            refine ⟨_, rfl, .inl ⟨rfl, _, sql hS2⟩, _, rfl, S, _, .int y, rfl, rfl, hS2, by rw [List.length_map, sizeLine_eq]; omega, ?_⟩
            refine ⟨_, rfl, .inl ⟨rfl, _, sql ((upd_ne nSR.symm).trans hW2)⟩, _, rfl, Rt, _, .int y, rfl, rfl, (upd_ne nSR.symm).trans hW2, by rw [List.length_map, sizeLine_eq]; omega, ?_⟩
            refine ⟨R2 ++ [y], W2 ++ [y], some (.int y), ?_, rfl, ?_, ?_, smR _ (smS _ sm2), inv3, List.mem_append_left _ hc2, fun z hz hp => List.mem_append_left _ (all2 z hz hp), ?_, fun z hz hzM => ?_⟩
            · rw [List.length_append, List.length_append]
              show 2 * (M.length - (R2.length + 1)) + (W2.length + 1) < _
              omega
            · rw [upd_ne nSR, upd_same, List.map_append]
              rfl
            · rw [upd_same, List.map_append]
              rfl
            · rw [upd_ne nRl.symm, upd_ne nSl.symm]
              exact hnl2
            · rw [tk] at hz
              rcases List.mem_append.mp hz with q | q
              · exact List.mem_append_left _ (here z q hzM)
              · exact List.mem_append_right _ q
        · refine ifF (decide_eq_false hyM) ?_
          refine ifF rfl ?_
          refine ⟨R2, W2, some (.int y), lt, rfl, hS2, hW2, sm2, inv2, hc2, all2, hnl2, fun z hz hzM => ?_⟩
          rw [tk] at hz
          rcases List.mem_append.mp hz with q | q
          · exact here z q hzM
          · rw [List.mem_singleton.mp q] at hzM
            exact absurd hzM hyM
      · clear hS2 hW2 sm2 inv2 hc2 all2 lt hS3 hW3 sm3 hnl3
        obtain ⟨R2, W2, q8, lt, rfl, hS2, hW2, sm2, inv2, hc2, all2, hnl2, here⟩ := h
        rw [List.length_map, List.take_length] at here
        refine ⟨R2, W2, _, _, q8, lt, rfl, hS2, hW2, sm2, inv2, hc2, fun y hy hp => ?_⟩
        obtain ⟨p', hp', hn⟩ := hp
        rw [List.take_add_one, hp1] at hp'
        rcases List.mem_append.mp hp' with z | z
        · exact all2 y hy ⟨p', z, hn⟩
        · obtain rfl : p' = p := by simpa using z
          exact here y hn hy
    · obtain ⟨R2, W2, q6, q7, q8, lt, rfl, hS2, hW2, sm2, inv2, hc2, all2⟩ := h
      rw [hxl, List.take_length] at all2
      refine ⟨R2, W2, _, q6, q7, q8, lt, rfl, hS2, hW2, sm2, inv2.done fun y hy ha => all2 y hy ?_⟩
      rcases ha with z | z
      · exact ⟨_, z, mem_nears.mpr (.inl rfl)⟩
      · exact ⟨_, z, mem_nears.mpr (.inr rfl)⟩
end
end G9

set_option Elab.async false
set_option linter.all false
set_option maxRecDepth 100000
set_option maxHeartbeats 4000000
/-! fits -/
namespace G9
open PySem PySem.Spec PyProof.Rows L2 GX
def markedOf (cs vals vs : List Int) : List Int := ((cs.zip vals).filter fun p => decide (p.2 ∈ vs)).map (·.1)
noncomputable def fitsB : Rul → List Int → Bool
  | .table _ rows, vals => decide (vals ∈ rows)
  | .unlike _, vals => decide vals.Nodup
  | .sum _ lo hi, vals => decide (lo ≤ vals.sum) && decide (vals.sum ≤ hi)
  | .count _ vs lo hi, vals => decide (lo ≤ ((vals.filter fun v => decide (v ∈ vs)).length : Int)) && decide (((vals.filter fun v => decide (v ∈ vs)).length : Int) ≤ hi)
  | .below _ _, vals => decide (vals.getD 0 0 < vals.getD 1 0)
  | .runs _ ls, vals => decide (runsOf vals = ls)
  | .joined cs ties vs, vals => joinedB (markedOf cs vals vs) ties
/-- what is asked of a rule's size -/
def Small (r : Rul) : Prop := (Rul.cells r).Nodup ∧ (Rul.cells r).length ≤ 100 ∧ match r with
  | .joined _ ties _ => ties.length ≤ 100
  | _ => True
theorem marked_len (cs vals vs : List Int) : (markedOf cs vals vs).length ≤ cs.length := by
  unfold markedOf
  rw [List.length_map]
  refine Nat.le_trans (List.length_filter_le _ _) ?_
  rw [List.length_zip]
  exact Nat.min_le_left _ _
theorem marked_nd {cs vals vs : List Int} (h : cs.Nodup) : (markedOf cs vals vs).Nodup := by
  have e : (markedOf cs vals vs).Sublist cs := by
    unfold markedOf
    refine ((List.filter_sublist).map _).trans ?_
    clear h
    induction cs generalizing vals with
    | nil => simp
    | cons a cs ih =>
      cases vals with
      | nil => simp
      | cons v vals =>
        rw [List.zip_cons_cons, List.map_cons]
        exact (ih (vals := vals)).cons₂ a
  exact e.nodup h
def spFits : Sp := fun vs H Q _ => ∃ v r u vals, vs = [v, u] ∧ RuH H v r ∧ IH H u vals ∧ vals.length = (Rul.cells r).length ∧ Small r ∧ ∀ H', Same H H' → Q (.bl (fitsB r vals)) H'
theorem zip_get {cs vals : List Int} {i : Nat} {a b : Int} (h1 : cs[i]? = some a) (h2 : vals[i]? = some b) : (cs.zip vals)[i]? = some (a, b) := by
  rw [List.getElem?_zip_eq_some]
  exact ⟨h1, h2⟩
section
variable {P : Program} {w : World} {K : PySem.W.Frag} {mg : Str → Option Value} {base : Heap} {f f1 f2 : Addr} {fd fd1 fd2 : FuncData}
theorem ok_fits (B : Bl mg) (D : Df K mg "fits" sFits ["rule", "values"] f fd) (D1 : Df K mg "stretches" sStretch ["values"] f1 fd1) (G1 : FnOk P w K mg base CX0 1 f1 fd1 ["values"] spStretch)
    (D2 : Df K mg "joined_to_first" sAreJoined ["marked", "ties"] f2 fd2) (G2 : FnOk P w K mg base CX0 3 f2 fd2 ["marked", "ties"] spJoined) : FnOk P w K mg base CX0 5 f fd ["rule", "values"] spFits := by
  refine D.F.ok scFits (fun vs H Q E h => ?_) (fun cdv A outer s H vs Q E hr h => ?_)
  · obtain ⟨v, r, u, vals, rfl, _⟩ := h
    rfl
  · obtain ⟨v, r, u, vals, rfl, hru, hu0, hl, sm, k⟩ := h
    have hu := hr.units
    refine ⟨_, pss_cons (ps_set (i := 2) scFits.nd rfl (.inl rfl) (pe_ix ix_tup (pv 0) pe_int (fun _ _ => rfl)))
      (pss_cons (ps_if (pt_cmpR op_eq (pv 2) pe_str (nomark _)) (pss_one (ps_ret (pe_cmpR (inDD K hu) (pv 1) (pe_ix ix_tup (pv 0) pe_int (fun _ _ => rfl)) (by rfl)))) pss_nil)
      (pss_cons (ps_if (pt_cmpR op_eq (pv 2) pe_str (nomark _)) (pss_one (ps_ret (pe_cmpR op_eq (pe_lenSetT (by rfl) B.len (by rfl) B.sset (pv 1)) (pe_callB call_len_seq (by rfl) B.len PySem.boot_len (pa_cons (pv 1) pa_nil)) (nomark _)))) pss_nil)
      (pss_cons (ps_if (pt_cmpR op_eq (pv 2) pe_str (nomark _)) (pss_one (ps_ret (pe_chain op_le op_le (pe_ix ix_tup (pv 0) pe_int (fun _ _ => rfl)) (pe_callB (cr_sumT rfl) (by rfl) B.sum PyProof.Rows.boot_sum (pa_cons (pv 1) pa_nil)) (pe_ix ix_tup (pv 0) pe_int (fun _ _ => rfl))))) pss_nil)
      (pss_cons (ps_if (pt_cmpR op_eq (pv 2) pe_str (nomark _)) (pss_one (ps_ret (pe_chain op_le op_le (pe_ix ix_tup (pv 0) pe_int (fun _ _ => rfl)) (pe_callB call_len_seq (by rfl) B.len PySem.boot_len (pa_cons
            (pe_lc (own := [("value", 4)]) rfl scFits.nd (pi_tup (pv 1)) (blkOk_by (N := ["rule", "values", "word", "marked", "value", "cell"]) (sc := defScope sFits) (by decide +kernel)) (fun _ _ _ _ _ => pg_name (i := 4) scFits.nd rfl (.inl rfl))
              (fun _ _ _ _ _ => pts_one (pt_cmpR (inDD K hu) (pv 4) (pe_ix (ixT K) (pv 0) pe_int (fun _ _ => rfl)) (by rfl))) (fun _ _ _ _ _ => pv 4)) pa_nil)) (pe_ix ix_tup (pv 0) pe_int (fun _ _ => rfl))))) pss_nil)
      (pss_cons (ps_if (pt_cmpR op_eq (pv 2) pe_str (nomark _)) (pss_one (ps_ret (pe_cmpR op_lt (pe_ix ix_tup (pv 1) pe_int (fun _ _ => rfl)) (pe_ix ix_tup (pv 1) pe_int (fun _ _ => rfl)) (nomark _)))) pss_nil)
      (pss_cons (ps_if (pt_cmpR op_eq (pv 2) pe_str (nomark _)) (pss_one (ps_ret (pe_cmpR (eqDD K hu) (pe_call G1 (hr.mono (by decide)) (by rfl) D1.g D1.F.kp D1.b .nil pass0 (pa_cons (pv 1) pa_nil)) (pe_ix ix_tup (pv 0) pe_int (fun _ _ => rfl)) (nomark _)))) pss_nil)
      (pss_cons (ps_setLc (i := 3) (own := [("cell", 5), ("value", 4)]) rfl scFits.nd rfl rfl (sw_true rfl rfl rfl (by decide +kernel)) (RZ.pi_zipA (by rfl) B.zip (pa_cons (pe_ix ix_tup (pv 0) pe_int (fun _ _ => rfl)) (pa_cons (pv 1) pa_nil))) (blkOk_by (N := ["rule", "values", "word", "marked", "value", "cell"]) (sc := defScope sFits) (by decide +kernel))
              (fun _ _ _ _ _ => pg_tupK K (n := 2) rfl (pgs_cons (pg_name (i := 5) scFits.nd rfl (.inl rfl)) (pgs_cons (pg_name (i := 4) scFits.nd rfl (.inl rfl)) pgs_nil)))
              (fun _ _ _ _ _ => pts_one (pt_cmpR (inDD K hu) (pv 4) (pe_ix (ixT K) (pv 0) pe_int (fun _ _ => rfl)) (by rfl))) (fun _ _ _ _ _ => pv 5))
      (pss_one (ps_ret (pe_cmpR op_eq (pe_callB call_len_seq (by rfl) B.len PySem.boot_len (pa_cons (pe_call G2 (hr.mono (by decide)) (by rfl) D2.g D2.F.kp D2.b .nil pass0 (pa_cons (pv 3) (pa_cons (pe_ix ix_tup (pv 0) pe_int (fun _ _ => rfl)) pa_nil))) pa_nil)) (pe_callB call_len_seq (by rfl) B.len PySem.boot_len (pa_cons (pv 3) pa_nil)) (nomark _))))))))))), ?_⟩
    obtain ⟨u0, rfl, hub⟩ := hu0
    obtain ⟨nd, l100, more⟩ := sm
    have hvals : SqT K H u0 (vals.map V.int) := sqt hub
    cases r with
    | table cs rows =>
      obtain ⟨a, x, y, rfl, q, i, j⟩ := hru
      refine ⟨_, rfl, a, _, 0, _, rfl, rfl, sqt q, rfl, _, rfl, rfl, _, rfl, ifT (by decide +kernel) ?_⟩
      refine ⟨_, rfl, _, rfl, a, _, 2, _, rfl, rfl, sqt q, rfl, dI vals, rows.map dI, IH.dp ⟨u0, rfl, hub⟩, .inl j.dp, cmp_dI vals, canAll_rows rows, ?_⟩
      rw [GX.any_rows]
      exact k H (same_refl H)
    | unlike cs =>
      obtain ⟨a, x, rfl, q, i⟩ := hru
      refine ⟨_, rfl, a, _, 0, _, rfl, rfl, sqt q, rfl, _, rfl, rfl, _, rfl, ifF (by decide +kernel) ?_⟩
      refine ⟨_, rfl, rfl, _, rfl, ifT (by decide +kernel) ?_⟩
      refine ⟨_, rfl, u0, vals, rfl, hvals, by rw [hl]; show cs.length ≤ 4000; have : cs.length ≤ 100 := l100; omega, _, rfl, u0, _, rfl, .inr hvals, rfl, ?_⟩
      have e : decide (V.int ((distinct vals : Nat) : Int) = V.int ((vals.map V.int).length : Int)) = fitsB (.unlike cs) vals := by
        rw [List.length_map]
        simp only [fitsB]
        by_cases n : vals.Nodup
        · rw [decide_eq_true n]
          refine decide_eq_true ?_
          unfold distinct
          rw [unlikes_of_nodup n]
        · rw [decide_eq_false n]
          refine decide_eq_false fun z => n (nodup_of_unlikes ?_)
          have z := V.int.inj z
          unfold distinct at z
          omega
      rw [e]
      exact k H (same_refl H)
    | sum cs lo hi =>
      obtain ⟨a, x, rfl, q, i⟩ := hru
      refine ⟨_, rfl, a, _, 0, _, rfl, rfl, sqt q, rfl, _, rfl, rfl, _, rfl, ifF (by decide +kernel) ?_⟩
      refine ⟨_, rfl, rfl, _, rfl, ifF (by decide +kernel) ?_⟩
      refine ⟨_, rfl, rfl, _, rfl, ifT (by decide +kernel) ?_⟩
      refine ⟨_, rfl, a, _, 2, _, rfl, rfl, sqt q, rfl, _, rfl, u0, vals, rfl, hvals, _, _, rfl, rfl, _, rfl, ?_⟩
      by_cases h1 : lo ≤ vals.sum
      · refine ifT (decide_eq_true h1) ?_
        refine ⟨_, rfl, a, _, 3, _, rfl, rfl, sqt q, rfl, _, _, rfl, rfl, ?_⟩
        have e : decide (vals.sum ≤ hi) = fitsB (.sum cs lo hi) vals := by simp only [fitsB]; rw [decide_eq_true h1, Bool.true_and]
        have z := k H (same_refl H)
        rw [← e] at z
        exact z
      · refine ifF (decide_eq_false h1) ?_
        have e : false = fitsB (.sum cs lo hi) vals := by simp only [fitsB]; rw [decide_eq_false h1, Bool.false_and]
        rw [e]
        exact k H (same_refl H)
    | count cs vs lo hi =>
      obtain ⟨a, x, y, rfl, q, i, j⟩ := hru
      refine ⟨_, rfl, a, _, 0, _, rfl, rfl, sqt q, rfl, _, rfl, rfl, _, rfl, ifF (by decide +kernel) ?_⟩
      refine ⟨_, rfl, rfl, _, rfl, ifF (by decide +kernel) ?_⟩
      refine ⟨_, rfl, rfl, _, rfl, ifF (by decide +kernel) ?_⟩
      refine ⟨_, rfl, rfl, _, rfl, ifT (by decide +kernel) ?_⟩
      obtain ⟨yb, rfl, hy⟩ := j
      refine ⟨_, rfl, a, _, 3, _, rfl, rfl, sqt q, rfl, _, rfl, u0, rfl, ⟨_, hvals⟩, fun L hL => ?_⟩
      refine lc_it (walk_tup (xs := vals.map V.int)) (fun i H' => H' = upd H L (.lst (((vals.take i).filter fun v => decide (v ∈ vs)).map V.int))) rfl (fun i H' _ h => ?_) (fun i x H' H'' hi h y => ?_) (fun H' h => ?_)
      · subst h
        exact sqt (upd_at hL hub)
      · obtain ⟨rfl, hx⟩ := y
        obtain ⟨c, hc, rfl⟩ := at_ints hx
        subst h
        refine ⟨rfl, _, rfl, _, rfl, a, _, 2, _, rfl, rfl, sqt (upd_at hL q), rfl, .int c, vs.map .int, .int c, .inl (IH.dp ⟨yb, rfl, upd_at hL hy⟩), cmp_int c, canAll_ints vs, _, rfl, ?_⟩
        rw [GX.any_ints]
        by_cases e : c ∈ vs
        · refine ifT (decide_eq_true e) ⟨_, rfl, _, upd_same, ?_, ?_⟩
          · have z : ((vals.take i).filter fun v => decide (v ∈ vs)).length ≤ (vals.take i).length := List.length_filter_le _ _
            rw [List.length_take] at z
            rw [List.length_map, sizeLine_eq]
            have : cs.length ≤ 100 := l100
            have : vals.length = cs.length := hl
            omega
          · rw [upd_upd, List.take_add_one, hc]
            simp [e]
        · refine ifF (decide_eq_false e) ?_
          rw [List.take_add_one, hc]
          simp [e]
      · rw [List.length_map, List.take_length] at h
        subst h
        have sL : Same H (upd H L (.lst ((vals.filter fun v => decide (v ∈ vs)).map V.int))) := same_new hL
        refine ⟨L, _, rfl, .inl (sql upd_same), _, _, rfl, rfl, _, rfl, ?_⟩
        rw [List.length_map]
        by_cases h1 : lo ≤ ((vals.filter fun v => decide (v ∈ vs)).length : Int)
        · refine ifT (decide_eq_true h1) ?_
          refine ⟨_, rfl, a, _, 4, _, rfl, rfl, sqt (upd_at hL q), rfl, _, _, rfl, rfl, ?_⟩
          have e : decide (((vals.filter fun v => decide (v ∈ vs)).length : Int) ≤ hi) = fitsB (.count cs vs lo hi) vals := by simp only [fitsB]; rw [decide_eq_true h1, Bool.true_and]
          have z := k _ sL
          rw [← e] at z
          exact z
        · refine ifF (decide_eq_false h1) ?_
          have e : false = fitsB (.count cs vs lo hi) vals := by simp only [fitsB]; rw [decide_eq_false h1, Bool.false_and]
          rw [e]
          exact k _ sL
    | below p1 p2 =>
      obtain ⟨a, rfl, q⟩ := hru
      refine ⟨_, rfl, a, _, 0, _, rfl, rfl, sqt q, rfl, _, rfl, rfl, _, rfl, ifF (by decide +kernel) ?_⟩
      refine ⟨_, rfl, rfl, _, rfl, ifF (by decide +kernel) ?_⟩
      refine ⟨_, rfl, rfl, _, rfl, ifF (by decide +kernel) ?_⟩
      refine ⟨_, rfl, rfl, _, rfl, ifF (by decide +kernel) ?_⟩
      refine ⟨_, rfl, rfl, _, rfl, ifT (by decide +kernel) ?_⟩
      obtain ⟨n1, n2, rfl⟩ : ∃ n1 n2, vals = [n1, n2] := by
        match vals, hl with
        | [n1, n2], _ => exact ⟨n1, n2, rfl⟩
      refine ⟨_, rfl, u0, _, 0, _, rfl, rfl, hvals, rfl, _, rfl, u0, _, 1, _, rfl, rfl, hvals, rfl, _, _, rfl, rfl, ?_⟩
      exact k H (same_refl H)
    | runs cs ls =>
      obtain ⟨a, x, y, rfl, q, i, j⟩ := hru
      refine ⟨_, rfl, a, _, 0, _, rfl, rfl, sqt q, rfl, _, rfl, rfl, _, rfl, ifF (by decide +kernel) ?_⟩
      refine ⟨_, rfl, rfl, _, rfl, ifF (by decide +kernel) ?_⟩
      refine ⟨_, rfl, rfl, _, rfl, ifF (by decide +kernel) ?_⟩
      refine ⟨_, rfl, rfl, _, rfl, ifF (by decide +kernel) ?_⟩
      refine ⟨_, rfl, rfl, _, rfl, ifF (by decide +kernel) ?_⟩
      refine ⟨_, rfl, rfl, _, rfl, ifT (by decide +kernel) ?_⟩
      refine ⟨_, rfl, .ref u0, vals, rfl, ⟨u0, rfl, hub⟩, by rw [hl]; show cs.length ≤ 1000; have : cs.length ≤ 100 := l100; omega, fun w1 H1 s1 i1 => ?_⟩
      refine ⟨_, rfl, a, _, 2, _, rfl, rfl, sqt (s1 _ _ q), rfl, dI _, dI _, i1.dp, (j.kt (kt_same s1)).dp, cmp_dI _, cmp_dI _, ?_⟩
      rw [eqv_dI]
      exact k H1 s1
    | joined cs ties vs =>
      obtain ⟨a, x, y, z, rfl, q, i, j, l⟩ := hru
      refine ⟨_, rfl, a, _, 0, _, rfl, rfl, sqt q, rfl, _, rfl, rfl, _, rfl, ifF (by decide +kernel) ?_⟩
      refine ⟨_, rfl, rfl, _, rfl, ifF (by decide +kernel) ?_⟩
      refine ⟨_, rfl, rfl, _, rfl, ifF (by decide +kernel) ?_⟩
      refine ⟨_, rfl, rfl, _, rfl, ifF (by decide +kernel) ?_⟩
      refine ⟨_, rfl, rfl, _, rfl, ifF (by decide +kernel) ?_⟩
      refine ⟨_, rfl, rfl, _, rfl, ifF (by decide +kernel) ?_⟩
      obtain ⟨xa, rfl, hx0⟩ := i
      obtain ⟨za, rfl, hz⟩ := l
      have hcl : vals.length = cs.length := hl
      have c100 : cs.length ≤ 100 := l100
      refine ⟨_, rfl, a, _, 1, _, rfl, rfl, sqt q, rfl, _, rfl, xa, u0, _, _, rfl, .inr ⟨sqt hx0, hvals, fun L hL => ?_⟩⟩
      refine lc_it (walk_zipT (xs := cs.map V.int) (ys := vals.map V.int) (n := cs.length) (by simp [hcl])) (fun i H' => H' L = some (.lst ((((cs.zip vals).take i).filter fun p => decide (p.2 ∈ vs)).map fun p => V.int p.1)) ∧ Same H H') ⟨by rw [upd_same]; rfl, same_new hL⟩ (fun i H' _ h => ?_) (fun i x H' H'' hi h y => ?_) (fun H' h => ?_)
      · exact ⟨sqt (h.2 _ _ hx0), sqt (h.2 _ _ hub)⟩
      · obtain ⟨T, e1, e2, rfl, hT, rfl, h1, h2⟩ := y
        obtain ⟨hLh, sm1⟩ := h
        obtain ⟨c, hc, rfl⟩ := at_ints h1
        obtain ⟨v1, hv, rfl⟩ := at_ints h2
        refine ⟨T, _, rfl, sqt upd_same, rfl, _, _, rfl, _, _, rfl, rfl, rfl, _, rfl, _, rfl, a, _, 3, _, rfl, rfl, sqt (upd_at hT (sm1 _ _ q)), rfl, .int v1, vs.map .int, .int v1, .inl (IH.dp ⟨za, rfl, upd_at hT (sm1 _ _ hz)⟩), cmp_int v1, canAll_ints vs, _, rfl, ?_⟩
        rw [GX.any_ints]
        have tk : (cs.zip vals).take (i + 1) = (cs.zip vals).take i ++ [(c, v1)] := by rw [List.take_add_one, zip_get hc hv]; rfl
        by_cases e : v1 ∈ vs
        · refine ifT (decide_eq_true e) ⟨_, rfl, _, upd_at hT hLh, ?_, ?_, fun b o eb => ?_⟩
          · have z : (((cs.zip vals).take i).filter fun p => decide (p.2 ∈ vs)).length ≤ ((cs.zip vals).take i).length := List.length_filter_le _ _
            rw [List.length_take] at z
            rw [List.length_map, sizeLine_eq]
            omega
          · rw [upd_same, tk]
            simp [e]
          · rw [upd_ne (fun q => by rw [q, hL] at eb; cases eb)]
            exact upd_at hT (sm1 b o eb)
        · refine ifF (decide_eq_false e) ⟨?_, fun b o eb => upd_at hT (sm1 b o eb)⟩
          rw [tk, upd_at hT hLh]
          simp [e]
      · obtain ⟨hLh, sm1⟩ := h
        rw [List.take_of_length_le (by rw [List.length_zip]; omega)] at hLh
        have hm : IL H' (.ref L) (markedOf cs vals vs) := ⟨L, rfl, by rw [hLh]; unfold markedOf; rw [List.map_map]; rfl⟩
        have hm2 : ∀ L' : Addr, L' = L → H' L' = some (.lst ((markedOf cs vals vs).map V.int)) := fun L' e => by
          subst e
          obtain ⟨a1, e1, e2⟩ := hm
          cases e1
          exact e2
        have ml := marked_len cs vals vs
        have tl : ties.length ≤ 100 := more
        refine ⟨_, rfl, _, rfl, a, _, 2, _, rfl, rfl, sqt (sm1 _ _ q), rfl, .ref L, markedOf cs vals vs, y, ties, rfl, hm, j.kt (kt_same sm1), marked_nd nd, by omega, by omega, fun l2 R H2 s2 e2 hl2 => ?_⟩
        refine ⟨l2, _, rfl, .inl (sql hl2), _, rfl, L, _, rfl, .inl (sql (s2 _ _ (hm2 L rfl))), rfl, ?_⟩
        rw [List.length_map, List.length_map, show decide (V.int ((R.length : Nat) : Int) = V.int (((markedOf cs vals vs).length : Nat) : Int)) = fitsB (.joined cs ties vs) vals from (show _ = joinedB (markedOf cs vals vs) ties from by rw [← e2]; simp only [V.int.injEq]; exact decide_eq_decide.mpr Int.ofNat_inj)]
        exact k H2 (Same.tr sm1 s2)
end
end G9

set_option Elab.async false
set_option linter.all false
set_option maxRecDepth 100000
set_option maxHeartbeats 4000000
/-! the law's own fits -/
namespace G9
open PySem PySem.Spec PyProof.Rows L2 GX
def spLFits : Sp := fun vs H Q _ => ∃ v r u vals, vs = [v, u] ∧ RuH H v r ∧ IL H u vals ∧ vals.length = (Rul.cells r).length ∧ Small r ∧ ∀ H', Same H H' → Q (.bl (fitsB r vals)) H'
theorem all_one (vals : List Int) : ((vals.map fun v => decide (V.int ((vals.count v : Nat) : Int) = V.int 1)).all id) = decide vals.Nodup := by
  by_cases n : vals.Nodup
  · rw [decide_eq_true n, List.all_eq_true]
    intro b hb
    obtain ⟨v, hv, rfl⟩ := List.mem_map.mp hb
    have h1 := List.nodup_iff_count.mp n v
    have h2 := List.count_pos_iff.mpr hv
    exact decide_eq_true (congrArg V.int (by omega))
  · rw [decide_eq_false n, List.all_eq_false]
    by_cases z : ∀ v ∈ vals, vals.count v = 1
    · refine absurd (List.nodup_iff_count.mpr fun v => ?_) n
      by_cases hv : v ∈ vals
      · exact Nat.le_of_eq (z v hv)
      · rw [List.count_eq_zero_of_not_mem hv]
        exact Nat.zero_le _
    · obtain ⟨v, hz⟩ := Classical.not_forall.mp z
      obtain ⟨hv, hz⟩ := Classical.not_imp.mp hz
      refine ⟨_, List.mem_map.mpr ⟨v, hv, rfl⟩, ?_⟩
      rw [id, decide_eq_false fun q => hz (by have := V.int.inj q; omega)]
      exact Bool.false_ne_true
section
variable {P : Program} {w : World} {K : PySem.W.Frag} {mg : Str → Option Value} {base : Heap} {f f1 f2 : Addr} {fd fd1 fd2 : FuncData}
theorem ok_lfits (B : Bl mg) (D : Df K mg "_law_fits" sLFits ["_law_rule", "_law_values"] f fd) (D1 : Df K mg "_law_runs" sRuns ["_law_values"] f1 fd1) (G1 : FnOk P w K mg base CX0 1 f1 fd1 ["_law_values"] spRuns)
    (D2 : Df K mg "_law_is_joined" sLJoined ["_law_cells", "_law_ties", "_law_marked"] f2 fd2) (G2 : FnOk P w K mg base CX0 1 f2 fd2 ["_law_cells", "_law_ties", "_law_marked"] spLJoined) : FnOk P w K mg base CX0 3 f fd ["_law_rule", "_law_values"] spLFits := by
  refine D.F.ok scLFits (fun vs H Q E h => ?_) (fun cdv A outer s H vs Q E hr h => ?_)
  · obtain ⟨v, r, u, vals, rfl, _⟩ := h
    rfl
  · obtain ⟨v, r, u, vals, rfl, hru, hu0, hl, sm, k⟩ := h
    have hu := hr.units
    refine ⟨_, pss_cons (ps_if (pt_cmpR op_eq (pe_ix ix_tup (pv 0) pe_int (fun _ _ => rfl)) pe_str (nomark _)) (pss_one (ps_ret (pe_cmpR (inDD K hu) (pe_callTy call_tuple_of (by rfl) B.tuple PyProof.Rows.boot_tuple (pa_cons (pv 1) pa_nil)) (pe_ix ix_tup (pv 0) pe_int (fun _ _ => rfl)) (by rfl)))) pss_nil)
      (pss_cons (ps_if (pt_cmpR op_eq (pe_ix ix_tup (pv 0) pe_int (fun _ _ => rfl)) pe_str (nomark _)) (pss_one (ps_ret (pe_callB (cr_all rfl) (by rfl) B.all PyProof.Rows.boot_all (pa_cons
            (pe_lc (own := [("_law_value", 3)]) rfl scLFits.nd (pi_list (pv 1)) (blkOk_by (N := ["_law_rule", "_law_values", "_law_marked", "_law_value", "_law_cell"]) (sc := defScope sLFits) (by decide +kernel)) (fun _ _ _ _ _ => pg_name (i := 3) scLFits.nd rfl (.inl rfl)) (fun _ _ _ _ _ => pts_nil)
              (fun _ _ _ _ _ => pe_cmpR op_eq (show PE _ _ (tBM K "list" (rCntI K) _ _) from pe_bm PySem.F.plainAttrs_list PySem.F.slot_list_count PySem.F.type_list_count (lcountK K) (pe_callTy (listK K) (by rfl) B.list PyProof.Rows.boot_list (pa_cons (pv 1) pa_nil)) (pa_cons (pv 3) pa_nil)) pe_int (nomark _))) pa_nil)))) pss_nil)
      (pss_cons (ps_if (pt_cmpR op_eq (pe_ix ix_tup (pv 0) pe_int (fun _ _ => rfl)) pe_str (nomark _)) (pss_one (ps_ret (pe_chain op_le op_le (pe_ix ix_tup (pv 0) pe_int (fun _ _ => rfl)) (pe_callB (cr_sum rfl) (by rfl) B.sum PyProof.Rows.boot_sum (pa_cons (pv 1) pa_nil)) (pe_ix ix_tup (pv 0) pe_int (fun _ _ => rfl))))) pss_nil)
      (pss_cons (ps_if (pt_cmpR op_eq (pe_ix ix_tup (pv 0) pe_int (fun _ _ => rfl)) pe_str (nomark _)) (pss_one (ps_ret (pe_chain op_le op_le (pe_ix ix_tup (pv 0) pe_int (fun _ _ => rfl)) (pe_callB call_len_seq (by rfl) B.len PySem.boot_len (pa_cons
            (pe_lc (own := [("_law_value", 3)]) rfl scLFits.nd (pi_list (pv 1)) (blkOk_by (N := ["_law_rule", "_law_values", "_law_marked", "_law_value", "_law_cell"]) (sc := defScope sLFits) (by decide +kernel)) (fun _ _ _ _ _ => pg_name (i := 3) scLFits.nd rfl (.inl rfl))
              (fun _ _ _ _ _ => pts_one (pt_cmpR (inDD K hu) (pv 3) (pe_ix (ixT K) (pv 0) pe_int (fun _ _ => rfl)) (by rfl))) (fun _ _ _ _ _ => pv 3)) pa_nil)) (pe_ix ix_tup (pv 0) pe_int (fun _ _ => rfl))))) pss_nil)
      (pss_cons (ps_if (pt_cmpR op_eq (pe_ix ix_tup (pv 0) pe_int (fun _ _ => rfl)) pe_str (nomark _)) (pss_one (ps_ret (pe_cmpR op_lt (pe_ix ix_list (pv 1) pe_int (fun _ _ => rfl)) (pe_ix ix_list (pv 1) pe_int (fun _ _ => rfl)) (nomark _)))) pss_nil)
      (pss_cons (ps_if (pt_cmpR op_eq (pe_ix ix_tup (pv 0) pe_int (fun _ _ => rfl)) pe_str (nomark _)) (pss_one (ps_ret (pe_cmpR (eqDD K hu) (pe_call G1 (hr.mono (by decide)) (by rfl) D1.g D1.F.kp D1.b .nil pass0 (pa_cons (pv 1) pa_nil)) (pe_ix ix_tup (pv 0) pe_int (fun _ _ => rfl)) (nomark _)))) pss_nil)
      (pss_cons (ps_setLc (i := 2) (own := [("_law_cell", 4), ("_law_value", 3)]) rfl scLFits.nd rfl rfl (sw_true rfl rfl rfl (by decide +kernel)) (pi_zipM (by rfl) B.zip (pa_cons (pe_ix ix_tup (pv 0) pe_int (fun _ _ => rfl)) (pa_cons (pv 1) pa_nil))) (blkOk_by (N := ["_law_rule", "_law_values", "_law_marked", "_law_value", "_law_cell"]) (sc := defScope sLFits) (by decide +kernel))
              (fun _ _ _ _ _ => pg_tupK K (n := 2) rfl (pgs_cons (pg_name (i := 4) scLFits.nd rfl (.inl rfl)) (pgs_cons (pg_name (i := 3) scLFits.nd rfl (.inl rfl)) pgs_nil)))
              (fun _ _ _ _ _ => pts_one (pt_cmpR (inDD K hu) (pv 3) (pe_ix (ixT K) (pv 0) pe_int (fun _ _ => rfl)) (by rfl))) (fun _ _ _ _ _ => pv 4))
      (pss_one (ps_ret (pe_call G2 (hr.mono (by decide)) (by rfl) D2.g D2.F.kp D2.b .nil pass0 (pa_cons (pe_ix ix_tup (pv 0) pe_int (fun _ _ => rfl)) (pa_cons (pe_ix ix_tup (pv 0) pe_int (fun _ _ => rfl)) (pa_cons (pv 2) pa_nil)))))))))))), ?_⟩
    obtain ⟨u0, rfl, hub⟩ := hu0
    obtain ⟨nd, l100, more⟩ := sm
    have hvals : SqL K H u0 (vals.map V.int) := sql hub
    cases r with
    | table cs rows =>
      obtain ⟨a, x, y, rfl, q, i, j⟩ := hru
      refine ⟨_, rfl, a, _, 0, _, rfl, rfl, sqt q, rfl, rfl, _, rfl, ifT (by decide +kernel) ?_⟩
      refine ⟨_, rfl, u0, _, rfl, .inl ⟨hvals, fun T hT => ?_⟩⟩
      refine ⟨_, rfl, a, _, 2, _, rfl, rfl, sqt (upd_at hT q), rfl, dI vals, rows.map dI, IH.dp ⟨T, rfl, upd_same⟩, .inl (j.kt (kt_same (same_new hT))).dp, cmp_dI vals, canAll_rows rows, ?_⟩
      rw [GX.any_rows]
      exact k _ (same_new hT)
    | unlike cs =>
      obtain ⟨a, x, rfl, q, i⟩ := hru
      refine ⟨_, rfl, a, _, 0, _, rfl, rfl, sqt q, rfl, rfl, _, rfl, ifF (by decide +kernel) ?_⟩
      refine ⟨_, rfl, a, _, 0, _, rfl, rfl, sqt q, rfl, rfl, _, rfl, ifT (by decide +kernel) ?_⟩
      refine ⟨_, rfl, u0, rfl, ⟨_, hvals⟩, fun L hL => ?_⟩
      refine lc_it (walk_list (xs := vals.map V.int)) (fun i H' => H' L = some (.lst (((vals.take i).map fun v => decide (V.int ((vals.count v : Nat) : Int) = V.int 1)).map V.bl)) ∧ Same H H') ⟨upd_same, same_new hL⟩ (fun i H' _ h => ?_) (fun i x H' H'' hi h y => ?_) (fun H' h => ?_)
      · exact sql (h.2 _ _ hub)
      · obtain ⟨rfl, hx⟩ := y
        obtain ⟨hLh, sm1⟩ := h
        obtain ⟨c, hc, rfl⟩ := at_ints hx
        refine ⟨rfl, _, rfl, u0, _, rfl, .inl (sql (sm1 _ _ hub)), fun M hM => ?_⟩
        refine ⟨.inl ⟨rfl, _, sql upd_same⟩, _, rfl, M, vals, c, rfl, rfl, sql upd_same, rfl, _, upd_at hM hLh, ?_, ?_, fun b o eb => ?_⟩
        · rw [List.length_map, List.length_map, List.length_take, sizeLine_eq]
          have c1 : cs.length ≤ 100 := l100
          have c2 : vals.length = cs.length := hl
          omega
        · rw [upd_same, List.take_add_one, hc]
          simp
        · rw [upd_ne (fun q => by rw [q, hL] at eb; cases eb)]
          exact upd_at hM (sm1 b o eb)
      · obtain ⟨hLh, sm1⟩ := h
        rw [List.length_map, List.take_length] at hLh
        refine ⟨L, _, rfl, sql hLh, ?_⟩
        rw [all_one]
        exact k H' sm1
    | sum cs lo hi =>
      obtain ⟨a, x, rfl, q, i⟩ := hru
      refine ⟨_, rfl, a, _, 0, _, rfl, rfl, sqt q, rfl, rfl, _, rfl, ifF (by decide +kernel) ?_⟩
      refine ⟨_, rfl, a, _, 0, _, rfl, rfl, sqt q, rfl, rfl, _, rfl, ifF (by decide +kernel) ?_⟩
      refine ⟨_, rfl, a, _, 0, _, rfl, rfl, sqt q, rfl, rfl, _, rfl, ifT (by decide +kernel) ?_⟩
      refine ⟨_, rfl, a, _, 2, _, rfl, rfl, sqt q, rfl, _, rfl, u0, vals, rfl, hvals, _, _, rfl, rfl, _, rfl, ?_⟩
      by_cases h1 : lo ≤ vals.sum
      · refine ifT (decide_eq_true h1) ?_
        refine ⟨_, rfl, a, _, 3, _, rfl, rfl, sqt q, rfl, _, _, rfl, rfl, ?_⟩
        have e : decide (vals.sum ≤ hi) = fitsB (.sum cs lo hi) vals := by simp only [fitsB]; rw [decide_eq_true h1, Bool.true_and]
        have z := k H (same_refl H)
        rw [← e] at z
        exact z
      · refine ifF (decide_eq_false h1) ?_
        have e : false = fitsB (.sum cs lo hi) vals := by simp only [fitsB]; rw [decide_eq_false h1, Bool.false_and]
        rw [e]
        exact k H (same_refl H)
    | count cs vs lo hi =>
      obtain ⟨a, x, y, rfl, q, i, j⟩ := hru
      refine ⟨_, rfl, a, _, 0, _, rfl, rfl, sqt q, rfl, rfl, _, rfl, ifF (by decide +kernel) ?_⟩
      refine ⟨_, rfl, a, _, 0, _, rfl, rfl, sqt q, rfl, rfl, _, rfl, ifF (by decide +kernel) ?_⟩
      refine ⟨_, rfl, a, _, 0, _, rfl, rfl, sqt q, rfl, rfl, _, rfl, ifF (by decide +kernel) ?_⟩
      refine ⟨_, rfl, a, _, 0, _, rfl, rfl, sqt q, rfl, rfl, _, rfl, ifT (by decide +kernel) ?_⟩
      obtain ⟨yb, rfl, hy⟩ := j
      refine ⟨_, rfl, a, _, 3, _, rfl, rfl, sqt q, rfl, _, rfl, u0, rfl, ⟨_, hvals⟩, fun L hL => ?_⟩
      refine lc_it (walk_list (xs := vals.map V.int)) (fun i H' => H' = upd H L (.lst (((vals.take i).filter fun v => decide (v ∈ vs)).map V.int))) rfl (fun i H' _ h => ?_) (fun i x H' H'' hi h y => ?_) (fun H' h => ?_)
      · subst h
        exact sql (upd_at hL hub)
      · obtain ⟨rfl, hx⟩ := y
        obtain ⟨c, hc, rfl⟩ := at_ints hx
        subst h
        refine ⟨rfl, _, rfl, _, rfl, a, _, 2, _, rfl, rfl, sqt (upd_at hL q), rfl, .int c, vs.map .int, .int c, .inl (IH.dp ⟨yb, rfl, upd_at hL hy⟩), cmp_int c, canAll_ints vs, _, rfl, ?_⟩
        rw [GX.any_ints]
        by_cases e : c ∈ vs
        · refine ifT (decide_eq_true e) ⟨_, rfl, _, upd_same, ?_, ?_⟩
          · have z : ((vals.take i).filter fun v => decide (v ∈ vs)).length ≤ (vals.take i).length := List.length_filter_le _ _
            rw [List.length_take] at z
            rw [List.length_map, sizeLine_eq]
            have : cs.length ≤ 100 := l100
            have : vals.length = cs.length := hl
            omega
          · rw [upd_upd, List.take_add_one, hc]
            simp [e]
        · refine ifF (decide_eq_false e) ?_
          rw [List.take_add_one, hc]
          simp [e]
      · rw [List.length_map, List.take_length] at h
        subst h
        have sL : Same H (upd H L (.lst ((vals.filter fun v => decide (v ∈ vs)).map V.int))) := same_new hL
        refine ⟨L, _, rfl, .inl (sql upd_same), _, _, rfl, rfl, _, rfl, ?_⟩
        rw [List.length_map]
        by_cases h1 : lo ≤ ((vals.filter fun v => decide (v ∈ vs)).length : Int)
        · refine ifT (decide_eq_true h1) ?_
          refine ⟨_, rfl, a, _, 4, _, rfl, rfl, sqt (upd_at hL q), rfl, _, _, rfl, rfl, ?_⟩
          have e : decide (((vals.filter fun v => decide (v ∈ vs)).length : Int) ≤ hi) = fitsB (.count cs vs lo hi) vals := by simp only [fitsB]; rw [decide_eq_true h1, Bool.true_and]
          have z := k _ sL
          rw [← e] at z
          exact z
        · refine ifF (decide_eq_false h1) ?_
          have e : false = fitsB (.count cs vs lo hi) vals := by simp only [fitsB]; rw [decide_eq_false h1, Bool.false_and]
          rw [e]
          exact k _ sL
    | below p1 p2 =>
      obtain ⟨a, rfl, q⟩ := hru
      refine ⟨_, rfl, a, _, 0, _, rfl, rfl, sqt q, rfl, rfl, _, rfl, ifF (by decide +kernel) ?_⟩
      refine ⟨_, rfl, a, _, 0, _, rfl, rfl, sqt q, rfl, rfl, _, rfl, ifF (by decide +kernel) ?_⟩
      refine ⟨_, rfl, a, _, 0, _, rfl, rfl, sqt q, rfl, rfl, _, rfl, ifF (by decide +kernel) ?_⟩
      refine ⟨_, rfl, a, _, 0, _, rfl, rfl, sqt q, rfl, rfl, _, rfl, ifF (by decide +kernel) ?_⟩
      refine ⟨_, rfl, a, _, 0, _, rfl, rfl, sqt q, rfl, rfl, _, rfl, ifT (by decide +kernel) ?_⟩
      obtain ⟨n1, n2, rfl⟩ : ∃ n1 n2, vals = [n1, n2] := by
        match vals, hl with
        | [n1, n2], _ => exact ⟨n1, n2, rfl⟩
      refine ⟨_, rfl, u0, _, 0, _, rfl, rfl, hvals, rfl, _, rfl, u0, _, 1, _, rfl, rfl, hvals, rfl, _, _, rfl, rfl, ?_⟩
      exact k H (same_refl H)
    | runs cs ls =>
      obtain ⟨a, x, y, rfl, q, i, j⟩ := hru
      refine ⟨_, rfl, a, _, 0, _, rfl, rfl, sqt q, rfl, rfl, _, rfl, ifF (by decide +kernel) ?_⟩
      refine ⟨_, rfl, a, _, 0, _, rfl, rfl, sqt q, rfl, rfl, _, rfl, ifF (by decide +kernel) ?_⟩
      refine ⟨_, rfl, a, _, 0, _, rfl, rfl, sqt q, rfl, rfl, _, rfl, ifF (by decide +kernel) ?_⟩
      refine ⟨_, rfl, a, _, 0, _, rfl, rfl, sqt q, rfl, rfl, _, rfl, ifF (by decide +kernel) ?_⟩
      refine ⟨_, rfl, a, _, 0, _, rfl, rfl, sqt q, rfl, rfl, _, rfl, ifF (by decide +kernel) ?_⟩
      refine ⟨_, rfl, a, _, 0, _, rfl, rfl, sqt q, rfl, rfl, _, rfl, ifT (by decide +kernel) ?_⟩
      refine ⟨_, rfl, .ref u0, vals, rfl, ⟨u0, rfl, hub⟩, by rw [hl]; show cs.length ≤ 1000; have : cs.length ≤ 100 := l100; omega, fun w1 H1 s1 i1 => ?_⟩
      refine ⟨_, rfl, a, _, 2, _, rfl, rfl, sqt (s1 _ _ q), rfl, dI _, dI _, i1.dp, (j.kt (kt_same s1)).dp, cmp_dI _, cmp_dI _, ?_⟩
      rw [eqv_dI]
      exact k H1 s1
    | joined cs ties vs =>
      obtain ⟨a, x, y, z, rfl, q, i, j, l⟩ := hru
      refine ⟨_, rfl, a, _, 0, _, rfl, rfl, sqt q, rfl, rfl, _, rfl, ifF (by decide +kernel) ?_⟩
      refine ⟨_, rfl, a, _, 0, _, rfl, rfl, sqt q, rfl, rfl, _, rfl, ifF (by decide +kernel) ?_⟩
      refine ⟨_, rfl, a, _, 0, _, rfl, rfl, sqt q, rfl, rfl, _, rfl, ifF (by decide +kernel) ?_⟩
      refine ⟨_, rfl, a, _, 0, _, rfl, rfl, sqt q, rfl, rfl, _, rfl, ifF (by decide +kernel) ?_⟩
      refine ⟨_, rfl, a, _, 0, _, rfl, rfl, sqt q, rfl, rfl, _, rfl, ifF (by decide +kernel) ?_⟩
      refine ⟨_, rfl, a, _, 0, _, rfl, rfl, sqt q, rfl, rfl, _, rfl, ifF (by decide +kernel) ?_⟩
      obtain ⟨xa, rfl, hx0⟩ := i
      obtain ⟨za, rfl, hz⟩ := l
      have hcl : vals.length = cs.length := hl
      have c100 : cs.length ≤ 100 := l100
      refine ⟨_, rfl, a, _, 1, _, rfl, rfl, sqt q, rfl, _, rfl, xa, u0, _, _, rfl, sqt hx0, hvals, fun L hL => ?_⟩
      refine lc_it (walk_zipM (xs := cs.map V.int) (ys := vals.map V.int) (n := cs.length) (by simp [hcl])) (fun i H' => H' L = some (.lst ((((cs.zip vals).take i).filter fun p => decide (p.2 ∈ vs)).map fun p => V.int p.1)) ∧ Same H H') ⟨by rw [upd_same]; rfl, same_new hL⟩ (fun i H' _ h => ?_) (fun i x H' H'' hi h y => ?_) (fun H' h => ?_)
      · exact ⟨sqt (h.2 _ _ hx0), sql (h.2 _ _ hub)⟩
      · obtain ⟨T, e1, e2, rfl, hT, rfl, h1, h2⟩ := y
        obtain ⟨hLh, sm1⟩ := h
        obtain ⟨c, hc, rfl⟩ := at_ints h1
        obtain ⟨v1, hv, rfl⟩ := at_ints h2
        refine ⟨T, _, rfl, sqt upd_same, rfl, _, _, rfl, _, _, rfl, rfl, rfl, _, rfl, _, rfl, a, _, 3, _, rfl, rfl, sqt (upd_at hT (sm1 _ _ q)), rfl, .int v1, vs.map .int, .int v1, .inl (IH.dp ⟨za, rfl, upd_at hT (sm1 _ _ hz)⟩), cmp_int v1, canAll_ints vs, _, rfl, ?_⟩
        rw [GX.any_ints]
        have tk : (cs.zip vals).take (i + 1) = (cs.zip vals).take i ++ [(c, v1)] := by rw [List.take_add_one, zip_get hc hv]; rfl
        by_cases e : v1 ∈ vs
        · refine ifT (decide_eq_true e) ⟨_, rfl, _, upd_at hT hLh, ?_, ?_, fun b o eb => ?_⟩
          · have z : (((cs.zip vals).take i).filter fun p => decide (p.2 ∈ vs)).length ≤ ((cs.zip vals).take i).length := List.length_filter_le _ _
            rw [List.length_take] at z
            rw [List.length_map, sizeLine_eq]
            omega
          · rw [upd_same, tk]
            simp [e]
          · rw [upd_ne (fun q => by rw [q, hL] at eb; cases eb)]
            exact upd_at hT (sm1 b o eb)
        · refine ifF (decide_eq_false e) ⟨?_, fun b o eb => upd_at hT (sm1 b o eb)⟩
          rw [tk, upd_at hT hLh]
          simp [e]
      · obtain ⟨hLh, sm1⟩ := h
        rw [List.take_of_length_le (by rw [List.length_zip]; omega)] at hLh
        have hm : IL H' (.ref L) (markedOf cs vals vs) := ⟨L, rfl, by rw [hLh]; unfold markedOf; rw [List.map_map]; rfl⟩
        have ml := marked_len cs vals vs
        have tl : ties.length ≤ 100 := more
        refine ⟨_, rfl, a, _, 1, _, rfl, rfl, sqt (sm1 _ _ q), rfl, _, rfl, a, _, 2, _, rfl, rfl, sqt (sm1 _ _ q), rfl, _, rfl, .ref xa, .ref L, markedOf cs vals vs, y, ties, rfl, hm, j.kt (kt_same sm1), marked_nd nd, by omega, by omega, fun H2 s2 => ?_⟩
        exact k H2 (Same.tr sm1 s2)
end
end G9

set_option Elab.async false
set_option linter.all false
set_option maxRecDepth 100000
set_option maxHeartbeats 4000000
/-! the law's scope; with_rules, without_rule, joint; the law's rows -/
namespace G9
open PySem PySem.Spec PyProof.Rows L2 GX
theorem paired_sub {α β : Type} {R : α → β → Prop} : ∀ {xs : List α} {ys : List β} (n m : Nat), Paired R xs ys → Paired R ((xs.drop n).take m) ((ys.drop n).take m)
  | _, _, n, m, .nil => by simp; exact .nil
  | _, _, n + 1, m, .cons a r => paired_sub n m r
  | _, _, 0, 0, .cons a r => .nil
  | _, _, 0, m + 1, .cons a r => .cons a (paired_sub 0 m r)
def addRules (p : Puz) (rs : List Rul) : Puz := ⟨p.doms, p.rules ++ rs⟩
def dropRule (p : Puz) (j : Nat) : Puz := ⟨p.doms, p.rules.take j ++ p.rules.drop (j + 1)⟩
def spWithRules : Sp := fun vs H Q _ => ∃ v p u rs, vs = [v, u] ∧ PzH H v p ∧ RusH H u rs ∧ p.rules.length + rs.length ≤ 1000 ∧ ∀ w H', Same H H' → PzH H' w (addRules p rs) → Q w H'
def spJoint : Sp := fun vs H Q _ => ∃ v p u q, vs = [v, u] ∧ PzH H v p ∧ PzH H u q ∧ p.rules.length + q.rules.length ≤ 1000 ∧ ∀ w H', Same H H' → PzH H' w (addRules p q.rules) → Q w H'
def spWithout : Sp := fun vs H Q _ => ∃ v p j, vs = [v, .int ((j : Nat) : Int)] ∧ PzH H v p ∧ j < p.rules.length ∧ p.rules.length ≤ 1000 ∧ ∀ w H', Same H H' → PzH H' w (dropRule p j) → Q w H'
/-- two tuples of rules put together -/
theorem cat_rules {K : PySem.W.Frag} {H : Hp} {x y : V} {rs ts : List Rul} (hx : RusH H x rs) (hy : RusH H y ts) (hl : rs.length + ts.length ≤ 1000) {Q : VK} (k : ∀ w H', Same H H' → RusH H' w (rs ++ ts) → Q w H') : rCatA K x y H Q := by
  obtain ⟨a, vs, rfl, ha, pa⟩ := hx
  obtain ⟨b, us, rfl, hb, pb⟩ := hy
  have l1 := pa.length
  have l2 := pb.length
  refine ⟨a, b, vs, us, rfl, rfl, sqt ha, sqt hb, by rw [sizeLine_eq]; omega, fun e => ?_, fun e1 e2 => ?_, fun e1 e2 p hp => ?_⟩
  · subst e
    cases pa
    exact k _ _ (same_refl H) ⟨b, us, rfl, hb, pb⟩
  · subst e2
    cases pb
    rw [List.append_nil] at k
    exact k _ _ (same_refl H) ⟨a, vs, rfl, ha, pa⟩
  · exact k _ _ (same_new hp) ⟨p, _, rfl, upd_same, paired_mono (fun _ _ => RuH.kt (kt_same (same_new hp))) (paired_app pa pb)⟩
def spScope : Sp := spCellsOf
section
variable {P : Program} {w : World} {K : PySem.W.Frag} {mg : Str → Option Value} {base : Heap} {f f1 f2 : Addr} {fd fd1 fd2 : FuncData}
theorem ok_scope (D : Df K mg "_law_scope" sScope ["_law_rule"] f fd) : FnOk P w K mg base CX0 1 f fd ["_law_rule"] spCellsOf := by
  refine D.F.ok scScope (fun vs H Q E h => ?_) (fun cdv A outer s H vs Q E hr h => ?_)
  · obtain ⟨v, r, rfl, _⟩ := h
    rfl
  · obtain ⟨v, r, rfl, hru, k⟩ := h
    refine ⟨_, pss_one (ps_ret (pe_ifExp (pt_cmpR op_eq (pe_ix ix_tup (pv 0) pe_int (fun _ _ => rfl)) pe_str (nomark _)) (pe_slice sl_tup (pv 0) (po_some pe_int) (po_some pe_int)) (pe_ix ix_tup (pv 0) pe_int (fun _ _ => rfl)))), ?_⟩
    cases r with
    | below i j =>
      obtain ⟨a, rfl, q⟩ := hru
      refine ⟨_, rfl, a, _, 0, _, rfl, rfl, sqt q, rfl, rfl, _, rfl, ifT (by decide +kernel) ?_⟩
      refine ⟨_, rfl, 1, rfl, 3, rfl, a, _, rfl, sqt q, show ¬ (HT.sIx 3 0 (some 1) = 0 ∧ HT.sIx 3 3 (some 3) = 3) from by decide, fun p hp => ?_⟩
      exact k _ _ (same_new hp) ⟨p, rfl, upd_same⟩
    | unlike cs | sum cs lo hi =>
      obtain ⟨a, x, rfl, q, i⟩ := hru
      exact ⟨_, rfl, a, _, 0, _, rfl, rfl, sqt q, rfl, rfl, _, rfl, ifF (by decide +kernel) ⟨_, rfl, a, _, 1, _, rfl, rfl, sqt q, rfl, k _ _ (same_refl H) i⟩⟩
    | table cs rows | count cs vs lo hi | runs cs ls =>
      obtain ⟨a, x, y, rfl, q, i, _⟩ := hru
      exact ⟨_, rfl, a, _, 0, _, rfl, rfl, sqt q, rfl, rfl, _, rfl, ifF (by decide +kernel) ⟨_, rfl, a, _, 1, _, rfl, rfl, sqt q, rfl, k _ _ (same_refl H) i⟩⟩
    | joined cs ties vs =>
      obtain ⟨a, x, y, z, rfl, q, i, _⟩ := hru
      exact ⟨_, rfl, a, _, 0, _, rfl, rfl, sqt q, rfl, rfl, _, rfl, ifF (by decide +kernel) ⟨_, rfl, a, _, 1, _, rfl, rfl, sqt q, rfl, k _ _ (same_refl H) i⟩⟩
theorem ok_joint (D : Df K mg "joint" sJoint ["one", "other"] f fd) : FnOk P w K mg base CX0 1 f fd ["one", "other"] spJoint := by
  refine D.F.ok scJoint (fun vs H Q E h => ?_) (fun cdv A outer s H vs Q E hr h => ?_)
  · obtain ⟨v, p, u, rs, rfl, _⟩ := h
    rfl
  · obtain ⟨v, p, u, r, rfl, hp, hr2, hl, k⟩ := h
    refine ⟨_, pss_one (ps_ret (pe_tup (pa_cons (pe_ix ix_tup (pv 0) pe_int (fun _ _ => rfl)) (pa_cons (pe_op (catA K) (pe_ix ix_tup (pv 0) pe_int (fun _ _ => rfl)) (pe_ix ix_tup (pv 1) pe_int (fun _ _ => rfl))) pa_nil)))), ?_⟩
    obtain ⟨a, x, y, rfl, ha, hx, hy⟩ := hp
    obtain ⟨b, x2, y2, rfl, hb, hx2, hy2⟩ := hr2
    refine ⟨_, rfl, a, _, 0, _, rfl, rfl, sqt ha, rfl, _, rfl, a, _, 1, _, rfl, rfl, sqt ha, rfl, _, rfl, b, _, 1, _, rfl, rfl, sqt hb, rfl, ?_⟩
    refine cat_rules hy hy2 hl fun w H' s1 hw => ⟨(show 2 ≤ sizeLine by decide), fun q hq => ?_⟩
    exact k _ _ (Same.tr s1 (same_new hq)) ⟨q, x, w, rfl, upd_same, hx.kt (kt_same (Same.tr s1 (same_new hq))), hw.kt (kt_same (same_new hq))⟩
theorem sIx_nat {n j : Nat} (d : Nat) (h : j ≤ n) : HT.sIx n d (some (j : Int)) = j := by
  unfold HT.sIx
  simp
  rw [if_neg (by omega)]
  exact Nat.min_eq_left h
/-- a part of a tuple of rules -/
theorem part_rules {K : PySem.W.Frag} {H : Hp} {x : V} {rs : List Rul} (hx : RusH H x rs) (lo hi : Option Int) {Q : VK} (k : ∀ w H', Same H H' → RusH H' w ((rs.drop (HT.sIx rs.length 0 lo)).take (HT.sIx rs.length rs.length hi - HT.sIx rs.length 0 lo)) → Q w H') : rSlA K x lo hi H Q := by
  obtain ⟨a, vs, rfl, ha, pa⟩ := hx
  have l1 : vs.length = rs.length := pa.length
  refine ⟨a, vs, rfl, sqt ha, fun e => ?_, fun e p hp => ?_⟩
  · rw [l1] at e
    have := k (.ref a) H (same_refl H)
    rw [e.1, e.2, List.drop_zero, Nat.sub_zero, List.take_length] at this
    exact this ⟨a, vs, rfl, ha, pa⟩
  · refine k _ _ (same_new hp) ⟨p, _, rfl, upd_same, ?_⟩
    unfold cutV
    rw [l1]
    exact paired_mono (fun _ _ => RuH.kt (kt_same (same_new hp))) (paired_sub _ _ pa)
theorem ok_without (D : Df K mg "without_rule" sWithout ["puzzle", "j"] f fd) : FnOk P w K mg base CX0 1 f fd ["puzzle", "j"] spWithout := by
  refine D.F.ok scWithout (fun vs H Q E h => ?_) (fun cdv A outer s H vs Q E hr h => ?_)
  · obtain ⟨v, p, j, rfl, _⟩ := h
    rfl
  · obtain ⟨v, p, j, rfl, hp, hj, hl, k⟩ := h
    refine ⟨_, pss_cons (ps_asg (pv 0) (pg_tupK K (n := 2) rfl (pgs_cons (pg_name (i := 2) scWithout.nd rfl (.inl rfl)) (pgs_cons (pg_name (i := 3) scWithout.nd rfl (.inl rfl)) pgs_nil))))
      (pss_one (ps_ret (pe_tup (pa_cons (pv 2) (pa_cons (pe_op (catA K) (pe_slice (slA K) (pv 3) po_none (po_some (pv 1))) (pe_slice (slA K) (pv 3) (po_some (pe_op op_add (pv 1) pe_int)) po_none)) pa_nil))))), ?_⟩
    obtain ⟨a, x, y, rfl, ha, hx, hy⟩ := hp
    refine ⟨_, rfl, a, _, rfl, sqt ha, rfl, _, _, rfl, _, _, rfl, rfl, ?_⟩
    refine ⟨_, rfl, _, rfl, _, rfl, _, rfl, ?_⟩
    refine part_rules hy none (some (j : Int)) fun w1 H1 s1 h1 => ?_
    refine ⟨_, rfl, _, rfl, _, _, rfl, rfl, _, rfl, ?_⟩
    dsimp only [tNoPart]
    refine part_rules (hy.kt (kt_same s1)) (some ((j : Int) + 1)) none fun w2 H2 s2 h2 => ?_
    have e0 : HT.sIx p.rules.length 0 none = 0 := rfl
    have e1 : HT.sIx p.rules.length p.rules.length (some (j : Int)) = j := sIx_nat _ (Nat.le_of_lt hj)
    have e2 : HT.sIx p.rules.length 0 (some ((j : Int) + 1)) = j + 1 := sIx_nat (n := p.rules.length) (j := j + 1) _ hj
    have e3 : HT.sIx p.rules.length p.rules.length none = p.rules.length := rfl
    rw [e0, e1, List.drop_zero, Nat.sub_zero] at h1
    rw [e2, e3, List.take_of_length_le (Nat.le_of_eq List.length_drop)] at h2
    refine cat_rules (h1.kt (kt_same s2)) h2 (by rw [List.length_take, List.length_drop]; omega) fun w3 H3 s3 h3 => ⟨(show 2 ≤ sizeLine by decide), fun q hq => ?_⟩
    have sm := Same.tr s1 (Same.tr s2 (Same.tr s3 (same_new (o := .tup [x, w3]) hq)))
    exact k _ _ sm ⟨q, x, w3, rfl, upd_same, hx.kt (kt_same sm), h3.kt (kt_same (same_new hq))⟩
end
end G9

set_option Elab.async false
set_option linter.all false
set_option maxRecDepth 100000
set_option maxHeartbeats 4000000
/-! the law's rows -/
namespace G9
open PySem PySem.Spec PyProof.Rows L2 GX
def grow (acc : List (List Int)) (d : List Int) : List (List Int) := acc.flatMap fun r => d.map fun v => r ++ [v]
def rowsOf (doms : List (List Int)) : List (List Int) := doms.foldl grow [[]]
theorem rowsOf_snoc (ds : List (List Int)) (d : List Int) : rowsOf (ds ++ [d]) = grow (rowsOf ds) d := by
  unfold rowsOf
  rw [List.foldl_append]
  rfl
theorem grow_len (acc : List (List Int)) (d : List Int) : (grow acc d).length = acc.length * d.length := by
  induction acc with
  | nil => simp [grow]
  | cons a acc ih =>
    have : grow (a :: acc) d = d.map (fun v => a ++ [v]) ++ grow acc d := rfl
    rw [this, List.length_append, ih, List.length_map, List.length_cons, Nat.succ_mul, Nat.add_comm]
theorem rowsOf_len : ∀ (n : Nat) (ds : List (List Int)), ds.length = n → (∀ d ∈ ds, d.length ≤ 4) → (rowsOf ds).length ≤ 4 ^ n
  | 0, [], _, _ => Nat.le_refl _
  | n + 1, ds, h, hd => by
    have ne : ds ≠ [] := fun z => by rw [z] at h; cases h
    have e := List.dropLast_concat_getLast ne
    have hl : ds.dropLast.length = n := by rw [List.length_dropLast, h]; rfl
    rw [← e, rowsOf_snoc, grow_len, Nat.pow_succ]
    exact Nat.mul_le_mul (rowsOf_len n _ hl fun d hm => hd d (List.dropLast_subset _ hm)) (hd _ (List.getLast_mem ne))
theorem mem_grow {acc : List (List Int)} {d : List Int} {r : List Int} : r ∈ grow acc d ↔ ∃ q ∈ acc, ∃ v ∈ d, r = q ++ [v] := by
  unfold grow
  simp only [List.mem_flatMap, List.mem_map]
  constructor
  · rintro ⟨q, hq, v, hv, e⟩
    exact ⟨q, hq, v, hv, e.symm⟩
  · rintro ⟨q, hq, v, hv, e⟩
    exact ⟨q, hq, v, hv, e.symm⟩
theorem rowsOf_each : ∀ (n : Nat) (ds : List (List Int)), ds.length = n → ∀ r ∈ rowsOf ds, r.length = n
  | 0, [], _, r, h => by
    have : r = [] := by simpa [rowsOf] using h
    rw [this]
    rfl
  | n + 1, ds, h, r, hr => by
    have ne : ds ≠ [] := fun z => by rw [z] at h; cases h
    have e := List.dropLast_concat_getLast ne
    have hl : ds.dropLast.length = n := by rw [List.length_dropLast, h]; rfl
    rw [← e, rowsOf_snoc] at hr
    obtain ⟨q, hq, v, _, rfl⟩ := mem_grow.mp hr
    rw [List.length_append, rowsOf_each n _ hl q hq]
    rfl
theorem cat_row {K : PySem.W.Frag} {H : Hp} {x : V} {T : Addr} {r : List Int} {v : Int} (hx : IH H x r) (hT : H T = some (.tup [.int v])) (hl : r.length ≤ 1000) {Q : VK} (k : ∀ w H', Same H H' → IH H' w (r ++ [v]) → Q w H') : rCatA K x (.ref T) H Q := by
  obtain ⟨a, rfl, ha⟩ := hx
  refine ⟨a, T, _, [.int v], rfl, rfl, sqt ha, sqt hT, by rw [List.length_map, sizeLine_eq]; show r.length + 1 ≤ _; omega, fun e => ?_, (fun _ e2 => nomatch e2), fun e1 _ p hp => ?_⟩
  · have : r = [] := List.map_eq_nil_iff.mp e
    subst this
    exact k _ _ (same_refl H) ⟨T, rfl, hT⟩
  · exact k _ _ (same_new hp) ⟨p, rfl, by rw [upd_same, List.map_append]; rfl⟩
def spRows : Sp := fun vs H Q _ => ∃ u doms, vs = [u] ∧ (RowsH H u doms ∨ LRows H u doms) ∧ doms.length ≤ 8 ∧ (∀ d ∈ doms, d.length ≤ 4) ∧ ∀ l H', Same H H' → H l = none → LRows H' (.ref l) (rowsOf doms) → Q (.ref l) H'
theorem pow_le {n : Nat} (h : n ≤ 8) : 4 ^ n ≤ 65536 := Nat.le_trans (Nat.pow_le_pow_right (by decide) h) (by decide)
section
variable {P : Program} {w : World} {K : PySem.W.Frag} {mg : Str → Option Value} {base : Heap} {f f1 f2 : Addr} {fd fd1 fd2 : FuncData}
theorem ok_rows (D : Df K mg "_law_rows" sRows ["_law_lots"] f fd) : FnOk P w K mg base CX0 1 f fd ["_law_lots"] spRows := by
  refine D.F.ok scRows (fun vs H Q E h => ?_) (fun cdv A outer s H vs Q E hr h => ?_)
  · obtain ⟨u, doms, rfl, _⟩ := h
    rfl
  · obtain ⟨u, doms, rfl, hd, hn, h4, k⟩ := h
    refine ⟨_, pss_cons (ps_set (i := 1) scRows.nd rfl (.inl rfl) (pe_lst (pa_cons (pe_tup pa_nil) pa_nil)))
      (pss_cons (ps_for PassesOwn.never rfl (piB K (pv 0)) (pg_name (i := 2) scRows.nd rfl (.inl rfl))
        (pss_cons (ps_set (i := 3) scRows.nd rfl (.inl rfl) (pe_lst pa_nil))
        (pss_cons (ps_for PassesOwn.never rfl (pi_list (pv 1)) (pg_name (i := 4) scRows.nd rfl (.inr rfl))
          (pss_one (ps_set (i := 3) scRows.nd rfl (.inl rfl) (pe_op op_cat (pv 3)
            (pe_lc (own := [("_law_value", 5)]) rfl scRows.nd (pi_tup (pv 2)) (blkOk_by (N := ["_law_lots", "_law_found", "_law_lot", "_law_further", "_law_row", "_law_value"]) (sc := defScope sRows) (by decide +kernel)) (fun _ _ _ _ _ => pg_name (i := 5) scRows.nd rfl (.inl rfl)) (fun _ _ _ _ _ => pts_nil)
              (fun _ _ _ _ _ => pe_op (catA K) (pv 4) (pe_tup (pa_cons (pv 5) pa_nil))))))))
        (pss_one (ps_set (i := 1) scRows.nd rfl (.inl rfl) (pv 3))))))
      (pss_one (ps_ret (pv 1)))), ?_⟩
    refine ⟨by decide, fun T0 hT0 => ⟨(show 1 ≤ sizeLine by decide), fun F0 hF0 => ?_⟩⟩
    have hF0H : H F0 = none := none_under hF0
    have s0 : Same H (upd (upd H T0 (.tup [])) F0 (.lst [.ref T0])) := fun b o e => upd_at hF0 (upd_at hT0 e)
    have p0 : Paired (IH (upd (upd H T0 (.tup [])) F0 (.lst [.ref T0]))) [V.ref T0] (rowsOf []) := paired_one ⟨T0, rfl, upd_at hF0 upd_same⟩
    rcases hd with ⟨a, xs, rfl, ha, hp⟩ | ⟨a, xs, rfl, ha, hp⟩
    · refine .inl ⟨_, rfl, a, rfl, ⟨_, sqt (s0 _ _ ha)⟩, for_it (walk_tup (K := K) (xs := xs)) (fun i σ H' => ∃ F vs o2 o3 o4 o5, σ = [some (.ref a), some (.ref F), o2, o3, o4, o5] ∧ H' F = some (.lst vs) ∧ Paired (IH H') vs (rowsOf (doms.take i)) ∧ Same H H' ∧ H F = none)
        ⟨F0, [.ref T0], none, none, none, none, rfl, upd_same, p0, s0, hF0H⟩ (fun i σ H' _ h => ?_) (fun i x σ H' H'' hi h y => ?_) (fun σ H' h => ?_)⟩
      · obtain ⟨F, vs, o2, o3, o4, o5, rfl, hF, pF, sm, nF⟩ := h
        exact sqt (sm _ _ ha)
      · obtain ⟨rfl, hx⟩ := y
        obtain ⟨F, vs, o2, o3, o4, o5, rfl, hF, pF, sm, nF⟩ := h
        obtain ⟨d, hd1, ih⟩ := paired_at hp hx
        have tk : doms.take (i + 1) = doms.take i ++ [d] := by rw [List.take_add_one, hd1]; rfl
        have dl : d.length ≤ 4 := h4 d (List.mem_of_getElem? hd1)
        have il : i < doms.length := (List.getElem?_eq_some_iff.mp hd1).1
        have rl : (rowsOf (doms.take i)).length ≤ 65536 := Nat.le_trans (rowsOf_len _ _ rfl fun e he => h4 e (List.take_subset _ _ he)) (pow_le (by rw [List.length_take]; omega))
        have each := rowsOf_each _ (doms.take i) rfl
        rw [List.length_take] at each
        have vl := pF.length
        rw [tk, rowsOf_snoc] at *
        generalize rowsOf (doms.take i) = acc at pF rl each vl ⊢
        obtain ⟨da, rfl, hda⟩ := ih
        refine ⟨by decide, fun G0 hG0 => ?_⟩
        have hG0H : H G0 = none := by
          cases e : H G0 with
          | none => rfl
          | some o => rw [sm _ _ e] at hG0; cases hG0
        refine ⟨_, rfl, F, rfl, ⟨_, sql (upd_at hG0 hF)⟩, for_it (walk_list (K := K) (xs := vs)) (fun j σ H' => ∃ G ws o4 o5, σ = [some (.ref a), some (.ref F), some (.ref da), some (.ref G), o4, o5] ∧ H' G = some (.lst ws) ∧ Paired (IH H') ws (grow (acc.take j) d) ∧ Same H H' ∧ H G = none ∧ H' F = some (.lst vs) ∧ Paired (IH H') vs acc)
          ⟨G0, [], o4, o5, rfl, upd_same, .nil, fun b o e => upd_at hG0 (sm b o e), hG0H, upd_at hG0 hF, paired_mono (fun _ _ => IH.kt (kt_same (same_new hG0))) pF⟩ (fun j σ H' _ h => ?_) (fun j x σ H' H'' hj h y => ?_) (fun σ H' h => ?_)⟩
        · obtain ⟨_, _, _, _, _, _, _, _, _, h1, _⟩ := h
          exact sql h1
        · obtain ⟨rfl, hx⟩ := y
          obtain ⟨G, ws, q4, q5, rfl, hG, pG, sm2, nG, hF2, pF2⟩ := h
          obtain ⟨r, hr1, ir⟩ := paired_at pF2 hx
          have tk2 : acc.take (j + 1) = acc.take j ++ [r] := by rw [List.take_add_one, hr1]; rfl
          have g2 : grow (acc.take (j + 1)) d = grow (acc.take j) d ++ d.map fun v => r ++ [v] := by rw [tk2]; unfold grow; rw [List.flatMap_append]; simp
          have r8 : r.length ≤ 8 := by rw [each r (List.mem_of_getElem? hr1)]; omega
          have gl : (grow (acc.take j) d).length ≤ 262144 := by
            rw [grow_len, List.length_take]
            exact Nat.le_trans (Nat.mul_le_mul (Nat.le_trans (Nat.min_le_right _ _) rl) dl) (by decide)
          have wl := pG.length
          refine ⟨_, rfl, _, rfl, da, rfl, ⟨_, sqt (sm2 _ _ hda)⟩, fun L hL => ?_⟩
          have nGL : G ≠ L := ne_of_none hG hL
          have nFL : F ≠ L := ne_of_none hF2 hL
          refine lc_it (walk_tup (xs := d.map V.int)) (fun m H3 => ∃ us, H3 L = some (.lst us) ∧ Paired (IH H3) us ((d.take m).map fun v => r ++ [v]) ∧ ∀ b o, b ≠ L → H'' b = some o → H3 b = some o) ⟨[], upd_same, .nil, fun b o hb e => by rw [upd_ne hb]; exact e⟩ (fun m H3 _ h => ?_) (fun m x H3 H4 hm h y => ?_) (fun H3 h => ?_)
          · obtain ⟨us, _, _, kp⟩ := h
            exact sqt (kp _ _ (ne_of_none (sm2 _ _ hda) hL) (sm2 _ _ hda))
          · obtain ⟨rfl, hx3⟩ := y
            obtain ⟨us, hL3, pU, kp⟩ := h
            obtain ⟨v, hv, rfl⟩ := at_ints hx3
            obtain ⟨ra, rfl, hra⟩ := ir
            have hra3 := kp _ _ (ne_of_none hra hL) hra
            refine ⟨rfl, _, rfl, _, rfl, (show 1 ≤ sizeLine by decide), fun T hT => ?_⟩
            refine cat_row ⟨ra, rfl, upd_at hT hra3⟩ upd_same (by omega) fun w H5 s5 hw => ?_
            have s35 : Same H4 H5 := Same.tr (same_new hT) s5
            have nw : ∀ b xs, H5 b = some (.tup xs) → (upd H5 L (.lst (us ++ [w]))) b = some (.tup xs) := fun b xs e => by
              rw [upd_ne (fun z => by rw [z, s35 _ _ hL3] at e; cases e)]
              exact e
            have ul := pU.length
            rw [List.length_map, List.length_take] at ul
            refine ⟨us, s35 _ _ hL3, by rw [sizeLine_eq]; omega, us ++ [w], upd_same, ?_, fun b o hb e => by rw [upd_ne hb]; exact s35 _ _ (kp b o hb e)⟩
            have tk3 : (d.take (m + 1)).map (fun v => r ++ [v]) = (d.take m).map (fun v => r ++ [v]) ++ [r ++ [v]] := by rw [List.take_add_one, hv]; simp
            rw [tk3]
            exact paired_app (paired_mono (fun _ _ z => IH.kt nw (IH.kt (kt_same s35) z)) pU) (paired_one (hw.kt nw))
          · obtain ⟨us, hL3, pU, kp⟩ := h
            rw [List.length_map, List.take_length] at pU
            have ul := pU.length
            rw [List.length_map] at ul
            refine ⟨G, L, ws, us, rfl, rfl, kp _ _ nGL hG, hL3, by rw [sizeLine_eq]; omega, fun N hN => ?_⟩
            have nHL : H L = none := by
              cases e : H L with
              | none => rfl
              | some o => rw [sm2 _ _ e] at hL; cases hL
            have smL : Same H H3 := fun b o e => kp b o (fun z => by rw [z, nHL] at e; cases e) (sm2 b o e)
            have nHN : H N = none := by
              cases e : H N with
              | none => rfl
              | some o => rw [smL _ _ e] at hN; cases hN
            have kt1 : ∀ b xs, H'' b = some (.tup xs) → (upd H3 N (.lst (ws ++ us))) b = some (.tup xs) := fun b xs e => upd_at hN (kp b _ (fun z => by rw [z, hL] at e; cases e) e)
            refine ⟨N, ws ++ us, _, q5, rfl, upd_same, ?_, fun b o e => upd_at hN (smL b o e), nHN, upd_at hN (kp _ _ nFL hF2), paired_mono (fun _ _ => IH.kt kt1) pF2⟩
            rw [g2]
            exact paired_app (paired_mono (fun _ _ => IH.kt kt1) pG) (paired_mono (fun _ _ => IH.kt (kt_same (same_new hN))) pU)
        · obtain ⟨G, ws, q4, q5, rfl, hG, pG, sm2, nG, hF2, pF2⟩ := h
          rw [vl, List.take_length] at pG
          refine ⟨_, rfl, G, ws, some (.ref da), _, q4, q5, rfl, hG, ?_, sm2, nG⟩
          exact pG
      · obtain ⟨F, vs, o2, o3, o4, o5, rfl, hF, pF, sm, nF⟩ := h
        have hl := hp.length
        rw [hl, List.take_length] at pF
        exact ⟨_, rfl, k F H' sm nF ⟨F, vs, rfl, hF, pF⟩⟩
    · refine .inr ⟨_, rfl, a, rfl, ⟨_, sql (s0 _ _ ha)⟩, for_it (walk_list (K := K) (xs := xs)) (fun i σ H' => ∃ F vs o2 o3 o4 o5, σ = [some (.ref a), some (.ref F), o2, o3, o4, o5] ∧ H' F = some (.lst vs) ∧ Paired (IH H') vs (rowsOf (doms.take i)) ∧ Same H H' ∧ H F = none)
        ⟨F0, [.ref T0], none, none, none, none, rfl, upd_same, p0, s0, hF0H⟩ (fun i σ H' _ h => ?_) (fun i x σ H' H'' hi h y => ?_) (fun σ H' h => ?_)⟩
      · obtain ⟨F, vs, o2, o3, o4, o5, rfl, hF, pF, sm, nF⟩ := h
        exact sql (sm _ _ ha)
      · obtain ⟨rfl, hx⟩ := y
        obtain ⟨F, vs, o2, o3, o4, o5, rfl, hF, pF, sm, nF⟩ := h
        obtain ⟨d, hd1, ih⟩ := paired_at hp hx
        have tk : doms.take (i + 1) = doms.take i ++ [d] := by rw [List.take_add_one, hd1]; rfl
        have dl : d.length ≤ 4 := h4 d (List.mem_of_getElem? hd1)
        have il : i < doms.length := (List.getElem?_eq_some_iff.mp hd1).1
        have rl : (rowsOf (doms.take i)).length ≤ 65536 := Nat.le_trans (rowsOf_len _ _ rfl fun e he => h4 e (List.take_subset _ _ he)) (pow_le (by rw [List.length_take]; omega))
        have each := rowsOf_each _ (doms.take i) rfl
        rw [List.length_take] at each
        have vl := pF.length
        rw [tk, rowsOf_snoc] at *
        generalize rowsOf (doms.take i) = acc at pF rl each vl ⊢
        obtain ⟨da, rfl, hda⟩ := ih
        refine ⟨by decide, fun G0 hG0 => ?_⟩
        have hG0H : H G0 = none := by
          cases e : H G0 with
          | none => rfl
          | some o => rw [sm _ _ e] at hG0; cases hG0
        refine ⟨_, rfl, F, rfl, ⟨_, sql (upd_at hG0 hF)⟩, for_it (walk_list (K := K) (xs := vs)) (fun j σ H' => ∃ G ws o4 o5, σ = [some (.ref a), some (.ref F), some (.ref da), some (.ref G), o4, o5] ∧ H' G = some (.lst ws) ∧ Paired (IH H') ws (grow (acc.take j) d) ∧ Same H H' ∧ H G = none ∧ H' F = some (.lst vs) ∧ Paired (IH H') vs acc)
          ⟨G0, [], o4, o5, rfl, upd_same, .nil, fun b o e => upd_at hG0 (sm b o e), hG0H, upd_at hG0 hF, paired_mono (fun _ _ => IH.kt (kt_same (same_new hG0))) pF⟩ (fun j σ H' _ h => ?_) (fun j x σ H' H'' hj h y => ?_) (fun σ H' h => ?_)⟩
        · obtain ⟨_, _, _, _, _, _, _, _, _, h1, _⟩ := h
          exact sql h1
        · obtain ⟨rfl, hx⟩ := y
          obtain ⟨G, ws, q4, q5, rfl, hG, pG, sm2, nG, hF2, pF2⟩ := h
          obtain ⟨r, hr1, ir⟩ := paired_at pF2 hx
          have tk2 : acc.take (j + 1) = acc.take j ++ [r] := by rw [List.take_add_one, hr1]; rfl
          have g2 : grow (acc.take (j + 1)) d = grow (acc.take j) d ++ d.map fun v => r ++ [v] := by rw [tk2]; unfold grow; rw [List.flatMap_append]; simp
          have r8 : r.length ≤ 8 := by rw [each r (List.mem_of_getElem? hr1)]; omega
          have gl : (grow (acc.take j) d).length ≤ 262144 := by
            rw [grow_len, List.length_take]
            exact Nat.le_trans (Nat.mul_le_mul (Nat.le_trans (Nat.min_le_right _ _) rl) dl) (by decide)
          have wl := pG.length
          refine ⟨_, rfl, _, rfl, da, rfl, ⟨_, sqt (sm2 _ _ hda)⟩, fun L hL => ?_⟩
          have nGL : G ≠ L := ne_of_none hG hL
          have nFL : F ≠ L := ne_of_none hF2 hL
          refine lc_it (walk_tup (xs := d.map V.int)) (fun m H3 => ∃ us, H3 L = some (.lst us) ∧ Paired (IH H3) us ((d.take m).map fun v => r ++ [v]) ∧ ∀ b o, b ≠ L → H'' b = some o → H3 b = some o) ⟨[], upd_same, .nil, fun b o hb e => by rw [upd_ne hb]; exact e⟩ (fun m H3 _ h => ?_) (fun m x H3 H4 hm h y => ?_) (fun H3 h => ?_)
          · obtain ⟨us, _, _, kp⟩ := h
            exact sqt (kp _ _ (ne_of_none (sm2 _ _ hda) hL) (sm2 _ _ hda))
          · obtain ⟨rfl, hx3⟩ := y
            obtain ⟨us, hL3, pU, kp⟩ := h
            obtain ⟨v, hv, rfl⟩ := at_ints hx3
            obtain ⟨ra, rfl, hra⟩ := ir
            have hra3 := kp _ _ (ne_of_none hra hL) hra
            refine ⟨rfl, _, rfl, _, rfl, (show 1 ≤ sizeLine by decide), fun T hT => ?_⟩
            refine cat_row ⟨ra, rfl, upd_at hT hra3⟩ upd_same (by omega) fun w H5 s5 hw => ?_
            have s35 : Same H4 H5 := Same.tr (same_new hT) s5
            have nw : ∀ b xs, H5 b = some (.tup xs) → (upd H5 L (.lst (us ++ [w]))) b = some (.tup xs) := fun b xs e => by
              rw [upd_ne (fun z => by rw [z, s35 _ _ hL3] at e; cases e)]
              exact e
            have ul := pU.length
            rw [List.length_map, List.length_take] at ul
            refine ⟨us, s35 _ _ hL3, by rw [sizeLine_eq]; omega, us ++ [w], upd_same, ?_, fun b o hb e => by rw [upd_ne hb]; exact s35 _ _ (kp b o hb e)⟩
            have tk3 : (d.take (m + 1)).map (fun v => r ++ [v]) = (d.take m).map (fun v => r ++ [v]) ++ [r ++ [v]] := by rw [List.take_add_one, hv]; simp
            rw [tk3]
            exact paired_app (paired_mono (fun _ _ z => IH.kt nw (IH.kt (kt_same s35) z)) pU) (paired_one (hw.kt nw))
          · obtain ⟨us, hL3, pU, kp⟩ := h
            rw [List.length_map, List.take_length] at pU
            have ul := pU.length
            rw [List.length_map] at ul
            refine ⟨G, L, ws, us, rfl, rfl, kp _ _ nGL hG, hL3, by rw [sizeLine_eq]; omega, fun N hN => ?_⟩
            have nHL : H L = none := by
              cases e : H L with
              | none => rfl
              | some o => rw [sm2 _ _ e] at hL; cases hL
            have smL : Same H H3 := fun b o e => kp b o (fun z => by rw [z, nHL] at e; cases e) (sm2 b o e)
            have nHN : H N = none := by
              cases e : H N with
              | none => rfl
              | some o => rw [smL _ _ e] at hN; cases hN
            have kt1 : ∀ b xs, H'' b = some (.tup xs) → (upd H3 N (.lst (ws ++ us))) b = some (.tup xs) := fun b xs e => upd_at hN (kp b _ (fun z => by rw [z, hL] at e; cases e) e)
            refine ⟨N, ws ++ us, _, q5, rfl, upd_same, ?_, fun b o e => upd_at hN (smL b o e), nHN, upd_at hN (kp _ _ nFL hF2), paired_mono (fun _ _ => IH.kt kt1) pF2⟩
            rw [g2]
            exact paired_app (paired_mono (fun _ _ => IH.kt kt1) pG) (paired_mono (fun _ _ => IH.kt (kt_same (same_new hN))) pU)
        · obtain ⟨G, ws, q4, q5, rfl, hG, pG, sm2, nG, hF2, pF2⟩ := h
          rw [vl, List.take_length] at pG
          refine ⟨_, rfl, G, ws, some (.ref da), _, q4, q5, rfl, hG, ?_, sm2, nG⟩
          exact pG
      · obtain ⟨F, vs, o2, o3, o4, o5, rfl, hF, pF, sm, nF⟩ := h
        have hl := hp.length
        rw [hl, List.take_length] at pF
        exact ⟨_, rfl, k F H' sm nF ⟨F, vs, rfl, hF, pF⟩⟩
end
end G9

set_option Elab.async false
set_option linter.all false
set_option maxRecDepth 100000
set_option maxHeartbeats 4000000
/-! the law's answers -/
namespace G9
open PySem PySem.Spec PyProof.Rows L2 GX
noncomputable def allFit (rules : List Rul) (row : List Int) : List Bool := rules.map fun r => fitsB r (pick row (Rul.cells r))
noncomputable def isAns (p : Puz) (row : List Int) : Bool := (allFit p.rules row).all id
noncomputable def answersOf (p : Puz) : List (List Int) := (rowsOf p.doms).filter fun row => isAns p row
def TabLen : Rul → Prop
  | .table _ rows => rows.length ≤ 65536
  | _ => True
structure PzOk (p : Puz) : Prop where
  n8 : p.doms.length ≤ 8
  d4 : ∀ d ∈ p.doms, d.length ≤ 4
  r100 : p.rules.length ≤ 100
  small : ∀ r ∈ p.rules, Small r
  tab : ∀ r ∈ p.rules, TabLen r
  some : ∀ r ∈ p.rules, Rul.cells r ≠ []
  cell : ∀ r ∈ p.rules, ∀ c ∈ Rul.cells r, 0 ≤ c ∧ c < p.doms.length
theorem PzOk.rl {p : Puz} (h : PzOk p) : (rowsOf p.doms).length ≤ 65536 := Nat.le_trans (rowsOf_len _ _ rfl h.d4) (pow_le h.n8)
theorem none_same {H H' : Hp} (sm : Same H H') {a : Addr} (h : H' a = none) : H a = none := by
  cases e : H a with
  | none => rfl
  | some o => rw [sm _ _ e] at h; cases h
theorem pick_len (row cs : List Int) : (pick row cs).length = cs.length := List.length_map ..
theorem pick_take {row cs : List Int} {i : Nat} {c : Int} (hc : cs[i]? = some c) : pick row (cs.take (i + 1)) = pick row (cs.take i) ++ [row.getD c.toNat 0] := by
  unfold pick
  rw [List.take_add_one, hc, List.map_append]
  rfl
def spLAnswers : Sp := fun vs H Q _ => ∃ u p, vs = [u] ∧ PzH H u p ∧ PzOk p ∧ ∀ l H', Same H H' → H l = none → LRows H' (.ref l) (answersOf p) → Q (.ref l) H'
section
variable {P : Program} {w : World} {K : PySem.W.Frag} {mg : Str → Option Value} {base : Heap} {f f1 f2 f3 : Addr} {fd fd1 fd2 fd3 : FuncData}
theorem ok_lanswers (B : Bl mg) (D : Df K mg "_law_answers" sLAnswers ["_law_puzzle"] f fd) (D1 : Df K mg "_law_rows" sRows ["_law_lots"] f1 fd1) (G1 : FnOk P w K mg base CX0 1 f1 fd1 ["_law_lots"] spRows)
    (D2 : Df K mg "_law_fits" sLFits ["_law_rule", "_law_values"] f2 fd2) (G2 : FnOk P w K mg base CX0 3 f2 fd2 ["_law_rule", "_law_values"] spLFits)
    (D3 : Df K mg "_law_scope" sScope ["_law_rule"] f3 fd3) (G3 : FnOk P w K mg base CX0 1 f3 fd3 ["_law_rule"] spCellsOf) : FnOk P w K mg base CX0 5 f fd ["_law_puzzle"] spLAnswers := by
  refine D.F.ok scLAnswers (fun vs H Q E h => ?_) (fun cdv A outer s H vs Q E hr h => ?_)
  · obtain ⟨u, p, rfl, _⟩ := h
    rfl
  · obtain ⟨u, p, rfl, hp, ok, k⟩ := h
    refine ⟨_, pss_cons (ps_set (i := 1) scLAnswers.nd rfl (.inl rfl) (pe_lst pa_nil))
      (pss_cons (ps_for PassesOwn.never rfl (pi_list (pe_call G1 (hr.mono (by decide)) (by rfl) D1.g D1.F.kp D1.b .nil pass0 (pa_cons (pe_ix ix_tup (pv 0) pe_int (fun _ _ => rfl)) pa_nil))) (pg_name (i := 2) scLAnswers.nd rfl (.inr rfl))
        (pss_one (ps_if (pt_val (pe_callB (cr_all rfl) (by rfl) B.all PyProof.Rows.boot_all (pa_cons
            (pe_lc (own := [("_law_rule", 3)]) rfl scLAnswers.nd (pi_tup (pe_ix ix_tup (pv 0) pe_int (fun _ _ => rfl))) (blkOk_by (N := ["_law_puzzle", "_law_found", "_law_row", "_law_rule", "_law_cell"]) (sc := defScope sLAnswers) (by decide +kernel)) (fun _ _ _ _ _ => pg_name (i := 3) scLAnswers.nd rfl (.inl rfl)) (fun _ _ _ _ _ => pts_nil)
              (fun _ _ _ _ _ => pe_call G2 (hr.mono (by decide)) (by rfl) D2.g D2.F.kp D2.b .nil pass0 (pa_cons (pv 3) (pa_cons
                (pe_lc (own := [("_law_cell", 4)]) rfl scLAnswers.nd (piT K (pe_call G3 (hr.mono (by decide)) (by rfl) D3.g D3.F.kp D3.b .nil pass0 (pa_cons (pv 3) pa_nil))) (blkOk_by rfl) (fun _ _ _ _ _ => pg_name (i := 4) scLAnswers.nd rfl (.inl rfl)) (fun _ _ _ _ _ => pts_nil)
                  (fun _ _ _ _ _ => pe_ix (ixT K) (pv 2) (pv 4) (fun _ _ => rfl))) pa_nil)))) pa_nil)))
          (pss_one (ps_expr (pe_bm PySem.F.plainAttrs_list PySem.F.slot_list_append PySem.F.type_list_append mt_append (pv 1) (pa_cons (pv 2) pa_nil)))) pss_nil)))
      (pss_one (ps_ret (pv 1)))), ?_⟩
    obtain ⟨a, x, y, rfl, ha, hx, hy⟩ := hp
    obtain ⟨yb, rvs, rfl, hyb, pr⟩ := hy
    refine ⟨by decide, fun F hF => ?_⟩
    have s0 : Same H (upd H F (.lst [])) := same_new hF
    refine ⟨_, rfl, a, _, 0, _, rfl, rfl, sqt (s0 _ _ ha), rfl, x, p.doms, rfl, .inl (hx.kt (kt_same s0)), ok.n8, ok.d4, fun R H1 s1 hRn hR => ?_⟩
    obtain ⟨R', vs, eR, hRl, pR⟩ := hR
    cases eR
    have nFR : F ≠ R := ne_of_none upd_same hRn
    have sm1 : Same H H1 := Same.tr s0 s1
    have vl := pR.length
    have rl := ok.rl
    have each := rowsOf_each _ p.doms rfl
    refine ⟨R, rfl, ⟨_, sql hRl⟩, for_it (walk_list (K := K) (xs := vs)) (fun i σ H' => ∃ ws o2 o3 o4, σ = [some (.ref a), some (.ref F), o2, o3, o4] ∧ H' F = some (.lst ws) ∧ Paired (IH H') ws (((rowsOf p.doms).take i).filter fun row => isAns p row) ∧ Same H H' ∧ H' R = some (.lst vs) ∧ Paired (IH H') vs (rowsOf p.doms))
      ⟨[], none, none, none, rfl, s1 _ _ upd_same, .nil, sm1, hRl, pR⟩ (fun i σ H' _ h => ?_) (fun i x σ H' H'' hi h y => ?_) (fun σ H' h => ?_)⟩
    · obtain ⟨_, _, _, _, _, _, _, _, h1, _⟩ := h
      exact sql h1
    · obtain ⟨rfl, hx2⟩ := y
      obtain ⟨ws, o2, o3, o4, rfl, hFw, pW, sm, hR2, pR2⟩ := h
      obtain ⟨row, hrow, irow⟩ := paired_at pR2 hx2
      have r8 : row.length = p.doms.length := each row (List.mem_of_getElem? hrow)
      have n8 := ok.n8
      have tk : (rowsOf p.doms).take (i + 1) = (rowsOf p.doms).take i ++ [row] := by rw [List.take_add_one, hrow]; rfl
      have wl : ws.length ≤ 65536 := by
        rw [pW.length]
        refine Nat.le_trans (List.length_filter_le _ _) ?_
        rw [List.length_take]
        omega
      refine ⟨_, rfl, a, _, 1, _, rfl, rfl, sqt (sm _ _ ha), rfl, yb, rfl, ⟨_, sqt (sm _ _ hyb)⟩, fun L hL => ?_⟩
      have nFL : F ≠ L := ne_of_none hFw hL
      have rvl := pr.length
      refine lc_it (walk_tup (xs := rvs)) (fun j H3 => H3 L = some (.lst (((allFit (p.rules.take j) row)).map V.bl)) ∧ ∀ b o, b ≠ L → H'' b = some o → H3 b = some o) ⟨upd_same, fun b o hb e => by rw [upd_ne hb]; exact e⟩ (fun j H3 _ h => ?_) (fun j x H3 H4 hj h y => ?_) (fun H3 h => ?_)
      · exact sqt (h.2 _ _ (ne_of_none (sm _ _ hyb) hL) (sm _ _ hyb))
      · obtain ⟨rfl, hx3⟩ := y
        obtain ⟨hL3, kp⟩ := h
        obtain ⟨r, hr1, ir0⟩ := paired_at pr hx3
        have hrm : r ∈ p.rules := List.mem_of_getElem? hr1
        have nLH : H L = none := none_same sm hL
        have smL : Same H H4 := fun b o e => kp b o (fun z => by rw [z, nLH] at e; cases e) (sm b o e)
        have ir := ir0.kt (kt_same smL)
        obtain ⟨ra, rfl, hra⟩ := irow
        have hra4 : H4 ra = some (.tup (row.map V.int)) := kp _ _ (ne_of_none hra hL) hra
        refine ⟨rfl, _, rfl, _, rfl, x, r, rfl, ir, fun w5 H5 s5 hw5 => ?_⟩
        obtain ⟨ca, rfl, hca⟩ := hw5
        refine ⟨ca, rfl, ⟨_, sqt hca⟩, fun M hM => ?_⟩
        have hc : ∀ c ∈ Rul.cells r, 0 ≤ c ∧ c < (row.length : Int) := fun c hm => by rw [r8]; exact ok.cell r hrm c hm
        have c100 : (Rul.cells r).length ≤ 100 := (ok.small r hrm).2.1
        refine lc_it (walk_tup (xs := (Rul.cells r).map V.int)) (fun m H6 => H6 = upd H5 M (.lst ((pick row ((Rul.cells r).take m)).map V.int))) rfl (fun m H6 _ h => ?_) (fun m x H6 H7 hm h y => ?_) (fun H6 h => ?_)
        · subst h
          exact sqt (upd_at hM hca)
        · obtain ⟨rfl, hx6⟩ := y
          obtain ⟨c, hc6, rfl⟩ := at_ints hx6
          subst h
          refine ⟨rfl, _, rfl, _, rfl, ra, _, c, _, rfl, rfl, sqt (upd_at hM (s5 _ _ hra4)), pick_at hc (List.mem_of_getElem? hc6), _, upd_same, ?_, ?_⟩
          · rw [List.length_map, pick_len, List.length_take, sizeLine_eq]
            omega
          · rw [upd_upd, pick_take hc6, List.map_append]
            rfl
        · rw [List.length_map, List.take_length] at h
          subst h
          have s6 : Same H4 (upd H5 M (.lst ((pick row (Rul.cells r)).map V.int))) := Same.tr s5 (same_new hM)
          refine ⟨x, r, .ref M, pick row (Rul.cells r), rfl, ir.kt (kt_same s6), ⟨M, rfl, upd_same⟩, pick_len _ _, ok.small r hrm, fun H7 s7 => ?_⟩
          have s47 : Same H4 H7 := Same.tr s6 s7
          refine ⟨_, s47 _ _ hL3, ?_, ?_, fun b o hb e => by rw [upd_ne hb]; exact s47 _ _ (kp b o hb e)⟩
          · have r100 := ok.r100
            unfold allFit
            rw [List.length_map, List.length_map, List.length_take, sizeLine_eq]
            omega
          · rw [upd_same]
            unfold allFit
            rw [List.take_add_one, hr1, List.map_append, List.map_append]
            rfl
      · obtain ⟨hL3, kp⟩ := h
        rw [rvl, List.take_length] at hL3
        have nLH : H L = none := none_same sm hL
        have smL : Same H H3 := fun b o e => kp b o (fun z => by rw [z, nLH] at e; cases e) (sm b o e)
        refine ⟨L, _, rfl, sql hL3, _, rfl, ?_⟩
        have hF3 := kp _ _ nFL hFw
        have kt3 : ∀ b xs, H'' b = some (.tup xs) → H3 b = some (.tup xs) := fun b xs e => kp b _ (fun z => by rw [z, hL] at e; cases e) e
        have nLR : R ≠ L := ne_of_none hR2 hL
        by_cases e : isAns p row = true
        · refine ifT e ?_
          refine ⟨_, rfl, .inl ⟨rfl, _, sql hF3⟩, _, rfl, F, ws, x, rfl, rfl, hF3, by rw [sizeLine_eq]; omega, ?_⟩
          have nFR2 : R ≠ F := nFR.symm
          have ktF : ∀ b xs, H3 b = some (.tup xs) → (upd H3 F (.lst (ws ++ [x]))) b = some (.tup xs) := fun b xs e => by
            rw [upd_ne (fun z => by rw [z, hF3] at e; cases e)]
            exact e
          refine ⟨ws ++ [x], _, o3, o4, rfl, upd_same, ?_, fun b o eb => ?_, by rw [upd_ne nFR2]; exact kp _ _ nLR hR2, paired_mono (fun _ _ z => IH.kt ktF (IH.kt kt3 z)) pR2⟩
          · rw [tk, List.filter_append]
            have : [row].filter (fun row => isAns p row) = [row] := by simp [e]
            rw [this]
            exact paired_app (paired_mono (fun _ _ z => IH.kt ktF (IH.kt kt3 z)) pW) (paired_one (IH.kt ktF (IH.kt kt3 irow)))
          · rw [upd_ne (fun z => by rw [z, hF] at eb; cases eb)]
            exact smL b o eb
        · have e' : isAns p row = false := by simpa using e
          refine ifF e' ?_
          refine ⟨ws, _, o3, o4, rfl, hF3, ?_, smL, kp _ _ nLR hR2, paired_mono (fun _ _ => IH.kt kt3) pR2⟩
          rw [tk, List.filter_append]
          have : [row].filter (fun row => isAns p row) = [] := by simp [e']
          rw [this, List.append_nil]
          exact paired_mono (fun _ _ => IH.kt kt3) pW
    · obtain ⟨ws, o2, o3, o4, rfl, hFw, pW, sm, hR2, pR2⟩ := h
      rw [vl, List.take_length] at pW
      exact ⟨_, rfl, k F H' sm hF ⟨F, ws, rfl, hFw, pW⟩⟩
end
end G9

set_option Elab.async false
set_option linter.all false
set_option maxRecDepth 100000
set_option maxHeartbeats 4000000
/-! _row_lookup, _lets, _let_by_all -/
namespace G9
open PySem PySem.Spec PyProof.Rows L2 GX
/-- a row as a key -/
def keyOf' (row : List Int) : List Key := row.map Sum.inl
theorem keyOf_kV (row : List Int) : (keyOf' row).map kV = row.map V.int := by
  unfold keyOf'
  rw [List.map_map]
  rfl
theorem keyOf_inj {a b : List Int} (h : keyOf' a = keyOf' b) : a = b := by
  unfold keyOf' at h
  exact List.map_inj_right (fun _ _ => Sum.inl.inj) |>.mp h
/-- what a table is looked up in -/
def LookH (H : Hp) (v : V) : Rul → Prop
  | .table _ rows => ∃ d kvs, v = .ref d ∧ H d = some (.dT kvs) ∧ ∀ row : List Int, valV kvs (keyOf' row) = if row ∈ rows then some (.bl true) else none
  | _ => v = .non
theorem LookH.kb {H H' : Hp} (k : Kb H H') {v : V} : ∀ {r : Rul}, LookH H v r → LookH H' v r
  | .table _ _, ⟨d, kvs, e, q, z⟩ => ⟨d, kvs, e, k.1 _ _ (fun ps z => by cases z) q, z⟩
  | .unlike _, h => h
  | .sum _ _ _, h => h
  | .count _ _ _ _, h => h
  | .below _ _, h => h
  | .runs _ _, h => h
  | .joined _ _ _, h => h
theorem lookH_or {H : Hp} {d : V} : ∀ {r : Rul}, LookH H d r → d = .non ∨ ∃ cs rows d' kvs, r = .table cs rows ∧ d = .ref d' ∧ H d' = some (.dT kvs) ∧ ∀ row : List Int, valV kvs (keyOf' row) = if row ∈ rows then some (.bl true) else none
  | .table cs rows, ⟨d', kvs, e, q, z⟩ => .inr ⟨cs, rows, d', kvs, rfl, e, q, z⟩
  | .unlike _, h => .inl h
  | .sum _ _ _, h => .inl h
  | .count _ _ _ _, h => .inl h
  | .below _ _, h => .inl h
  | .runs _ _, h => .inl h
  | .joined _ _ _, h => .inl h
def spLookup : Sp := fun vs H Q _ => ∃ v r, vs = [v] ∧ RuH H v r ∧ TabLen r ∧ ∀ w H', Same H H' → LookH H' w r → Q w H'
def spLets : Sp := fun vs H Q _ => ∃ v d u r vals, vs = [v, d, u] ∧ RuH H v r ∧ LookH H d r ∧ IH H u vals ∧ (∀ c ∈ Rul.cells r, 0 ≤ c ∧ c < vals.length) ∧ Small r ∧ ∀ H', Same H H' → Q (.bl (fitsB r (pick vals (Rul.cells r)))) H'
section
variable {P : Program} {w : World} {K : PySem.W.Frag} {mg : Str → Option Value} {base : Heap} {f f1 f2 f3 : Addr} {fd fd1 fd2 fd3 : FuncData}
theorem ok_lookup (D : Df K mg "_row_lookup" sLookup ["rule"] f fd) : FnOk P w K mg base CX0 1 f fd ["rule"] spLookup := by
  refine D.F.ok scLookup (fun vs H Q E h => ?_) (fun cdv A outer s H vs Q E hr h => ?_)
  · obtain ⟨v, r, rfl, _⟩ := h
    rfl
  · obtain ⟨v, r, rfl, hru, tl, k⟩ := h
    have hu := hu_of hr
    refine ⟨_, pss_cons (ps_if (pt_cmpR op_ne (pe_ix ix_tup (pv 0) pe_int (fun _ _ => rfl)) pe_str (nomark _)) (pss_one (ps_ret pe_non)) pss_nil)
      (pss_one (ps_ret (pe_dcT (own := [("row", 1)]) (Nat.lt_of_succ_lt hu) rfl scLookup.nd (pi_tup (pe_ix ix_tup (pv 0) pe_int (fun _ _ => rfl))) (blkOk_by (N := ["rule", "row"]) (sc := defScope sLookup) (by decide +kernel))
        (fun _ _ _ _ _ => pg_name (i := 1) scLookup.nd rfl (.inl rfl)) (fun _ _ _ _ _ => pts_nil) (fun _ _ _ _ _ => pv 1) (fun _ _ _ _ _ => pe_bl)))), ?_⟩
    cases r with
    | table cs rows =>
      obtain ⟨a, x, y, rfl, q, i, j⟩ := hru
      obtain ⟨yb, rvs, rfl, hyb, pr⟩ := j
      refine ⟨_, rfl, a, _, 0, _, rfl, rfl, sqt q, rfl, rfl, _, rfl, ifF (by decide +kernel) ?_⟩
      refine ⟨_, rfl, a, _, 2, _, rfl, rfl, sqt q, rfl, yb, rfl, ⟨_, sqt hyb⟩, fun L hL => ?_⟩
      have rl := pr.length
      have t65 : rows.length ≤ 65536 := tl
      refine dcTW (walk_tup (xs := rvs)) (fun m H3 => ∃ kvs, H3 = upd H L (.dT kvs) ∧ kvs.length ≤ m ∧ ∀ row : List Int, valV kvs (keyOf' row) = if row ∈ rows.take m then some (.bl true) else none) ⟨[], rfl, Nat.le_refl _, fun row => by simp [valV]⟩ (fun m H3 _ h => ?_) (fun m x H3 H4 hm h y => ?_) (fun H3 h => ?_)
      · obtain ⟨kvs, rfl, _⟩ := h
        exact sqt (upd_at hL hyb)
      · obtain ⟨rfl, hx⟩ := y
        obtain ⟨kvs, rfl, kl, kv⟩ := h
        obtain ⟨row, hr1, ⟨b, rfl, hb⟩⟩ := paired_at pr hx
        refine ⟨rfl, _, rfl, kvs, keyOf' row, b, rfl, by rw [keyOf_kV]; exact upd_at hL hb, upd_same, by rw [sizeLine_eq]; omega, putK kvs (keyOf' row) (.bl true), upd_upd, Nat.le_trans (length_putK kvs _ _) (by omega), fun row2 => ?_⟩
        rw [valV_put, kv row2, List.take_add_one, hr1]
        by_cases e : row2 = row
        · subst e
          rw [if_pos rfl, if_pos (by simp)]
        · rw [if_neg (fun z => e (keyOf_inj z))]
          by_cases h2 : row2 ∈ rows.take m
          · rw [if_pos h2, if_pos (List.mem_append_left _ h2)]
          · rw [if_neg h2, if_neg (fun z => (List.mem_append.mp z).elim h2 (fun z => e (by simpa using z)))]
      · obtain ⟨kvs, rfl, kl, kv⟩ := h
        rw [rl, List.take_length] at kv
        exact k _ _ (same_new hL) ⟨L, kvs, rfl, upd_same, kv⟩
    | unlike cs | sum cs lo hi =>
      obtain ⟨a, x, rfl, q, i⟩ := hru
      exact ⟨_, rfl, a, _, 0, _, rfl, rfl, sqt q, rfl, rfl, _, rfl, ifT (by decide +kernel) (k _ _ (same_refl H) rfl)⟩
    | count cs vs lo hi | runs cs ls =>
      obtain ⟨a, x, y, rfl, q, i, _⟩ := hru
      exact ⟨_, rfl, a, _, 0, _, rfl, rfl, sqt q, rfl, rfl, _, rfl, ifT (by decide +kernel) (k _ _ (same_refl H) rfl)⟩
    | below p1 p2 =>
      obtain ⟨a, rfl, q⟩ := hru
      exact ⟨_, rfl, a, _, 0, _, rfl, rfl, sqt q, rfl, rfl, _, rfl, ifT (by decide +kernel) (k _ _ (same_refl H) rfl)⟩
    | joined cs ties vs =>
      obtain ⟨a, x, y, z, rfl, q, i, _⟩ := hru
      exact ⟨_, rfl, a, _, 0, _, rfl, rfl, sqt q, rfl, rfl, _, rfl, ifT (by decide +kernel) (k _ _ (same_refl H) rfl)⟩
theorem ok_lets (D : Df K mg "_lets" sLets ["rule", "rows", "values"] f fd) (D1 : Df K mg "values_under" sUnder ["rule", "values"] f1 fd1) (G1 : FnOk P w K mg base CX0 3 f1 fd1 ["rule", "values"] spUnder)
    (D2 : Df K mg "fits" sFits ["rule", "values"] f2 fd2) (G2 : FnOk P w K mg base CX0 5 f2 fd2 ["rule", "values"] spFits) : FnOk P w K mg base CX0 7 f fd ["rule", "rows", "values"] spLets := by
  refine D.F.ok scLets (fun vs H Q E h => ?_) (fun cdv A outer s H vs Q E hr h => ?_)
  · obtain ⟨v, d, u, r, vals, rfl, _⟩ := h
    rfl
  · obtain ⟨v, d, u, r, vals, rfl, hru, hlk, hv, hc, sm, k⟩ := h
    have hu := hu_of hr
    refine ⟨_, pss_cons (ps_set (i := 3) scLets.nd rfl (.inl rfl) (pe_call G1 (hr.mono (by decide)) (by rfl) D1.g D1.F.kp D1.b .nil pass0 (pa_cons (pv 0) (pa_cons (pv 2) pa_nil))))
      (pss_cons (ps_if (pt_cmp (pc_isN (pv 1))) (pss_one (ps_ret (pe_call G2 (hr.mono (by decide)) (by rfl) D2.g D2.F.kp D2.b .nil pass0 (pa_cons (pv 0) (pa_cons (pv 3) pa_nil))))) pss_nil)
      (pss_one (ps_ret (pe_cmp (pc_din hu (pv 3) (pv 1)))))), ?_⟩
    refine ⟨_, rfl, _, rfl, v, r, u, vals, rfl, hru, hv, hc, by have := sm.2.1; omega, fun w1 H1 s1 hw1 => ?_⟩
    rcases lookH_or hlk with e | ⟨cs, rows, d', kvs, rfl, rfl, hd, hkv⟩
    · subst e
      refine ⟨_, rfl, _, rfl, ifT (by decide) ?_⟩
      refine ⟨_, rfl, _, rfl, v, r, w1, _, rfl, hru.kt (kt_same s1), hw1, pick_len _ _, sm, fun H2 s2 => k H2 (Same.tr s1 s2)⟩
    · refine ⟨_, rfl, _, rfl, ifF (decide_eq_false fun z => by cases z) ?_⟩
      obtain ⟨b, rfl, hb⟩ := hw1
      refine ⟨_, rfl, _, rfl, d', _, rfl, DGet.t (k := keyOf' (pick vals cs)) (s1 _ _ hd) (by rw [keyOf_kV]; exact hb), ?_⟩
      rw [hkv]
      have z := k H1 s1
      have e : fitsB (.table cs rows) (pick vals (Rul.cells (.table cs rows))) = decide (pick vals cs ∈ rows) := by simp only [fitsB]; rfl
      rw [e] at z
      by_cases h : pick vals cs ∈ rows
      · rw [if_pos h]
        rw [decide_eq_true h] at z
        exact z
      · rw [if_neg h]
        rw [decide_eq_false h] at z
        exact z
/-- rules, each with what it is looked up in -/
def DueH (H : Hp) (vs : List V) (rs : List Rul) : Prop := Paired (fun x r => ∃ t rv lv, x = V.ref t ∧ H t = some (.tup [rv, lv]) ∧ RuH H rv r ∧ LookH H lv r) vs rs
theorem DueH.kb {H H' : Hp} (k : Kb H H') {vs : List V} {rs : List Rul} (h : DueH H vs rs) : DueH H' vs rs := paired_mono (fun _ _ ⟨t, rv, lv, e, q, i, j⟩ => ⟨t, rv, lv, e, kt_kb k _ _ q, i.kt (kt_kb k), j.kb k⟩) h
theorem ndGen : (["rule", "rows", "values"] : List Str).Nodup := by decide +kernel
def atOr {α β : Type} (l : List α) (g : α → β) (z : β) (i : Nat) : β := (l[i]?.map g).getD z
theorem atOr_at {α β : Type} {l : List α} {g : α → β} {z : β} {i : Nat} {a : α} (h : l[i]? = some a) : atOr l g z i = g a := by
  unfold atOr
  rw [h]
  rfl
theorem range_map {α β : Type} (l : List α) (g : α → β) (z : β) : ((List.range l.length).map (atOr l g z)) = l.map g := by
  refine List.ext_getElem (by simp) fun i h1 h2 => ?_
  have hi : i < l.length := by simpa using h2
  simp [atOr, List.getElem?_eq_getElem hi]
def spByAll (pT : Addr) : Sp := fun vs H Q _ => ∃ d ds rs u vals, vs = [.ref d, u] ∧ H d = some (.lst ds) ∧ DueH H ds rs ∧ IH H u vals ∧ (∀ r ∈ rs, Small r ∧ ∀ c ∈ Rul.cells r, 0 ≤ c ∧ c < vals.length) ∧ GxR.TabG H pT ∧ ∀ H', Kb H H' → Q (.bl (rs.all fun r => fitsB r (pick vals (Rul.cells r)))) H'
theorem ok_byAll {c pT : Addr} (B : Bl mg) (TB : GxR.TabB base mg c pT) (F : FunC K "_let_by_all" "_let_by_all" sByAll f c fd) (D1 : Df K mg "_lets" sLets ["rule", "rows", "values"] f1 fd1) (G1 : FnOk P w K mg base CX0 7 f1 fd1 ["rule", "rows", "values"] spLets) : FnOk P w K mg base CX0 10 f fd ["due", "values"] (spByAll pT) := by
  refine F.ok scByAll (fun vs H Q E h => ?_) (fun A outer s H vs Q E hr h => ?_)
  · obtain ⟨d, ds, rs, u, vals, rfl, _⟩ := h
    rfl
  · obtain ⟨d, ds, rs, u, vals, rfl, hd, hds, hv, hok, hT, k⟩ := h
    refine ⟨_, pss_one (ps_ret (pe_allG (k := 8) (c := c) (P := pT) (N := ["rule", "rows", "values"]) (caps := [none, none, some 1]) hr (by rfl) B.all TB rfl ?S ?CP (pi_list (pv 0))
      (fun _ _ _ _ _ => pg_tupK K (n := 2) rfl (pgs_cons (pg_name (i := 0) ndGen rfl (.inl rfl)) (pgs_cons (pg_name (i := 1) ndGen rfl (.inl rfl)) pgs_nil)))
      (fun _ _ _ _ _ => pe_call G1 (gA_room (hr.mono (by decide))) (by rfl) D1.g D1.F.kp D1.b .nil pass0 (pa_cons (pv 0) (pa_cons (pv 1) (pa_cons (pv 2) pa_nil)))) (fun _ => rfl))), ?_⟩
    case S =>
      refine ⟨rfl, rfl, fun y hy => ?_, rfl, fun y hy hf => ?_⟩
      · rcases List.mem_cons.mp hy with z | hy
        · rw [z]; exact fun q => by cases q
        rcases List.mem_cons.mp hy with z | hy
        · rw [z]; exact fun q => by cases q
        rcases List.mem_cons.mp hy with z | hy
        · rw [z]; exact fun q => by cases q
        rcases List.mem_cons.mp hy with z | hy
        · rw [z]; exact fun q => by cases q
        rcases List.mem_cons.mp hy with z | hy
        · rw [z]; exact fun q => by cases q
        cases hy
      · rcases List.mem_cons.mp hy with z | hy
        · rw [z] at hf; cases hf
        rcases List.mem_cons.mp hy with z | hy
        · rw [z] at hf; cases hf
        rcases List.mem_cons.mp hy with z | hy
        · rw [z] at hf; cases hf
        rcases List.mem_cons.mp hy with z | hy
        · rw [z]; exact ⟨_, rfl⟩
        rcases List.mem_cons.mp hy with z | hy
        · rw [z] at hf; cases hf
        cases hy
    case CP =>
      refine ⟨rfl, fun i k x h1 h2 => ?_⟩
      match i, h1 with
      | 2, h1 =>
        cases h1
        cases h2
        exact ⟨rfl, .inl rfl, rfl⟩
    have dl := hds.length
    refine ⟨_, rfl, d, rfl, ⟨_, sql hd⟩, hT, fun H3 tb => ?_⟩
    have k3 : Kb H H3 := kb_tab hT tb
    refine ⟨rs.length, fun i σ' H' => ∃ o0 o1, σ' = [o0, o1, some u] ∧ Kb H H', atOr rs (fun r => fitsB r (pick vals (Rul.cells r))) true, ⟨none, none, rfl, k3⟩, fun i σ' H' hi hW => ?_, fun σ' H' hW => ?_, fun i σ' H' hi hW => ?_⟩
    · obtain ⟨o0, o1, rfl, kb⟩ := hW
      have hd' : H' d = some (.lst ds) := kb.1 _ _ (fun ps z => by cases z) hd
      refine ⟨⟨ds, ds[i]'(by omega), sql hd', List.getElem?_eq_getElem _⟩, fun x H'' y => ?_⟩
      obtain ⟨rfl, hx⟩ := y
      have hx' := hx ds (sql hd')
      obtain ⟨r, hr1, t, rv, lv, rfl, ht, hrv, hlv⟩ := paired_at (hds.kb kb) hx'
      have hrm : r ∈ rs := List.mem_of_getElem? hr1
      refine ⟨t, _, rfl, sqt ht, rfl, _, _, rfl, _, _, rfl, rfl, ?_⟩
      refine ⟨_, rfl, _, rfl, _, rfl, rv, lv, u, r, vals, rfl, hrv, hlv, hv.kt (kt_kb kb), (hok r hrm).2, (hok r hrm).1, fun H6 s6 => ⟨?_, _, _, rfl, kb.trans (kb_same s6)⟩⟩
      exact congrArg V.bl (atOr_at (g := fun r => fitsB r (pick vals (Rul.cells r))) (z := true) hr1).symm
    · obtain ⟨o0, o1, rfl, kb⟩ := hW
      exact ⟨ds, sql (kb.1 _ _ (fun ps z => by cases z) hd), Nat.le_of_eq dl⟩
    · obtain ⟨o0, o1, rfl, kb⟩ := hW
      have z := k H' kb
      have e : ((List.range rs.length).map (atOr rs (fun r => fitsB r (pick vals (Rul.cells r))) true)).all id = rs.all fun r => fitsB r (pick vals (Rul.cells r)) := by
        rw [range_map, List.all_map]
        rfl
      rw [← e] at z
      exact z
end
end G9

set_option Elab.async false
set_option linter.all false
set_option maxRecDepth 100000
set_option maxHeartbeats 4000000
/-! answers: what is found turn by turn -/
namespace G9
open PySem PySem.Spec PyProof.Rows L2 GX
theorem loopW {J : It} {n : Nat} {G : Hp → Prop} {Y : Nat → Hp → V → Hp → Prop} (w : Walk J n G Y) (Pv : Nat → Hp → Prop) {H0 : Hp} {Fin : Hp → Prop} {Tn : (Hp → Prop) → V → Hp → Prop} (h0 : Pv 0 H0) (hG : ∀ i H, i ≤ n → Pv i H → G H)
    (hs : ∀ i x H H', i < n → Pv i H → Y i H x H' → Tn (Pv (i + 1)) x H') (hd : ∀ H, Pv n H → Fin H) :
    ∃ W : Nat → Nat → Hp → Prop, (∃ m, W 0 m H0) ∧ ∀ i m H, W i m H → (J.stop i H ∧ Fin H) ∨ (J.go i H ∧ ∃ Nx : Hp → Prop, (∀ H', Nx H' → ∃ m', m' < m ∧ W (i + 1) m' H') ∧ ∀ x H', J.yld i H x H' → Tn Nx x H') := by
  refine ⟨fun i m H => m = n - i ∧ i ≤ n ∧ Pv i H, ⟨n, rfl, Nat.zero_le _, h0⟩, fun i m H ⟨em, hi, p⟩ => ?_⟩
  subst em
  by_cases hlt : i < n
  · exact .inr ⟨w.goes i H hlt (hG i H hi p), Pv (i + 1), fun H' p' => ⟨n - (i + 1), by omega, rfl, hlt, p'⟩, fun x H' y => hs i x H H' hlt p (w.yields i H x H' hlt (hG i H hi p) y)⟩
  · have e : i = n := by omega
    subst e
    exact .inl ⟨w.stops H (hG i H hi p), hd H p⟩
/-- the greatest -/
def maxL : List Int → Int
  | [] => 0
  | [a] => a
  | a :: b :: l => max a (maxL (b :: l))
theorem maxL_mem : ∀ {l : List Int}, l ≠ [] → maxL l ∈ l
  | [a], _ => List.mem_cons_self ..
  | a :: b :: l, _ => by
    unfold maxL
    rcases Int.le_total a (maxL (b :: l)) with h | h
    · rw [Int.max_eq_right h]
      exact List.mem_cons_of_mem _ (maxL_mem (by simp))
    · rw [Int.max_eq_left h]
      exact List.mem_cons_self ..
theorem maxL_ge : ∀ {l : List Int} {y : Int}, y ∈ l → y ≤ maxL l
  | [a], y, h => by rw [List.mem_singleton.mp h]; exact Int.le_refl _
  | a :: b :: l, y, h => by
    unfold maxL
    rcases List.mem_cons.mp h with z | z
    · rw [z]; exact Int.le_max_left ..
    · exact Int.le_trans (maxL_ge z) (Int.le_max_right ..)
theorem maxL_of {l : List Int} {m : Int} (h : m ∈ l) (g : ∀ y ∈ l, y ≤ m) : m = maxL l := by
  have h1 := maxL_ge h
  have h2 := g _ (maxL_mem (fun z => by rw [z] at h; cases h))
  omega
/-- all rules fit whose last cell is ahead of i -/
noncomputable def goodAt (p : Puz) (i : Nat) (row : List Int) : Bool := p.rules.all fun r => !decide (maxL (Rul.cells r) < (i : Int)) || fitsB r (pick row (Rul.cells r))
def dueAt (p : Puz) (i : Nat) : List Rul := p.rules.filter fun r => decide (maxL (Rul.cells r) = (i : Int))
noncomputable def dueFit (p : Puz) (i : Nat) (row : List Int) : Bool := (dueAt p i).all fun r => fitsB r (pick row (Rul.cells r))
noncomputable def foundAt (p : Puz) (i : Nat) : List (List Int) := (rowsOf (p.doms.take i)).filter fun row => goodAt p i row
theorem pick_ahead {q cs : List Int} {v : Int} (h : ∀ c ∈ cs, 0 ≤ c ∧ c < q.length) : pick (q ++ [v]) cs = pick q cs := by
  unfold pick
  refine List.map_congr_left fun c hc => ?_
  obtain ⟨h0, h1⟩ := h c hc
  rw [List.getD_eq_getElem?_getD, List.getD_eq_getElem?_getD, List.getElem?_append_left (by omega)]
theorem good_step {p : Puz} (ok : PzOk p) {i : Nat} {q : List Int} (hq : q.length = i) (v : Int) : goodAt p (i + 1) (q ++ [v]) = (goodAt p i q && dueFit p i (q ++ [v])) := by
  have key : ∀ r ∈ p.rules, maxL (Rul.cells r) < (i : Int) → pick (q ++ [v]) (Rul.cells r) = pick q (Rul.cells r) := fun r hr h => pick_ahead fun c hc => ⟨(ok.cell r hr c hc).1, by have := maxL_ge hc; omega⟩
  rw [Bool.eq_iff_iff, Bool.and_eq_true]
  unfold goodAt dueFit dueAt
  simp only [List.all_eq_true, List.mem_filter, decide_eq_true_eq, Bool.or_eq_true, Bool.not_eq_true', decide_eq_false_iff_not]
  constructor
  · intro h
    refine ⟨fun r hr => ?_, fun r ⟨hr, e⟩ => ?_⟩
    · by_cases z : maxL (Rul.cells r) < (i : Int)
      · rcases h r hr with w | w
        · exact absurd (show maxL (Rul.cells r) < ((i + 1 : Nat) : Int) by omega) w
        · rw [key r hr z] at w
          exact .inr w
      · exact .inl z
    · rcases h r hr with w | w
      · exact absurd (show maxL (Rul.cells r) < ((i + 1 : Nat) : Int) by omega) w
      · exact w
  · rintro ⟨h1, h2⟩ r hr
    by_cases z : maxL (Rul.cells r) < (i : Int)
    · rcases h1 r hr with w | w
      · exact absurd z w
      · rw [← key r hr z] at w
        exact .inr w
    · by_cases e : maxL (Rul.cells r) = (i : Int)
      · exact .inr (h2 r ⟨hr, e⟩)
      · exact .inl (by omega)
theorem grow_filter (A : List (List Int)) (d : List Int) (f g h : List Int → Bool) (H : ∀ q ∈ A, ∀ v ∈ d, h (q ++ [v]) = (f q && g (q ++ [v]))) : (grow (A.filter f) d).filter g = (grow A d).filter h := by
  induction A with
  | nil => rfl
  | cons a A ih =>
    have ihA := ih fun q hq => H q (List.mem_cons_of_mem _ hq)
    have e : ∀ (B : List (List Int)) (b : List Int), grow (b :: B) d = d.map (fun v => b ++ [v]) ++ grow B d := fun _ _ => rfl
    have one : (d.map fun v => a ++ [v]).filter h = if f a = true then (d.map fun v => a ++ [v]).filter g else [] := by
      by_cases fa : f a = true
      · rw [if_pos fa]
        refine List.filter_congr fun x hx => ?_
        obtain ⟨v, hv, rfl⟩ := List.mem_map.mp hx
        rw [H a (List.mem_cons_self ..) v hv, fa, Bool.true_and]
      · rw [if_neg fa]
        refine List.filter_eq_nil_iff.mpr fun x hx => ?_
        obtain ⟨v, hv, rfl⟩ := List.mem_map.mp hx
        rw [H a (List.mem_cons_self ..) v hv]
        simp [fa]
    by_cases fa : f a = true
    · rw [List.filter_cons_of_pos fa, e, e, List.filter_append, List.filter_append, ihA, one, if_pos fa]
    · rw [List.filter_cons_of_neg fa, e, List.filter_append, ihA, one, if_neg fa, List.nil_append]
theorem found_step {p : Puz} (ok : PzOk p) {i : Nat} {d : List Int} (hd : p.doms[i]? = some d) : foundAt p (i + 1) = (grow (foundAt p i) d).filter fun row => dueFit p i row := by
  have tk : p.doms.take (i + 1) = p.doms.take i ++ [d] := by rw [List.take_add_one, hd]; rfl
  have hi : i < p.doms.length := (List.getElem?_eq_some_iff.mp hd).1
  unfold foundAt
  rw [tk, rowsOf_snoc]
  refine (grow_filter _ _ _ _ _ fun q hq v hv => ?_).symm
  have hl := rowsOf_each _ (p.doms.take i) rfl q hq
  rw [List.length_take] at hl
  exact good_step ok (by omega) v
theorem found_start (p : Puz) (ok : PzOk p) : foundAt p 0 = [[]] := by
  unfold foundAt
  rw [List.take_zero]
  have : goodAt p 0 [] = true := by
    unfold goodAt
    rw [List.all_eq_true]
    intro r hr
    have := (ok.cell r hr _ (maxL_mem (ok.some r hr))).1
    simp
    exact .inl this
  show ([[]] : List (List Int)).filter _ = _
  simp [this]
theorem found_end (p : Puz) (ok : PzOk p) : foundAt p p.doms.length = answersOf p := by
  unfold foundAt answersOf
  rw [List.take_length]
  refine List.filter_congr fun row _ => ?_
  unfold goodAt isAns allFit
  rw [List.all_map]
  rw [Bool.eq_iff_iff]
  simp only [List.all_eq_true, Function.comp, id]
  refine forall_congr' fun r => forall_congr' fun hr => ?_
  have := (ok.cell r hr _ (maxL_mem (ok.some r hr))).2
  simp [this]
theorem rows_empty : ∀ (n : Nat) (ds : List (List Int)), ds.length = n → [] ∈ ds → rowsOf ds = []
  | 0, [], _, h => by cases h
  | n + 1, ds, h, hm => by
    have ne : ds ≠ [] := fun z => by rw [z] at h; cases h
    have e := List.dropLast_concat_getLast ne
    have hl : ds.dropLast.length = n := by rw [List.length_dropLast, h]; rfl
    rw [← e, rowsOf_snoc]
    rw [← e] at hm
    rcases List.mem_append.mp hm with z | z
    · rw [rows_empty n _ hl z]
      rfl
    · rw [← List.mem_singleton.mp z]
      unfold grow
      simp
theorem found_len {p : Puz} (ok : PzOk p) (i : Nat) (hi : i ≤ p.doms.length) : (foundAt p i).length ≤ 65536 := by
  refine Nat.le_trans (List.length_filter_le _ _) (Nat.le_trans (rowsOf_len _ _ rfl fun d hd => ok.d4 d (List.take_subset _ _ hd)) (pow_le ?_))
  rw [List.length_take]
  have := ok.n8
  omega
theorem found_each {p : Puz} (ok : PzOk p) {i : Nat} (hi : i ≤ p.doms.length) {r : List Int} (h : r ∈ foundAt p i) : r.length = i := by
  have := rowsOf_each _ (p.doms.take i) rfl r (List.mem_filter.mp h).1
  rw [List.length_take] at this
  omega
end G9

set_option Elab.async false
set_option linter.all false
set_option maxRecDepth 100000
set_option maxHeartbeats 4000000
/-! answers -/
namespace G9
open PySem PySem.Spec PyProof.Rows L2 GX
theorem maxK (K : PySem.W.Frag) {X : Cx} (hc : X.calm = true) (h : X.K = K := by rfl) : CallR X (.builtin "max") (fun vs H Q => ∃ (a : Addr) (ns : List Int), vs = [V.ref a] ∧ SqT K H a (ns.map V.int) ∧ 0 < ns.length ∧ ∀ m, m ∈ ns → (∀ y, y ∈ ns → y ≤ m) → Q (.int m) H) := h ▸ cr_maxT hc
/-- all but the object at L and the tables stays -/
def KbX (L : Addr) (H H' : Hp) : Prop := (∀ b o, b ≠ L → (∀ ps, o ≠ .tbl ps) → H b = some o → H' b = some o) ∧ ∀ P, GxR.TabG H P → GxR.TabG H' P
theorem KbX.begin {L : Addr} {H : Hp} {o : HO} (h : H L = none) : KbX L H (upd H L o) := ⟨fun b o' hb _ e => by rw [upd_ne hb]; exact e, fun P ⟨ps, e, t⟩ => ⟨ps, upd_at h e, t⟩⟩
theorem KbX.then {L : Addr} {A B C : Hp} (h : KbX L A B) (g : Kb B C) : KbX L A C := ⟨fun b o hb n e => g.1 b o n (h.1 b o hb n e), fun P e => g.2 P (h.2 P e)⟩
theorem KbX.put {L : Addr} {A B : Hp} {o xs : _} (h : KbX L A B) (hL : B L = some (.lst xs)) : KbX L A (upd B L (.lst o)) := ⟨fun b o' hb n e => by rw [upd_ne hb]; exact h.1 b o' hb n e, fun P e => by
  obtain ⟨ps, e2, t⟩ := h.2 P e
  exact ⟨ps, by rw [upd_ne (fun z => by rw [z, hL] at e2; cases e2)]; exact e2, t⟩⟩
theorem KbX.kb {L : Addr} {A B : Hp} (h : KbX L A B) (hL : A L = none) : Kb A B := ⟨fun b o n e => h.1 b o (fun z => by rw [z, hL] at e; cases e) n e, h.2⟩
theorem ktL {H : Hp} {L : Addr} {xs ys : List V} (h : H L = some (.lst xs)) : Kt H (upd H L (.lst ys)) := fun b zs e => by
  rw [upd_ne (fun z => by rw [z, h] at e; cases e)]
  exact e
def spAnswers (pT : Addr) : Sp := fun vs H Q _ => ∃ u p, vs = [u] ∧ PzH H u p ∧ PzOk p ∧ GxR.TabG H pT ∧ ∀ w H', Kb H H' → RowsH H' w (answersOf p) → Q w H'
section
variable {P : Program} {w : World} {K : PySem.W.Frag} {mg : Str → Option Value} {base : Heap} {f f1 f2 f3 : Addr} {fd fd1 fd2 fd3 : FuncData}
theorem ok_answers {pT : Addr} (B : Bl mg) (D : Df K mg "answers" sAnswers ["puzzle"] f fd) (D1 : Df K mg "_row_lookup" sLookup ["rule"] f1 fd1) (G1 : FnOk P w K mg base CX0 1 f1 fd1 ["rule"] spLookup)
    (D2 : Df K mg "cells_of" sCellsOf ["rule"] f2 fd2) (G2 : FnOk P w K mg base CX0 1 f2 fd2 ["rule"] spCellsOf) (D3 : Df K mg "_let_by_all" sByAll ["due", "values"] f3 fd3) (G3 : FnOk P w K mg base CX0 10 f3 fd3 ["due", "values"] (spByAll pT)) : FnOk P w K mg base CX0 12 f fd ["puzzle"] (spAnswers pT) := by
  refine D.F.ok scAnswers (fun vs H Q E h => ?_) (fun cdv A outer s H vs Q E hr h => ?_)
  · obtain ⟨u, p, rfl, _⟩ := h
    rfl
  · obtain ⟨u, p, rfl, hp, ok, hT, k⟩ := h
    have hu := hr.units
    refine ⟨_, pss_cons (ps_asg (pv 0) (pg_tupK K (n := 2) rfl (pgs_cons (pg_name (i := 1) scAnswers.nd rfl (.inl rfl)) (pgs_cons (pg_name (i := 2) scAnswers.nd rfl (.inl rfl)) pgs_nil))))
      (pss_cons (ps_if (pt_cmpR (inDD K hu) (pe_tup pa_nil) (pv 1) (by rfl)) (pss_one (ps_ret (pe_tup pa_nil))) pss_nil)
      (pss_cons (ps_set (i := 3) scAnswers.nd rfl (.inl rfl) (pe_lst (pa_cons (pe_tup pa_nil) pa_nil)))
      (pss_cons (ps_for PassesOwn.never rfl (pi_enumT (by rfl) B.enumerate (pa_cons (pv 1) pa_nil)) (pg_tupK K (n := 2) rfl (pgs_cons (pg_name (i := 4) scAnswers.nd rfl (.inr rfl)) (pgs_cons (pg_name (i := 5) scAnswers.nd rfl (.inr rfl)) pgs_nil)))
        (pss_cons (ps_set (i := 6) scAnswers.nd rfl (.inr rfl) (pe_lc (own := [("rule", 8)]) rfl scAnswers.nd (pi_tup (pv 2)) (blkOk_by (N := ["puzzle", "domains", "rules", "found", "c", "domain", "due", "tried", "rule", "ahead", "value", "values"]) (sc := defScope sAnswers) (by decide +kernel))
            (fun _ _ _ _ _ => pg_name (i := 8) scAnswers.nd rfl (.inl rfl)) (fun _ _ _ _ _ => pts_one (pt_cmpR op_eq (pe_callB (maxK K rfl) (by rfl) B.max PyProof.Rows.boot_max (pa_cons (pe_call G2 (hr.mono (by decide)) (by rfl) D2.g D2.F.kp D2.b .nil pass0 (pa_cons (pv 8) pa_nil)) pa_nil)) (pv 4) (nomark _)))
            (fun _ _ _ _ _ => pe_tup (pa_cons (pv 8) (pa_cons (pe_call G1 (hr.mono (by decide)) (by rfl) D1.g D1.F.kp D1.b .nil pass0 (pa_cons (pv 8) pa_nil)) pa_nil)))))
        (pss_cons (ps_setLc2 (i := 7) (own := [("ahead", 9), ("value", 10)]) (vs1 := [10]) rfl scAnswers.nd rfl rfl (sw_true rfl rfl rfl (by decide +kernel)) (pi_list (pv 3)) (blkOk_by (N := ["puzzle", "domains", "rules", "found", "c", "domain", "due", "tried", "rule", "ahead", "value", "values"]) (sc := defScope sAnswers) (by decide +kernel)) (by decide)
            (fun _ _ _ _ _ => pg_name (i := 9) scAnswers.nd rfl (.inl rfl)) (fun _ _ _ _ _ => pts_nil) (fun _ _ _ _ _ => piT K (pv 5)) (fun _ _ _ _ _ => pg_name (i := 10) scAnswers.nd rfl (.inl rfl)) (fun _ _ _ _ _ => pts_nil)
            (fun _ _ _ _ _ => pe_op (catA K) (pv 9) (pe_tup (pa_cons (pv 10) pa_nil))))
        (pss_one (ps_setLc (i := 3) (own := [("values", 11)]) rfl scAnswers.nd rfl rfl (sw_true rfl rfl rfl (by decide +kernel)) (pi_list (pv 7)) (blkOk_by (N := ["puzzle", "domains", "rules", "found", "c", "domain", "due", "tried", "rule", "ahead", "value", "values"]) (sc := defScope sAnswers) (by decide +kernel))
            (fun _ _ _ _ _ => pg_name (i := 11) scAnswers.nd rfl (.inl rfl)) (fun _ _ _ _ _ => pts_one (pt_val (pe_call G3 (hr.mono (by decide)) (by rfl) D3.g D3.F.kp D3.b .nil pass0 (pa_cons (pv 6) (pa_cons (pv 11) pa_nil))))) (fun _ _ _ _ _ => pv 11))))))
      (pss_one (ps_ret (pe_callTy call_tuple_of (by rfl) B.tuple PyProof.Rows.boot_tuple (pa_cons (pv 3) pa_nil))))))), ?_⟩
    obtain ⟨a, x, y, rfl, ha, hx, hy⟩ := hp
    obtain ⟨xa, xvs, rfl, hxa, px⟩ := hx
    obtain ⟨ya, rvs, rfl, hya, py⟩ := hy
    have xl := px.length
    have yl := py.length
    have n8 := ok.n8
    refine ⟨_, rfl, a, _, rfl, sqt ha, rfl, _, _, rfl, _, _, rfl, rfl, ?_⟩
    refine ⟨by decide, fun T hTn => ⟨_, rfl, dI [], p.doms.map dI, IH.dp ⟨T, rfl, upd_same⟩, .inl (RowsH.dp ⟨xa, xvs, rfl, upd_at hTn hxa, paired_mono (fun _ _ => IH.kt (kt_same (same_new hTn))) px⟩), cmp_dI [], canAll_rows _, _, rfl, ?_⟩⟩
    rw [GX.any_rows]
    by_cases em : [] ∈ p.doms
    · refine ifT (decide_eq_true em) ⟨by decide, fun T2 hT2 => k _ _ (kb_same (fun b o e => upd_at hT2 (upd_at hTn e))) ⟨T2, [], rfl, upd_same, ?_⟩⟩
      have : answersOf p = [] := by unfold answersOf; rw [rows_empty _ _ rfl em]; rfl
      rw [this]
      exact .nil
    refine ifF (decide_eq_false em) ⟨by decide, fun T0 hT0 => ⟨(show 1 ≤ sizeLine by decide), fun F0 hF0 => ?_⟩⟩
    have s0 : Same H (upd (upd (upd H T (.tup [])) T0 (.tup [])) F0 (.lst [.ref T0])) := fun b o e => upd_at hF0 (upd_at hT0 (upd_at hTn e))
    refine ⟨_, rfl, xa, xvs, rfl, sqt (s0 _ _ hxa), for_it (walk_enumT (K := K) (a := xa) (xs := xvs)) (fun i σ H' => ∃ F vs o4 o5 o6 o7 o8 o9 o10 o11, σ = [some (.ref a), some (.ref xa), some (.ref ya), some (.ref F), o4, o5, o6, o7, o8, o9, o10, o11] ∧ H' F = some (.lst vs) ∧ Paired (IH H') vs (foundAt p i) ∧ Kb H H')
      ⟨F0, [.ref T0], none, none, none, none, none, none, none, none, rfl, upd_same, by rw [found_start p ok]; exact paired_one ⟨T0, rfl, upd_at hF0 upd_same⟩, kb_same s0⟩ (fun i σ H' _ h => ?_) (fun i x σ H' H'' hi h y => ?_) (fun σ H' h => ?_)⟩
    · obtain ⟨F, vs, o4, o5, o6, o7, o8, o9, o10, o11, rfl, hF, pF, kb⟩ := h
      exact sqt (kt_kb kb _ _ hxa)
    · obtain ⟨F, vs, o4, o5, o6, o7, o8, o9, o10, o11, rfl, hF, pF, kb⟩ := h
      obtain ⟨T1, e1, dv, rfl, hT1, rfl, hi1, hdv⟩ := y
      cases hi1
      obtain ⟨d, hd1, id0⟩ := paired_at px hdv
      have il : i < p.doms.length := (List.getElem?_eq_some_iff.mp hd1).1
      have d4 : d.length ≤ 4 := ok.d4 d (List.mem_of_getElem? hd1)
      have kb1 : Kb H (upd H' T1 (.tup [.int (i : Nat), dv])) := kb.trans (kb_same (same_new hT1))
      have hF1 := upd_at (o := .tup [.int (i : Nat), dv]) hT1 hF
      have pF1 := paired_mono (fun _ _ => IH.kt (kt_same (same_new (o := .tup [.int (i : Nat), dv]) hT1))) pF
      refine ⟨T1, _, rfl, sqt upd_same, rfl, _, _, rfl, _, _, rfl, rfl, ?_⟩
      clear hF pF kb
      generalize upd H' T1 (.tup [.int (i : Nat), dv]) = H1 at kb1 hF1 pF1
      -- the rules that are due
      refine ⟨_, rfl, ya, rfl, ⟨_, sqt (kt_kb kb1 _ _ hya)⟩, fun L hL => ?_⟩
      have nFL : F ≠ L := ne_of_none hF1 hL
      refine lc_it (walk_tup (xs := rvs)) (fun m H3 => ∃ ds, H3 L = some (.lst ds) ∧ DueH H3 ds ((p.rules.take m).filter fun r => decide (maxL (Rul.cells r) = (i : Int))) ∧ ∀ b o, b ≠ L → H1 b = some o → H3 b = some o) ⟨[], upd_same, .nil, fun b o hb e => by rw [upd_ne hb]; exact e⟩ (fun m H3 _ h => ?_) (fun m x H3 H4 hm h y => ?_) (fun H3 h => ?_)
      · obtain ⟨ds, _, _, kp⟩ := h
        exact sqt (kp _ _ (ne_of_none (kt_kb kb1 _ _ hya) hL) (kt_kb kb1 _ _ hya))
      · obtain ⟨rfl, hx3⟩ := y
        obtain ⟨ds, hL3, hds, kp⟩ := h
        obtain ⟨r, hr1, ir0⟩ := paired_at py hx3
        have hrm : r ∈ p.rules := List.mem_of_getElem? hr1
        have kt1 : Kt H1 H4 := fun b zs e => kp b _ (fun z => by rw [z, hL] at e; cases e) e
        have ir : RuH H4 x r := (ir0.kt (kt_kb kb1)).kt kt1
        have dsl : ds.length ≤ 100 := by
          rw [hds.length]
          refine Nat.le_trans (List.length_filter_le _ _) ?_
          rw [List.length_take]
          have := ok.r100
          omega
        refine ⟨rfl, _, rfl, x, r, rfl, ir, fun w5 H5 s5 hw5 => ?_⟩
        obtain ⟨ca, rfl, hca⟩ := hw5
        refine ⟨ca, Rul.cells r, rfl, sqt hca, List.length_pos_iff.mpr (ok.some r hrm), fun mx hmx hge => ?_⟩
        have emx := maxL_of hmx hge
        subst emx
        refine ⟨_, rfl, rfl, _, rfl, ?_⟩
        have tk : (p.rules.take (m + 1)).filter (fun r => decide (maxL (Rul.cells r) = (i : Int))) = (p.rules.take m).filter (fun r => decide (maxL (Rul.cells r) = (i : Int))) ++ if maxL (Rul.cells r) = (i : Int) then [r] else [] := by
          rw [List.take_add_one, hr1, List.filter_append]
          by_cases e : maxL (Rul.cells r) = (i : Int) <;> simp [e]
        by_cases e : maxL (Rul.cells r) = (i : Int)
        · refine ifT (decide_eq_true (congrArg V.int e)) ?_
          refine ⟨_, rfl, _, rfl, x, r, rfl, ir.kt (kt_same s5), ok.tab r hrm, fun lv H6 s6 hlv => ⟨(show 2 ≤ sizeLine by decide), fun T2 hT2 => ?_⟩⟩
          have s46 : Same H4 (upd H6 T2 (.tup [x, lv])) := Same.tr s5 (Same.tr s6 (same_new hT2))
          refine ⟨ds, s46 _ _ hL3, by rw [sizeLine_eq]; omega, ds ++ [.ref T2], upd_same, ?_, fun b o hb eb => by rw [upd_ne hb]; exact s46 _ _ (kp b o hb eb)⟩
          rw [tk, if_pos e]
          have nT2 : T2 ≠ L := fun z => by
            have := s46 _ _ hL3
            rw [← z, upd_same] at this
            cases this
          have mv : ∀ {v : V} {r : Rul} {zs : List V}, LookH (upd H6 T2 (.tup [x, lv])) v r → LookH (upd (upd H6 T2 (.tup [x, lv])) L (.lst zs)) v r := fun {v r zs} h => by
            rcases lookH_or h with e | ⟨cs, rows, d', kvs, rfl, rfl, hd, hkv⟩
            · cases r with
              | table cs rows => subst e; obtain ⟨_, _, z, _⟩ := h; cases z
              | _ => exact e
            · exact ⟨d', kvs, rfl, by rw [upd_ne (fun z => by have := s46 _ _ hL3; rw [← z, hd] at this; cases this)]; exact hd, hkv⟩
          have ktl : ∀ {zs : List V}, Kt (upd H6 T2 (.tup [x, lv])) (upd (upd H6 T2 (.tup [x, lv])) L (.lst zs)) := fun {zs} => ktL (s46 _ _ hL3)
          refine paired_app (paired_mono (fun _ _ ⟨t, rv, lv', e1, e2, e3, e4⟩ => ⟨t, rv, lv', e1, ktl _ _ e2, e3.kt ktl, mv e4⟩) (hds.kb (kb_same s46))) (paired_one ⟨T2, x, lv, rfl, ktl _ _ upd_same, (ir.kt (kt_same s46)).kt ktl, mv (hlv.kb (kb_same (same_new hT2)))⟩)
        · refine ifF (decide_eq_false fun z => e (V.int.inj z)) ?_
          refine ⟨ds, s5 _ _ hL3, ?_, fun b o hb eb => s5 _ _ (kp b o hb eb)⟩
          rw [tk, if_neg e, List.append_nil]
          exact hds.kb (kb_same s5)
      obtain ⟨ds, hL3, hds, kp⟩ := h
      rw [yl, List.take_length] at hds
      have hdue : DueH H3 ds (dueAt p i) := hds
      have kt13 : Kt H1 H3 := fun b zs e => kp b _ (fun z => by rw [z, hL] at e; cases e) e
      have kb3 : Kb H1 H3 := ⟨fun b o _ e => kp b o (fun z => by rw [z, hL] at e; cases e) e, fun Pt ⟨ps, e, t⟩ => ⟨ps, kp _ _ (fun z => by rw [z, hL] at e; cases e) e, t⟩⟩
      have hF3 := kp _ _ nFL hF1
      have pF3 := paired_mono (fun _ _ => IH.kt kt13) pF1
      have kbH := kb1.trans kb3
      clear hds
      -- what is tried
      have fl := pF3.length
      have f65 := found_len ok i (Nat.le_of_lt il)
      have gl : ∀ m, (grow ((foundAt p i).take m) d).length ≤ 262144 := fun m => by
        rw [grow_len, List.length_take]
        exact Nat.le_trans (Nat.mul_le_mul (Nat.le_trans (Nat.min_le_right _ _) f65) d4) (by decide)
      have id3 : IH H3 dv d := (id0.kt (kt_kb kb1)).kt kt13
      obtain ⟨da, rfl, hda⟩ := id3
      refine ⟨_, rfl, F, rfl, ⟨_, sql hF3⟩, fun L2 hL2 => ?_⟩
      have nF2 : F ≠ L2 := ne_of_none hF3 hL2
      have n12 : L ≠ L2 := ne_of_none hL3 hL2
      refine loopW (walk_list (xs := vs)) (fun m H5 => ∃ us, H5 L2 = some (.lst us) ∧ Paired (IH H5) us (grow ((foundAt p i).take m) d) ∧ ∀ b o, b ≠ L2 → H3 b = some o → H5 b = some o) ⟨[], upd_same, .nil, fun b o hb e => by rw [upd_ne hb]; exact e⟩ (fun m H5 _ h => ?_) (fun m x H5 H6 hm h y => ?_) (fun H5 h => ?_)
      · obtain ⟨us, _, _, kp2⟩ := h
        exact sql (kp2 _ _ nF2 hF3)
      · obtain ⟨rfl, hx5⟩ := y
        obtain ⟨us, hU, pU, kp2⟩ := h
        obtain ⟨q, hq1, iq⟩ := paired_at pF3 hx5
        have ql : q.length = i := found_each ok (Nat.le_of_lt il) (List.mem_of_getElem? hq1)
        have kt2 : ∀ {Hx : Hp}, (∀ b o, b ≠ L2 → H3 b = some o → Hx b = some o) → Kt H3 Hx := fun z b zs e => z b _ (fun z => by rw [z, hL2] at e; cases e) e
        refine ⟨rfl, _, rfl, da, rfl, ⟨_, sqt (kt2 kp2 _ _ hda)⟩, ?_⟩
        refine loopW (walk_tup (xs := d.map V.int)) (fun j H7 => ∃ us, H7 L2 = some (.lst us) ∧ Paired (IH H7) us (grow ((foundAt p i).take m) d ++ (d.take j).map fun v => q ++ [v]) ∧ ∀ b o, b ≠ L2 → H3 b = some o → H7 b = some o) ⟨us, hU, by rw [List.take_zero, List.map_nil, List.append_nil]; exact pU, kp2⟩ (fun j H7 _ h => ?_) (fun j x3 H7 H8 hj h y => ?_) (fun H7 h => ?_)
        · obtain ⟨_, _, _, kp3⟩ := h
          exact sqt (kt2 kp3 _ _ hda)
        · obtain ⟨rfl, hx7⟩ := y
          obtain ⟨us2, hU2, pU2, kp3⟩ := h
          obtain ⟨v, hv1, rfl⟩ := at_ints hx7
          refine ⟨rfl, _, rfl, _, rfl, (show 1 ≤ sizeLine by decide), fun T3 hT3 => ?_⟩
          refine cat_row ((iq.kt (kt2 kp3)).kt (kt_same (same_new hT3))) upd_same (by omega) fun w9 H9 s9 hw9 => ?_
          have s89 : Same H8 H9 := Same.tr (same_new hT3) s9
          have ul2 := pU2.length
          rw [List.length_append, List.length_map, List.length_take] at ul2
          have := gl m
          refine ⟨us2, s89 _ _ hU2, by rw [sizeLine_eq]; omega, us2 ++ [w9], upd_same, ?_, fun b o hb e => by rw [upd_ne hb]; exact s89 _ _ (kp3 b o hb e)⟩
          have tk3 : (d.take (j + 1)).map (fun v => q ++ [v]) = (d.take j).map (fun v => q ++ [v]) ++ [q ++ [v]] := by rw [List.take_add_one, hv1]; simp
          rw [tk3, ← List.append_assoc]
          exact paired_app (paired_mono (fun _ _ z => IH.kt (ktL (s89 _ _ hU2)) (IH.kt (kt_same s89) z)) pU2) (paired_one (hw9.kt (ktL (s89 _ _ hU2))))
        · obtain ⟨us2, hU2, pU2, kp3⟩ := h
          rw [List.length_map, List.take_length] at pU2
          have tk2 : (foundAt p i).take (m + 1) = (foundAt p i).take m ++ [q] := by rw [List.take_add_one, hq1]; rfl
          have g2 : grow ((foundAt p i).take (m + 1)) d = grow ((foundAt p i).take m) d ++ d.map fun v => q ++ [v] := by rw [tk2]; unfold grow; rw [List.flatMap_append]; simp
          exact ⟨us2, hU2, by rw [g2]; exact pU2, kp3⟩
      obtain ⟨us, hU, pU, kp2⟩ := h
      rw [fl, List.take_length] at pU
      have kt35 : Kt H3 H5 := fun b zs e => kp2 b _ (fun z => by rw [z, hL2] at e; cases e) e
      have kb5 : Kb H3 H5 := ⟨fun b o _ e => kp2 b o (fun z => by rw [z, hL2] at e; cases e) e, fun Pt ⟨ps, e, t⟩ => ⟨ps, kp2 _ _ (fun z => by rw [z, hL2] at e; cases e) e, t⟩⟩
      have kbH5 := kbH.trans kb5
      have hdue5 := hdue.kb kb5
      have hL5 := kp2 _ _ n12 hL3
      have ul := pU.length
      have tl : (grow (foundAt p i) d).length ≤ 262144 := by
        have := gl (foundAt p i).length
        rw [List.take_length] at this
        exact this
      -- what is found
      refine ⟨_, rfl, L2, rfl, ⟨_, sql hU⟩, fun L3 hL4 => ?_⟩
      have n23 : L2 ≠ L3 := ne_of_none hU hL4
      have n13 : L ≠ L3 := ne_of_none hL5 hL4
      have nt : ∀ {xs : List V} (ps : Array Value), (HO.lst xs) ≠ .tbl ps := fun ps z => by cases z
      refine lc_it (walk_list (xs := us)) (fun m H6 => ∃ ws, H6 L3 = some (.lst ws) ∧ Paired (IH H6) ws (((grow (foundAt p i) d).take m).filter fun row => dueFit p i row) ∧ KbX L3 H5 H6) ⟨[], upd_same, .nil, KbX.begin hL4⟩ (fun m H6 _ h => ?_) (fun m x H6 H7 hm h y => ?_) (fun H6 h => ?_)
      · obtain ⟨ws, _, _, kx⟩ := h
        exact sql (kx.1 _ _ n23 nt hU)
      · obtain ⟨rfl, hx6⟩ := y
        obtain ⟨ws, hW, pW, kx⟩ := h
        have k57 := kx.kb hL4
        obtain ⟨row, hr1, irow⟩ := paired_at pU hx6
        obtain ⟨q, hq, v, hv, erow⟩ := mem_grow.mp (List.mem_of_getElem? hr1)
        have rowl : row.length = i + 1 := by rw [erow, List.length_append, found_each ok (Nat.le_of_lt il) hq]; rfl
        have irow7 := irow.kt (kt_kb k57)
        refine ⟨rfl, _, rfl, _, rfl, L, ds, dueAt p i, x, row, rfl, k57.1 _ _ nt hL5, hdue5.kb k57, irow7, fun r hr => ?_, (kbH5.trans k57).2 _ hT, fun H8 k8 => ⟨_, rfl, ?_⟩⟩
        · obtain ⟨hr2, e⟩ := List.mem_filter.mp hr
          have e : maxL (Rul.cells r) = (i : Int) := by simpa using e
          exact ⟨ok.small r hr2, fun c hc => ⟨(ok.cell r hr2 c hc).1, by have := maxL_ge hc; omega⟩⟩
        have tk3 : (grow (foundAt p i) d).take (m + 1) = (grow (foundAt p i) d).take m ++ [row] := by rw [List.take_add_one, hr1]; rfl
        have hW8 := k8.1 _ _ nt hW
        have wl : ws.length ≤ 262144 := by
          rw [pW.length]
          refine Nat.le_trans (List.length_filter_le _ _) ?_
          rw [List.length_take]
          omega
        by_cases e : dueFit p i row = true
        · refine ifT e ⟨_, rfl, ws, hW8, by rw [sizeLine_eq]; omega, ws ++ [x], upd_same, ?_, (kx.then k8).put hW8⟩
          rw [tk3, List.filter_append]
          have : [row].filter (fun row => dueFit p i row) = [row] := by simp [e]
          rw [this]
          exact paired_app (paired_mono (fun _ _ z => IH.kt (ktL hW8) (IH.kt (kt_kb k8) z)) pW) (paired_one (IH.kt (ktL hW8) (IH.kt (kt_kb k8) irow7)))
        · have e' : dueFit p i row = false := by simpa using e
          refine ifF e' ⟨ws, hW8, ?_, kx.then k8⟩
          rw [tk3, List.filter_append]
          have : [row].filter (fun row => dueFit p i row) = [] := by simp [e']
          rw [this, List.append_nil]
          exact paired_mono (fun _ _ => IH.kt (kt_kb k8)) pW
      obtain ⟨ws, hW, pW, kx⟩ := h
      rw [ul, List.take_length, ← found_step ok hd1] at pW
      exact ⟨L3, ws, some (.int ((i : Nat) : Int)), some (.ref da), some (.ref L), some (.ref L2), o8, o9, o10, o11, rfl, hW, pW, kbH5.trans (kx.kb hL4)⟩
    · obtain ⟨F, vs, o4, o5, o6, o7, o8, o9, o10, o11, rfl, hF, pF, kb⟩ := h
      rw [xl, found_end p ok] at pF
      refine ⟨_, rfl, F, vs, rfl, .inl ⟨sql hF, fun T9 hT9 => ?_⟩⟩
      exact k _ _ (kb.trans (kb_same (same_new hT9))) ⟨T9, vs, rfl, upd_same, paired_mono (fun _ _ => IH.kt (kt_same (same_new hT9))) pF⟩
end
end G9

set_option Elab.async false
set_option linter.all false
set_option maxRecDepth 100000
set_option maxHeartbeats 4000000
/-! answer_count, first_answer; cut_to, narrowed -/
namespace G9
open PySem PySem.Spec PyProof.Rows L2 GX
/-- each domain changed by its number -/
def idxMap (g : Nat → List Int → List Int) : Nat → List (List Int) → List (List Int)
  | _, [] => []
  | k, d :: ds => g k d :: idxMap g (k + 1) ds
theorem idxMap_snoc (g : Nat → List Int → List Int) : ∀ (k : Nat) (ds : List (List Int)) (d : List Int), idxMap g k (ds ++ [d]) = idxMap g k ds ++ [g (k + ds.length) d]
  | k, [], d => rfl
  | k, e :: ds, d => by
    show g k e :: idxMap g (k + 1) (ds ++ [d]) = g k e :: idxMap g (k + 1) ds ++ [g (k + (ds.length + 1)) d]
    rw [idxMap_snoc g (k + 1) ds d, show k + 1 + ds.length = k + (ds.length + 1) by omega]
    rfl
theorem idxMap_len (g : Nat → List Int → List Int) : ∀ (k : Nat) (ds : List (List Int)), (idxMap g k ds).length = ds.length
  | k, [] => rfl
  | k, e :: ds => congrArg (· + 1) (idxMap_len g (k + 1) ds)
def valOf (f : List (Int × Int)) (c : Int) : Option Int := (f.find? fun p => decide (p.1 = c)).map (·.2)
def cutD (f : List (Int × Int)) (c : Nat) (d : List Int) : List Int := match valOf f (c : Int) with
  | some v => [v]
  | none => d
def cutP (p : Puz) (f : List (Int × Int)) : Puz := ⟨idxMap (cutD f) 0 p.doms, p.rules⟩
def nar1 (kept : List (List Int)) (c : Nat) (d : List Int) : List Int := d.filter fun v => decide (v ∈ kept.getD c [])
def narP (p : Puz) (kept : List (List Int)) : Puz := ⟨idxMap (nar1 kept) 0 p.doms, p.rules⟩
def spCut : Sp := fun vs H Q _ => ∃ u p fv f, vs = [u, fv] ∧ PzH H u p ∧ RowsH H fv (f.map tie2) ∧ (f.map (·.1)).Nodup ∧ f.length ≤ 1000 ∧ p.doms.length ≤ 1000 ∧ ∀ w H', Same H H' → PzH H' w (cutP p f) → Q w H'
def spNar : Sp := fun vs H Q _ => ∃ u p kv kept, vs = [u, kv] ∧ PzH H u p ∧ RowsH H kv kept ∧ kept.length = p.doms.length ∧ p.doms.length ≤ 1000 ∧ (∀ d ∈ p.doms, d.length ≤ 1000) ∧ ∀ w H', Same H H' → PzH H' w (narP p kept) → Q w H'
def spCount (pT : Addr) : Sp := fun vs H Q _ => ∃ u p, vs = [u] ∧ PzH H u p ∧ PzOk p ∧ GxR.TabG H pT ∧ ∀ H', Kb H H' → Q (.int ((answersOf p).length : Nat)) H'
def spFirst (pT : Addr) : Sp := fun vs H Q _ => ∃ u p, vs = [u] ∧ PzH H u p ∧ PzOk p ∧ GxR.TabG H pT ∧ ∀ w H', Kb H H' → (match answersOf p with | [] => w = .non | r :: _ => IH H' w r) → Q w H'
/-- what is given, as a dict under way -/
def GivH (H : Hp) (kvs : List (Key × V)) (f : List (Int × Int)) : Prop := Paired (fun kv p => kv.1 = .inl p.1 ∧ IH H kv.2 [p.2]) kvs f
theorem giv_val {H : Hp} : ∀ {kvs : List (Key × V)} {f : List (Int × Int)}, GivH H kvs f → ∀ c : Int, (valV kvs (.inl c) = none ∧ valOf f c = none) ∨ ∃ x v, valV kvs (.inl c) = some x ∧ valOf f c = some v ∧ IH H x [v]
  | _, _, .nil, c => .inl ⟨rfl, rfl⟩
  | (_, x) :: kvs, p :: f, .cons ⟨e, i⟩ r, c => by
    cases e
    by_cases h : p.1 = c
    · subst h
      exact .inr ⟨x, p.2, valV_pos rfl, by unfold valOf; rw [List.find?_cons_of_pos (by simp)]; rfl, i⟩
    · have e1 : valV (((Sum.inl p.1 : Key), x) :: kvs) (.inl c) = valV kvs (.inl c) := valV_neg (fun z => h (Sum.inl.inj z))
      have e2 : valOf (p :: f) c = valOf f c := by unfold valOf; rw [List.find?_cons_of_neg (by simp [h])]
      rw [e1, e2]
      exact giv_val r c
theorem giv_none {H : Hp} {kvs : List (Key × V)} {f : List (Int × Int)} (h : GivH H kvs f) {c : Int} (hc : c ∉ f.map (·.1)) : valV kvs (.inl c) = none := by
  rcases giv_val h c with z | ⟨x, v, _, z, _⟩
  · exact z.1
  · unfold valOf at z
    cases e : f.find? (fun p => decide (p.1 = c)) with
    | none => rw [e] at z; cases z
    | some q =>
      have := List.find?_some e
      have hm := List.mem_of_find?_eq_some e
      exact absurd (List.mem_map.mpr ⟨q, hm, by simpa using this⟩) hc
section
variable {P : Program} {w : World} {K : PySem.W.Frag} {mg : Str → Option Value} {base : Heap} {f f1 f2 f3 : Addr} {fd fd1 fd2 fd3 : FuncData} {pT : Addr}
theorem ok_count (B : Bl mg) (D : Df K mg "answer_count" sCount ["puzzle"] f fd) (D1 : Df K mg "answers" sAnswers ["puzzle"] f1 fd1) (G1 : FnOk P w K mg base CX0 12 f1 fd1 ["puzzle"] (spAnswers pT)) : FnOk P w K mg base CX0 14 f fd ["puzzle"] (spCount pT) := by
  refine D.F.ok scCount (fun vs H Q E h => ?_) (fun cdv A outer s H vs Q E hr h => ?_)
  · obtain ⟨u, p, rfl, _⟩ := h
    rfl
  · obtain ⟨u, p, rfl, hp, ok, hT, k⟩ := h
    refine ⟨_, pss_one (ps_ret (pe_callB call_len_seq (by rfl) B.len PySem.boot_len (pa_cons (pe_call G1 (hr.mono (by decide)) (by rfl) D1.g D1.F.kp D1.b .nil pass0 (pa_cons (pv 0) pa_nil)) pa_nil))), ?_⟩
    refine ⟨_, rfl, u, p, rfl, hp, ok, hT, fun w1 H1 k1 h1 => ?_⟩
    obtain ⟨a, vs, rfl, ha, pa⟩ := h1
    refine ⟨a, vs, rfl, .inr (sqt ha), ?_⟩
    rw [pa.length]
    exact k H1 k1
theorem ok_first (B : Bl mg) (D : Df K mg "first_answer" sFirst ["puzzle"] f fd) (D1 : Df K mg "answers" sAnswers ["puzzle"] f1 fd1) (G1 : FnOk P w K mg base CX0 12 f1 fd1 ["puzzle"] (spAnswers pT)) : FnOk P w K mg base CX0 14 f fd ["puzzle"] (spFirst pT) := by
  refine D.F.ok scFirst (fun vs H Q E h => ?_) (fun cdv A outer s H vs Q E hr h => ?_)
  · obtain ⟨u, p, rfl, _⟩ := h
    rfl
  · obtain ⟨u, p, rfl, hp, ok, hT, k⟩ := h
    refine ⟨_, pss_cons (ps_set (i := 1) scFirst.nd rfl (.inl rfl) (pe_call G1 (hr.mono (by decide)) (by rfl) D1.g D1.F.kp D1.b .nil pass0 (pa_cons (pv 0) pa_nil)))
      (pss_cons (ps_if (pt_cmpR op_eq (pe_callB call_len_seq (by rfl) B.len PySem.boot_len (pa_cons (pv 1) pa_nil)) pe_int (nomark _)) (pss_one (ps_ret pe_non)) pss_nil)
      (pss_one (ps_ret (pe_ix ix_tup (pv 1) pe_int (fun _ _ => rfl))))), ?_⟩
    refine ⟨_, rfl, u, p, rfl, hp, ok, hT, fun w1 H1 k1 h1 => ?_⟩
    obtain ⟨a, vs, rfl, ha, pa⟩ := h1
    refine ⟨_, rfl, a, vs, rfl, .inr (sqt ha), rfl, _, rfl, ?_⟩
    have k' := k
    cases e : answersOf p with
    | nil =>
      rw [e] at pa
      cases pa
      refine ifT rfl (k .non H1 k1 ?_)
      rw [e]
    | cons r rest =>
      rw [e] at pa
      cases pa with
      | cons i0 pr =>
        refine ifF (decide_eq_false fun z => by have := V.int.inj z; simp at this; omega) ?_
        refine ⟨_, rfl, a, _, 0, _, rfl, rfl, sqt ha, L2.atI_nat (j := 0) rfl, k _ H1 k1 ?_⟩
        rw [e]
        exact i0
theorem ok_cut (B : Bl mg) (D : Df K mg "cut_to" sCutTo ["puzzle", "f"] f fd) : FnOk P w K mg base CX0 1 f fd ["puzzle", "f"] spCut := by
  refine D.F.ok scCutTo (fun vs H Q E h => ?_) (fun cdv A outer s H vs Q E hr h => ?_)
  · obtain ⟨u, p, fv, fs, rfl, _⟩ := h
    rfl
  · obtain ⟨u, p, fv, fs, rfl, hp, hf, nd, fl, dl, k⟩ := h
    have hu := hu_of hr
    refine ⟨_, pss_cons (ps_set (i := 2) scCutTo.nd rfl (.inr rfl) (pe_dc (own := [("cell", 5), ("value", 6)]) rfl scCutTo.nd (pi_tup (pv 1)) (blkOk_by (N := ["puzzle", "f", "given", "domains", "rules", "cell", "value", "c", "domain"]) (sc := defScope sCutTo) (by decide +kernel))
        (fun _ _ _ _ _ => pg_tupK K (n := 2) rfl (pgs_cons (pg_name (i := 5) scCutTo.nd rfl (.inl rfl)) (pgs_cons (pg_name (i := 6) scCutTo.nd rfl (.inl rfl)) pgs_nil))) (fun _ _ _ _ _ => pts_nil) (fun _ _ _ _ _ => pv 5) (fun _ _ _ _ _ => pe_tup (pa_cons (pv 6) pa_nil))))
      (pss_cons (ps_asg (pv 0) (pg_tupK K (n := 2) rfl (pgs_cons (pg_name (i := 3) scCutTo.nd rfl (.inl rfl)) (pgs_cons (pg_name (i := 4) scCutTo.nd rfl (.inl rfl)) pgs_nil))))
      (pss_one (ps_ret (pe_tup (pa_cons (pe_callTy call_tuple_of (by rfl) B.tuple PyProof.Rows.boot_tuple (pa_cons
        (pe_lc (own := [("c", 7), ("domain", 8)]) rfl scCutTo.nd (pi_enumT (by rfl) B.enumerate (pa_cons (pv 3) pa_nil)) (blkOk_by (N := ["puzzle", "f", "given", "domains", "rules", "cell", "value", "c", "domain"]) (sc := defScope sCutTo) (by decide +kernel))
          (fun _ _ _ _ _ => pg_tupK K (n := 2) rfl (pgs_cons (pg_name (i := 7) scCutTo.nd rfl (.inl rfl)) (pgs_cons (pg_name (i := 8) scCutTo.nd rfl (.inl rfl)) pgs_nil))) (fun _ _ _ _ _ => pts_nil)
          (fun _ _ _ _ _ => pe_dget2 hu (pv 2) (pv 7) (pv 8) ⟨rfl, rfl, rfl, rfl⟩)) pa_nil)) (pa_cons (pv 4) pa_nil)))))), ?_⟩
    obtain ⟨a, x, y, rfl, ha, hx, hy⟩ := hp
    obtain ⟨xa, xvs, rfl, hxa, px⟩ := hx
    obtain ⟨fa, fvs, rfl, hfa, pf⟩ := hf
    have fvl : fvs.length = fs.length := by have := pf.length; rw [List.length_map] at this; exact this
    have xl := px.length
    have ktN : ∀ {A B : Hp} {L : Addr}, A L = none → (∀ b o, b ≠ L → A b = some o → B b = some o) → Kt A B := fun hA z b zs e => z b _ (fun z => by rw [z, hA] at e; cases e) e
    have smN : ∀ {A B : Hp} {L : Addr}, A L = none → (∀ b o, b ≠ L → A b = some o → B b = some o) → Same A B := fun hA z b o e => z b _ (fun z => by rw [z, hA] at e; cases e) e
    refine ⟨_, rfl, fa, rfl, ⟨_, sqt hfa⟩, fun Dg hD => ?_⟩
    refine dcW (walk_tup (xs := fvs)) (fun m H' => ∃ kvs, H' Dg = some (.dK kvs) ∧ GivH H' kvs (fs.take m) ∧ ∀ b o, b ≠ Dg → H b = some o → H' b = some o) ⟨[], upd_same, .nil, fun b o hb e => by rw [upd_ne hb]; exact e⟩ (fun m H' _ h => ?_) (fun m z H' H'' hm h y => ?_) (fun H1 h => ?_)
    · obtain ⟨_, _, _, kp⟩ := h
      exact sqt (ktN hD kp _ _ hfa)
    · obtain ⟨rfl, hz⟩ := y
      obtain ⟨kvs, hDk, hG, kp⟩ := h
      obtain ⟨r, hr1, ir⟩ := paired_at pf hz
      obtain ⟨p0, hp0, rfl⟩ : ∃ p0, fs[m]? = some p0 ∧ r = tie2 p0 := by
        rw [List.getElem?_map] at hr1
        cases e : fs[m]? with
        | none => rw [e] at hr1; cases hr1
        | some q => rw [e] at hr1; exact ⟨q, rfl, (Option.some.inj hr1).symm⟩
      obtain ⟨b, rfl, hb⟩ := ir
      have hb' := ktN hD kp _ _ hb
      have hn : p0.1 ∉ (fs.take m).map (·.1) := by
        have h1 : fs.map (·.1) = (fs.take m).map (·.1) ++ p0.1 :: (fs.drop (m + 1)).map (·.1) := by
          conv => lhs; rw [← List.take_append_drop m fs]
          rw [List.map_append, List.drop_eq_getElem_cons (List.getElem?_eq_some_iff.mp hp0).1, (List.getElem?_eq_some_iff.mp hp0).2]
          rfl
        rw [h1] at nd
        exact fun z => (List.nodup_append.mp nd).2.2 _ z _ (List.mem_cons_self ..) rfl
      have kl : kvs.length ≤ fs.length := by
        rw [hG.length, List.length_take]
        omega
      refine ⟨b, _, rfl, sqt hb', rfl, _, _, rfl, _, _, rfl, rfl, rfl, _, rfl, _, rfl, (show 1 ≤ sizeLine by decide), fun T hT => ?_⟩
      have hDT := upd_at (o := .tup [.int p0.2]) hT hDk
      refine ⟨kvs, .inl p0.1, rfl, hDT, by rw [sizeLine_eq]; omega, kvs ++ [(.inl p0.1, .ref T)], ?_, ?_, fun b o hb e => by rw [upd_ne hb]; exact upd_at hT (kp b o hb e)⟩
      · rw [upd_same, putK_new _ (giv_none hG hn)]
      · have kt2 : Kt (upd H'' T (.tup [.int p0.2])) (upd (upd H'' T (.tup [.int p0.2])) Dg (.dK (putK kvs (.inl p0.1) (.ref T)))) := fun b zs e => by
          rw [upd_ne (fun z => by rw [z, hDT] at e; cases e)]
          exact e
        rw [List.take_add_one, hp0]
        exact paired_app (paired_mono (fun _ _ ⟨e, i⟩ => ⟨e, (i.kt (kt_same (same_new hT))).kt kt2⟩) hG) (paired_one ⟨rfl, T, rfl, kt2 _ _ upd_same⟩)
    obtain ⟨kvs, hDk, hG, kp⟩ := h
    rw [fvl, List.take_length] at hG
    have s1 := smN hD kp
    refine ⟨_, rfl, a, _, rfl, sqt (s1 _ _ ha), rfl, _, _, rfl, _, _, rfl, rfl, ?_⟩
    refine ⟨_, rfl, xa, xvs, rfl, sqt (s1 _ _ hxa), fun L hL => ?_⟩
    have nDL : Dg ≠ L := ne_of_none hDk hL
    refine lc_it (walk_enumT (K := K) (a := xa) (xs := xvs)) (fun m H3 => ∃ acc, H3 L = some (.lst acc) ∧ Paired (IH H3) acc (idxMap (cutD fs) 0 (p.doms.take m)) ∧ ∀ b o, b ≠ L → H1 b = some o → H3 b = some o) ⟨[], upd_same, .nil, fun b o hb e => by rw [upd_ne hb]; exact e⟩ (fun m H3 _ h => ?_) (fun m z H3 H4 hm h y => ?_) (fun H3 h => ?_)
    · obtain ⟨_, _, _, kp3⟩ := h
      exact sqt (ktN hL kp3 _ _ (s1 _ _ hxa))
    · obtain ⟨acc, hA, pA, kp3⟩ := h
      obtain ⟨T1, e1, dv, rfl, hT1, rfl, hi1, hdv⟩ := y
      cases hi1
      obtain ⟨d, hd1, id0⟩ := paired_at px hdv
      have kt4 : Kt H (upd H3 T1 (.tup [.int (m : Nat), dv])) := Kt.trans (kt_same s1) (Kt.trans (ktN hL kp3) (kt_same (same_new hT1)))
      have hD4 := upd_at (o := .tup [.int (m : Nat), dv]) hT1 (kp3 _ _ nDL hDk)
      have al := pA.length
      rw [idxMap_len, List.length_take] at al
      have tk : idxMap (cutD fs) 0 (p.doms.take (m + 1)) = idxMap (cutD fs) 0 (p.doms.take m) ++ [cutD fs m d] := by
        rw [List.take_add_one, hd1]
        show idxMap (cutD fs) 0 (p.doms.take m ++ [d]) = _
        rw [idxMap_snoc, List.length_take, Nat.zero_add, Nat.min_eq_left (Nat.le_of_lt (List.getElem?_eq_some_iff.mp hd1).1)]
      have hL4 := upd_at (o := .tup [.int (m : Nat), dv]) hT1 hA
      have fin : ∀ z : V, IH H z (cutD fs m d) ∨ IH H1 z (cutD fs m d) → ∃ acc', upd H3 T1 (.tup [.int (m : Nat), dv]) L = some (.lst acc') ∧ acc'.length < sizeLine ∧ ∃ acc, upd (upd H3 T1 (.tup [.int (m : Nat), dv])) L (.lst (acc' ++ [z])) L = some (.lst acc) ∧ Paired (IH (upd (upd H3 T1 (.tup [.int (m : Nat), dv])) L (.lst (acc' ++ [z])))) acc (idxMap (cutD fs) 0 (p.doms.take (m + 1))) ∧ ∀ b o, b ≠ L → H1 b = some o → upd (upd H3 T1 (.tup [.int (m : Nat), dv])) L (.lst (acc' ++ [z])) b = some o := fun z hz => by
        refine ⟨acc, hL4, by rw [sizeLine_eq]; omega, acc ++ [z], upd_same, ?_, fun b o hb e => by rw [upd_ne hb]; exact upd_at hT1 (kp3 b o hb e)⟩
        rw [tk]
        refine paired_app (paired_mono (fun _ _ q => (q.kt (kt_same (same_new hT1))).kt (ktL hL4)) pA) (paired_one ?_)
        rcases hz with q | q
        · exact (q.kt kt4).kt (ktL hL4)
        · exact ((q.kt (ktN hL kp3)).kt (kt_same (same_new hT1))).kt (ktL hL4)
      refine ⟨T1, _, rfl, sqt upd_same, rfl, _, _, rfl, _, _, rfl, rfl, rfl, _, rfl, Dg, rfl, .inl ⟨_, .inl hD4⟩, _, rfl, _, rfl, _, DGet.k (k := .inl (m : Int)) hD4, ?_⟩
      rcases giv_val hG (m : Int) with ⟨e1, e2⟩ | ⟨q, v, e1, e2, iq⟩
      · rw [e1]
        exact fin dv (.inl (by unfold cutD; rw [e2]; exact id0))
      · rw [e1]
        exact fin q (.inr (by unfold cutD; rw [e2]; exact iq))
    obtain ⟨acc, hA, pA, kp3⟩ := h
    rw [xl, List.take_length] at pA
    have s3 := Same.tr s1 (smN hL kp3)
    refine ⟨L, acc, rfl, .inl ⟨sql hA, fun T5 hT5 => ⟨_, rfl, (show 2 ≤ sizeLine by decide), fun T6 hT6 => ?_⟩⟩⟩
    have s6 : Same H3 (upd (upd H3 T5 (.tup acc)) T6 (.tup [.ref T5, y])) := fun b o e => upd_at hT6 (upd_at hT5 e)
    refine k _ _ (Same.tr s3 s6) ⟨T6, .ref T5, y, rfl, upd_same, ⟨T5, acc, rfl, upd_at hT6 upd_same, paired_mono (fun _ _ => IH.kt (kt_same s6)) pA⟩, hy.kt (kt_same (Same.tr s3 s6))⟩
end
end G9

set_option Elab.async false
set_option linter.all false
set_option maxRecDepth 100000
set_option maxHeartbeats 4000000
/-! answers_with, is_forced; _moved, beside -/
namespace G9
open PySem PySem.Spec PyProof.Rows L2 GX
def moveR (by' : Int) : Rul → Rul
  | .table cs rows => .table (cs.map (· + by')) rows
  | .unlike cs => .unlike (cs.map (· + by'))
  | .sum cs lo hi => .sum (cs.map (· + by')) lo hi
  | .count cs vs lo hi => .count (cs.map (· + by')) vs lo hi
  | .below a b => .below (a + by') (b + by')
  | .runs cs ls => .runs (cs.map (· + by')) ls
  | .joined cs ties vs => .joined (cs.map (· + by')) (ties.map fun p => (p.1 + by', p.2 + by')) vs
def besideP (p q : Puz) : Puz := ⟨p.doms ++ q.doms, p.rules ++ q.rules.map (moveR (p.doms.length : Int))⟩
theorem cells_move (b : Int) (r : Rul) : Rul.cells (moveR b r) = (Rul.cells r).map (· + b) := by cases r <;> rfl
theorem idxMap_mem (g : Nat → List Int → List Int) : ∀ (k : Nat) (ds : List (List Int)) (e : List Int), e ∈ idxMap g k ds → ∃ j d, d ∈ ds ∧ e = g j d
  | k, [], e, h => by cases h
  | k, d :: ds, e, h => by
    rcases List.mem_cons.mp h with z | z
    · exact ⟨k, d, List.mem_cons_self .., z⟩
    · obtain ⟨j, d', hd, e'⟩ := idxMap_mem g (k + 1) ds e z
      exact ⟨j, d', List.mem_cons_of_mem _ hd, e'⟩
theorem ok_cutP {p : Puz} (ok : PzOk p) (f : List (Int × Int)) : PzOk (cutP p f) where
  n8 := by show (idxMap _ 0 p.doms).length ≤ 8; rw [idxMap_len]; exact ok.n8
  d4 := fun d hd => by
    obtain ⟨j, d', hd', rfl⟩ := idxMap_mem _ _ _ _ hd
    unfold cutD
    split
    · exact (by decide : 1 ≤ 4)
    · exact ok.d4 d' hd'
  r100 := ok.r100
  small := ok.small
  tab := ok.tab
  some := ok.some
  cell := fun r hr c hc => by show 0 ≤ c ∧ c < ((idxMap _ 0 p.doms).length : Int); rw [idxMap_len]; exact ok.cell r hr c hc
theorem ok_narP {p : Puz} (ok : PzOk p) (kept : List (List Int)) : PzOk (narP p kept) where
  n8 := by show (idxMap _ 0 p.doms).length ≤ 8; rw [idxMap_len]; exact ok.n8
  d4 := fun d hd => by
    obtain ⟨j, d', hd', rfl⟩ := idxMap_mem _ _ _ _ hd
    exact Nat.le_trans (List.length_filter_le _ _) (ok.d4 d' hd')
  r100 := ok.r100
  small := ok.small
  tab := ok.tab
  some := ok.some
  cell := fun r hr c hc => by show 0 ≤ c ∧ c < ((idxMap _ 0 p.doms).length : Int); rw [idxMap_len]; exact ok.cell r hr c hc
def spAnsWith (pT : Addr) : Sp := fun vs H Q _ => ∃ u p fv f, vs = [u, fv] ∧ PzH H u p ∧ PzOk p ∧ RowsH H fv (f.map tie2) ∧ (f.map (·.1)).Nodup ∧ f.length ≤ 1000 ∧ GxR.TabG H pT ∧ ∀ w H', Kb H H' → RowsH H' w (answersOf (cutP p f)) → Q w H'
def spForced (pT : Addr) : Sp := fun vs H Q _ => ∃ u p fv f, vs = [u, fv] ∧ PzH H u p ∧ PzOk p ∧ RowsH H fv (f.map tie2) ∧ (f.map (·.1)).Nodup ∧ f.length ≤ 1000 ∧ GxR.TabG H pT ∧ ∀ H', Kb H H' → Q (.bl (decide ((answersOf (cutP p f)).length = (answersOf p).length))) H'
def spMoved : Sp := fun vs H Q _ => ∃ v r b, vs = [v, .int b] ∧ RuH H v r ∧ Small r ∧ ∀ w H', Same H H' → RuH H' w (moveR b r) → Q w H'
def spBeside : Sp := fun vs H Q _ => ∃ u p v q, vs = [u, v] ∧ PzH H u p ∧ PzH H v q ∧ p.doms.length + q.doms.length ≤ 1000 ∧ p.rules.length + q.rules.length ≤ 1000 ∧ (∀ r ∈ q.rules, Small r) ∧ ∀ w H', Same H H' → PzH H' w (besideP p q) → Q w H'
theorem cat_rows {K : PySem.W.Frag} {H : Hp} {x y : V} {rs ts : List (List Int)} (hx : RowsH H x rs) (hy : RowsH H y ts) (hl : rs.length + ts.length ≤ 1000) {Q : VK} (k : ∀ w H', Same H H' → RowsH H' w (rs ++ ts) → Q w H') : rCatA K x y H Q := by
  obtain ⟨a, vs, rfl, ha, pa⟩ := hx
  obtain ⟨b, us, rfl, hb, pb⟩ := hy
  have l1 := pa.length
  have l2 := pb.length
  refine ⟨a, b, vs, us, rfl, rfl, sqt ha, sqt hb, by rw [sizeLine_eq]; omega, fun e => ?_, fun e1 e2 => ?_, fun e1 e2 p hp => ?_⟩
  · subst e
    cases pa
    exact k _ _ (same_refl H) ⟨b, us, rfl, hb, pb⟩
  · subst e2
    cases pb
    rw [List.append_nil] at k
    exact k _ _ (same_refl H) ⟨a, vs, rfl, ha, pa⟩
  · exact k _ _ (same_new hp) ⟨p, _, rfl, upd_same, paired_mono (fun _ _ => IH.kt (kt_same (same_new hp))) (paired_app pa pb)⟩
theorem tail_cat {K : PySem.W.Frag} {H : Hp} {a T1 : Addr} {wd x c' : V} {rest : List V} (ha : H a = some (.tup (wd :: x :: rest))) (h1 : H T1 = some (.tup [wd, c'])) (hl : rest.length ≤ 1000) {Q : VK} (k : ∀ t H', Same H H' → H' t = some (.tup (wd :: c' :: rest)) → Q (.ref t) H') : rSlA K (.ref a) (some 2) none H fun z H2 => rCatA K (.ref T1) z H2 Q := by
  have e1 : HT.sIx (wd :: x :: rest).length 0 (some 2) = 2 := sIx_nat (n := (wd :: x :: rest).length) (j := 2) 0 (by simp)
  have e2 : HT.sIx (wd :: x :: rest).length (wd :: x :: rest).length none = (wd :: x :: rest).length := rfl
  refine ⟨a, _, rfl, sqt ha, fun e => ?_, fun e p hp => ?_⟩
  · rw [e1] at e
    exact absurd e.1 (by decide)
  · have ec : cutV (wd :: x :: rest) (some 2) none = rest := by
      unfold cutV
      rw [e1, e2]
      show rest.take _ = rest
      exact List.take_of_length_le (by simp)
    rw [ec]
    refine ⟨T1, p, [wd, c'], rest, rfl, rfl, sqt (upd_at hp h1), sqt upd_same, by show 2 + rest.length ≤ _; rw [sizeLine_eq]; omega, (fun e => nomatch e), fun _ er => ?_, fun _ _ q hq => ?_⟩
    · subst er
      exact k _ _ (same_new hp) (upd_at hp h1)
    · exact k _ _ (fun b o e => upd_at hq (upd_at hp e)) upd_same
section
variable {P : Program} {w : World} {K : PySem.W.Frag} {mg : Str → Option Value} {base : Heap} {f f1 f2 f3 : Addr} {fd fd1 fd2 fd3 : FuncData} {pT : Addr}
theorem ok_ansWith (D : Df K mg "answers_with" sAnsWith ["puzzle", "part"] f fd) (D1 : Df K mg "answers" sAnswers ["puzzle"] f1 fd1) (G1 : FnOk P w K mg base CX0 12 f1 fd1 ["puzzle"] (spAnswers pT)) (D2 : Df K mg "cut_to" sCutTo ["puzzle", "f"] f2 fd2) (G2 : FnOk P w K mg base CX0 1 f2 fd2 ["puzzle", "f"] spCut) : FnOk P w K mg base CX0 14 f fd ["puzzle", "part"] (spAnsWith pT) := by
  refine D.F.ok scAnsWith (fun vs H Q E h => ?_) (fun cdv A outer s H vs Q E hr h => ?_)
  · obtain ⟨u, p, fv, fs, rfl, _⟩ := h
    rfl
  · obtain ⟨u, p, fv, fs, rfl, hp, ok, hf, nd, fl, hT, k⟩ := h
    refine ⟨_, pss_one (ps_ret (pe_call G1 (hr.mono (by decide)) (by rfl) D1.g D1.F.kp D1.b .nil pass0 (pa_cons (pe_call G2 (hr.mono (by decide)) (by rfl) D2.g D2.F.kp D2.b .nil pass0 (pa_cons (pv 0) (pa_cons (pv 1) pa_nil))) pa_nil))), ?_⟩
    have n8 := ok.n8
    exact ⟨_, rfl, _, rfl, u, p, fv, fs, rfl, hp, hf, nd, fl, by omega, fun w1 H1 s1 h1 => ⟨w1, _, rfl, h1, ok_cutP ok fs, (kb_same s1).2 _ hT, fun w2 H2 k2 h2 => k w2 H2 ((kb_same s1).trans k2) h2⟩⟩
theorem ok_forced (B : Bl mg) (D : Df K mg "is_forced" sForced ["puzzle", "part"] f fd) (D1 : Df K mg "answers_with" sAnsWith ["puzzle", "part"] f1 fd1) (G1 : FnOk P w K mg base CX0 14 f1 fd1 ["puzzle", "part"] (spAnsWith pT)) (D2 : Df K mg "answer_count" sCount ["puzzle"] f2 fd2) (G2 : FnOk P w K mg base CX0 14 f2 fd2 ["puzzle"] (spCount pT)) : FnOk P w K mg base CX0 16 f fd ["puzzle", "part"] (spForced pT) := by
  refine D.F.ok scForced (fun vs H Q E h => ?_) (fun cdv A outer s H vs Q E hr h => ?_)
  · obtain ⟨u, p, fv, fs, rfl, _⟩ := h
    rfl
  · obtain ⟨u, p, fv, fs, rfl, hp, ok, hf, nd, fl, hT, k⟩ := h
    refine ⟨_, pss_one (ps_ret (pe_cmpR op_eq (pe_callB call_len_seq (by rfl) B.len PySem.boot_len (pa_cons (pe_call G1 (hr.mono (by decide)) (by rfl) D1.g D1.F.kp D1.b .nil pass0 (pa_cons (pv 0) (pa_cons (pv 1) pa_nil))) pa_nil)) (pe_call G2 (hr.mono (by decide)) (by rfl) D2.g D2.F.kp D2.b .nil pass0 (pa_cons (pv 0) pa_nil)) (nomark _))), ?_⟩
    refine ⟨_, rfl, _, rfl, u, p, fv, fs, rfl, hp, ok, hf, nd, fl, hT, fun w1 H1 k1 h1 => ?_⟩
    obtain ⟨a, vs, rfl, ha, pa⟩ := h1
    refine ⟨a, vs, rfl, .inr (sqt ha), _, rfl, u, p, rfl, hp.kt (kt_kb k1), ok, k1.2 _ hT, fun H2 k2 => ⟨rfl, ?_⟩⟩
    have z := k H2 (k1.trans k2)
    rw [pa.length]
    have e : decide (V.int (((answersOf (cutP p fs)).length : Nat) : Int) = V.int (((answersOf p).length : Nat) : Int)) = decide ((answersOf (cutP p fs)).length = (answersOf p).length) := by
      by_cases h : (answersOf (cutP p fs)).length = (answersOf p).length
      · rw [decide_eq_true h, h]
        simp
      · rw [decide_eq_false h]
        exact decide_eq_false fun q => h (by have := V.int.inj q; omega)
    rw [e]
    exact z
theorem ok_moved (B : Bl mg) (D : Df K mg "_moved" sMoved ["rule", "by"] f fd) : FnOk P w K mg base CX0 1 f fd ["rule", "by"] spMoved := by
  refine D.F.ok scMoved (fun vs H Q E h => ?_) (fun cdv A outer s H vs Q E hr h => ?_)
  · obtain ⟨v, r, b, rfl, _⟩ := h
    rfl
  · obtain ⟨v, r, b, rfl, hru, sm, k⟩ := h
    refine ⟨_, pss_cons (ps_set (i := 2) scMoved.nd rfl (.inl rfl) (pe_ix ix_tup (pv 0) pe_int (fun _ _ => rfl)))
      (pss_cons (ps_if (pt_cmpR op_eq (pv 2) pe_str (nomark _)) (pss_one (ps_ret (pe_tup (pa_cons pe_str (pa_cons (pe_op op_add (pe_ix ix_tup (pv 0) pe_int (fun _ _ => rfl)) (pv 1)) (pa_cons (pe_op op_add (pe_ix ix_tup (pv 0) pe_int (fun _ _ => rfl)) (pv 1)) pa_nil)))))) pss_nil)
      (pss_cons (ps_set (i := 3) scMoved.nd rfl (.inl rfl) (pe_callTy call_tuple_of (by rfl) B.tuple PyProof.Rows.boot_tuple (pa_cons
          (pe_lc (own := [("cell", 4)]) rfl scMoved.nd (pi_tup (pe_ix ix_tup (pv 0) pe_int (fun _ _ => rfl))) (blkOk_by (N := ["rule", "by", "word", "cells", "cell", "a", "b"]) (sc := defScope sMoved) (by decide +kernel)) (fun _ _ _ _ _ => pg_name (i := 4) scMoved.nd rfl (.inl rfl)) (fun _ _ _ _ _ => pts_nil) (fun _ _ _ _ _ => pe_op op_add (pv 4) (pv 1))) pa_nil)))
      (pss_cons (ps_if (pt_cmpR op_eq (pv 2) pe_str (nomark _)) (pss_one (ps_ret (pe_tup (pa_cons pe_str (pa_cons (pv 3) (pa_cons (pe_callTy call_tuple_of (by rfl) B.tuple PyProof.Rows.boot_tuple (pa_cons
          (pe_lc (own := [("a", 5), ("b", 6)]) rfl scMoved.nd (pi_tup (pe_ix ix_tup (pv 0) pe_int (fun _ _ => rfl))) (blkOk_by (N := ["rule", "by", "word", "cells", "cell", "a", "b"]) (sc := defScope sMoved) (by decide +kernel)) (fun _ _ _ _ _ => pg_tupK K (n := 2) rfl (pgs_cons (pg_name (i := 5) scMoved.nd rfl (.inl rfl)) (pgs_cons (pg_name (i := 6) scMoved.nd rfl (.inl rfl)) pgs_nil))) (fun _ _ _ _ _ => pts_nil)
            (fun _ _ _ _ _ => pe_tup (pa_cons (pe_op op_add (pv 5) (pv 1)) (pa_cons (pe_op op_add (pv 6) (pv 1)) pa_nil)))) pa_nil)) (pa_cons (pe_ix ix_tup (pv 0) pe_int (fun _ _ => rfl)) pa_nil))))))) pss_nil)
      (pss_one (ps_ret (pe_op (catA K) (pe_tup (pa_cons (pv 2) (pa_cons (pv 3) pa_nil))) (pe_slice (slA K) (pv 0) (po_some pe_int) po_none))))))), ?_⟩
    obtain ⟨nd, l100, more⟩ := sm
    cases r with
    | below i j =>
      obtain ⟨a, rfl, q⟩ := hru
      refine ⟨_, rfl, a, _, 0, _, rfl, rfl, sqt q, rfl, _, rfl, rfl, _, rfl, ifT (by decide +kernel) ?_⟩
      refine ⟨_, rfl, a, _, 1, _, rfl, rfl, sqt q, rfl, _, rfl, _, _, rfl, rfl, _, rfl, a, _, 2, _, rfl, rfl, sqt q, rfl, _, rfl, _, _, rfl, rfl, (show 3 ≤ sizeLine by decide), fun T hT => ?_⟩
      exact k _ _ (same_new hT) ⟨T, rfl, upd_same⟩
    | unlike cs =>
      obtain ⟨a, x, rfl, q, i⟩ := hru
      refine ⟨_, rfl, a, _, 0, _, rfl, rfl, sqt q, rfl, _, rfl, rfl, _, rfl, ifF (by decide +kernel) ?_⟩
      obtain ⟨xa, rfl, hxa⟩ := i
      have c100 : cs.length ≤ 100 := l100
      refine ⟨_, rfl, a, _, 1, _, rfl, rfl, sqt q, rfl, xa, rfl, ⟨_, sqt hxa⟩, fun L hL => ?_⟩
      refine lc_it (walk_tup (xs := cs.map V.int)) (fun m H3 => H3 = upd H L (.lst (((cs.take m).map (· + b)).map V.int))) rfl (fun m H3 _ h => ?_) (fun m z H3 H4 hm h y => ?_) (fun H3 h => ?_)
      · subst h
        exact sqt (upd_at hL hxa)
      · obtain ⟨rfl, hz⟩ := y
        obtain ⟨c, hc, rfl⟩ := at_ints hz
        subst h
        refine ⟨rfl, _, rfl, _, rfl, c, b, rfl, rfl, _, upd_same, by rw [List.length_map, List.length_map, List.length_take, sizeLine_eq]; omega, ?_⟩
        rw [upd_upd, List.take_add_one, hc, List.map_append, List.map_append]
        rfl
      rw [List.length_map, List.take_length] at h
      subst h
      refine ⟨L, _, rfl, .inl ⟨sql upd_same, fun T hT => ?_⟩⟩
      have sm1 : Same H (upd (upd H L (.lst ((cs.map (· + b)).map V.int))) T (.tup ((cs.map (· + b)).map V.int))) := fun b o e => upd_at hT (upd_at hL e)
      have iT : IH (upd (upd H L (.lst ((cs.map (· + b)).map V.int))) T (.tup ((cs.map (· + b)).map V.int))) (.ref T) (cs.map (· + b)) := ⟨T, rfl, upd_same⟩
      generalize upd (upd H L (.lst ((cs.map (· + b)).map V.int))) T (.tup ((cs.map (· + b)).map V.int)) = H1 at sm1 iT
      refine ⟨_, rfl, rfl, _, rfl, ifF (by decide +kernel) ?_⟩
      refine ⟨_, rfl, _, rfl, (show 2 ≤ sizeLine by decide), fun T1 hT1 => ?_⟩
      refine ⟨_, rfl, 2, rfl, ?_⟩
      dsimp only [tNoPart]
      refine tail_cat (upd_at hT1 (sm1 _ _ q)) upd_same (by simp) fun t H2 s2 ht => ?_
      have s12 := Same.tr (same_new (o := .tup [.str "unlike", .ref T]) hT1) s2
      exact k _ _ (Same.tr sm1 s12) ⟨t, _, rfl, ht, iT.kt (kt_same s12)⟩
    | sum cs lo hi =>
      obtain ⟨a, x, rfl, q, i⟩ := hru
      refine ⟨_, rfl, a, _, 0, _, rfl, rfl, sqt q, rfl, _, rfl, rfl, _, rfl, ifF (by decide +kernel) ?_⟩
      obtain ⟨xa, rfl, hxa⟩ := i
      have c100 : cs.length ≤ 100 := l100
      refine ⟨_, rfl, a, _, 1, _, rfl, rfl, sqt q, rfl, xa, rfl, ⟨_, sqt hxa⟩, fun L hL => ?_⟩
      refine lc_it (walk_tup (xs := cs.map V.int)) (fun m H3 => H3 = upd H L (.lst (((cs.take m).map (· + b)).map V.int))) rfl (fun m H3 _ h => ?_) (fun m z H3 H4 hm h y => ?_) (fun H3 h => ?_)
      · subst h
        exact sqt (upd_at hL hxa)
      · obtain ⟨rfl, hz⟩ := y
        obtain ⟨c, hc, rfl⟩ := at_ints hz
        subst h
        refine ⟨rfl, _, rfl, _, rfl, c, b, rfl, rfl, _, upd_same, by rw [List.length_map, List.length_map, List.length_take, sizeLine_eq]; omega, ?_⟩
        rw [upd_upd, List.take_add_one, hc, List.map_append, List.map_append]
        rfl
      rw [List.length_map, List.take_length] at h
      subst h
      refine ⟨L, _, rfl, .inl ⟨sql upd_same, fun T hT => ?_⟩⟩
      have sm1 : Same H (upd (upd H L (.lst ((cs.map (· + b)).map V.int))) T (.tup ((cs.map (· + b)).map V.int))) := fun b o e => upd_at hT (upd_at hL e)
      have iT : IH (upd (upd H L (.lst ((cs.map (· + b)).map V.int))) T (.tup ((cs.map (· + b)).map V.int))) (.ref T) (cs.map (· + b)) := ⟨T, rfl, upd_same⟩
      generalize upd (upd H L (.lst ((cs.map (· + b)).map V.int))) T (.tup ((cs.map (· + b)).map V.int)) = H1 at sm1 iT
      refine ⟨_, rfl, rfl, _, rfl, ifF (by decide +kernel) ?_⟩
      refine ⟨_, rfl, _, rfl, (show 2 ≤ sizeLine by decide), fun T1 hT1 => ?_⟩
      refine ⟨_, rfl, 2, rfl, ?_⟩
      dsimp only [tNoPart]
      refine tail_cat (upd_at hT1 (sm1 _ _ q)) upd_same (by simp) fun t H2 s2 ht => ?_
      have s12 := Same.tr (same_new (o := .tup [.str "sum", .ref T]) hT1) s2
      exact k _ _ (Same.tr sm1 s12) ⟨t, _, rfl, ht, iT.kt (kt_same s12)⟩
    | table cs rows =>
      obtain ⟨a, x, y, rfl, q, i, j⟩ := hru
      refine ⟨_, rfl, a, _, 0, _, rfl, rfl, sqt q, rfl, _, rfl, rfl, _, rfl, ifF (by decide +kernel) ?_⟩
      obtain ⟨xa, rfl, hxa⟩ := i
      have c100 : cs.length ≤ 100 := l100
      refine ⟨_, rfl, a, _, 1, _, rfl, rfl, sqt q, rfl, xa, rfl, ⟨_, sqt hxa⟩, fun L hL => ?_⟩
      refine lc_it (walk_tup (xs := cs.map V.int)) (fun m H3 => H3 = upd H L (.lst (((cs.take m).map (· + b)).map V.int))) rfl (fun m H3 _ h => ?_) (fun m z H3 H4 hm h y => ?_) (fun H3 h => ?_)
      · subst h
        exact sqt (upd_at hL hxa)
      · obtain ⟨rfl, hz⟩ := y
        obtain ⟨c, hc, rfl⟩ := at_ints hz
        subst h
        refine ⟨rfl, _, rfl, _, rfl, c, b, rfl, rfl, _, upd_same, by rw [List.length_map, List.length_map, List.length_take, sizeLine_eq]; omega, ?_⟩
        rw [upd_upd, List.take_add_one, hc, List.map_append, List.map_append]
        rfl
      rw [List.length_map, List.take_length] at h
      subst h
      refine ⟨L, _, rfl, .inl ⟨sql upd_same, fun T hT => ?_⟩⟩
      have sm1 : Same H (upd (upd H L (.lst ((cs.map (· + b)).map V.int))) T (.tup ((cs.map (· + b)).map V.int))) := fun b o e => upd_at hT (upd_at hL e)
      have iT : IH (upd (upd H L (.lst ((cs.map (· + b)).map V.int))) T (.tup ((cs.map (· + b)).map V.int))) (.ref T) (cs.map (· + b)) := ⟨T, rfl, upd_same⟩
      generalize upd (upd H L (.lst ((cs.map (· + b)).map V.int))) T (.tup ((cs.map (· + b)).map V.int)) = H1 at sm1 iT
      refine ⟨_, rfl, rfl, _, rfl, ifF (by decide +kernel) ?_⟩
      refine ⟨_, rfl, _, rfl, (show 2 ≤ sizeLine by decide), fun T1 hT1 => ?_⟩
      refine ⟨_, rfl, 2, rfl, ?_⟩
      dsimp only [tNoPart]
      refine tail_cat (upd_at hT1 (sm1 _ _ q)) upd_same (by simp) fun t H2 s2 ht => ?_
      have s12 := Same.tr (same_new (o := .tup [.str "table", .ref T]) hT1) s2
      exact k _ _ (Same.tr sm1 s12) ⟨t, _, _, rfl, ht, iT.kt (kt_same s12), j.kt (kt_same (Same.tr sm1 s12))⟩
    | count cs vs lo hi =>
      obtain ⟨a, x, y, rfl, q, i, j⟩ := hru
      refine ⟨_, rfl, a, _, 0, _, rfl, rfl, sqt q, rfl, _, rfl, rfl, _, rfl, ifF (by decide +kernel) ?_⟩
      obtain ⟨xa, rfl, hxa⟩ := i
      have c100 : cs.length ≤ 100 := l100
      refine ⟨_, rfl, a, _, 1, _, rfl, rfl, sqt q, rfl, xa, rfl, ⟨_, sqt hxa⟩, fun L hL => ?_⟩
      refine lc_it (walk_tup (xs := cs.map V.int)) (fun m H3 => H3 = upd H L (.lst (((cs.take m).map (· + b)).map V.int))) rfl (fun m H3 _ h => ?_) (fun m z H3 H4 hm h y => ?_) (fun H3 h => ?_)
      · subst h
        exact sqt (upd_at hL hxa)
      · obtain ⟨rfl, hz⟩ := y
        obtain ⟨c, hc, rfl⟩ := at_ints hz
        subst h
        refine ⟨rfl, _, rfl, _, rfl, c, b, rfl, rfl, _, upd_same, by rw [List.length_map, List.length_map, List.length_take, sizeLine_eq]; omega, ?_⟩
        rw [upd_upd, List.take_add_one, hc, List.map_append, List.map_append]
        rfl
      rw [List.length_map, List.take_length] at h
      subst h
      refine ⟨L, _, rfl, .inl ⟨sql upd_same, fun T hT => ?_⟩⟩
      have sm1 : Same H (upd (upd H L (.lst ((cs.map (· + b)).map V.int))) T (.tup ((cs.map (· + b)).map V.int))) := fun b o e => upd_at hT (upd_at hL e)
      have iT : IH (upd (upd H L (.lst ((cs.map (· + b)).map V.int))) T (.tup ((cs.map (· + b)).map V.int))) (.ref T) (cs.map (· + b)) := ⟨T, rfl, upd_same⟩
      generalize upd (upd H L (.lst ((cs.map (· + b)).map V.int))) T (.tup ((cs.map (· + b)).map V.int)) = H1 at sm1 iT
      refine ⟨_, rfl, rfl, _, rfl, ifF (by decide +kernel) ?_⟩
      refine ⟨_, rfl, _, rfl, (show 2 ≤ sizeLine by decide), fun T1 hT1 => ?_⟩
      refine ⟨_, rfl, 2, rfl, ?_⟩
      dsimp only [tNoPart]
      refine tail_cat (upd_at hT1 (sm1 _ _ q)) upd_same (by simp) fun t H2 s2 ht => ?_
      have s12 := Same.tr (same_new (o := .tup [.str "count", .ref T]) hT1) s2
      exact k _ _ (Same.tr sm1 s12) ⟨t, _, _, rfl, ht, iT.kt (kt_same s12), j.kt (kt_same (Same.tr sm1 s12))⟩
    | runs cs ls =>
      obtain ⟨a, x, y, rfl, q, i, j⟩ := hru
      refine ⟨_, rfl, a, _, 0, _, rfl, rfl, sqt q, rfl, _, rfl, rfl, _, rfl, ifF (by decide +kernel) ?_⟩
      obtain ⟨xa, rfl, hxa⟩ := i
      have c100 : cs.length ≤ 100 := l100
      refine ⟨_, rfl, a, _, 1, _, rfl, rfl, sqt q, rfl, xa, rfl, ⟨_, sqt hxa⟩, fun L hL => ?_⟩
      refine lc_it (walk_tup (xs := cs.map V.int)) (fun m H3 => H3 = upd H L (.lst (((cs.take m).map (· + b)).map V.int))) rfl (fun m H3 _ h => ?_) (fun m z H3 H4 hm h y => ?_) (fun H3 h => ?_)
      · subst h
        exact sqt (upd_at hL hxa)
      · obtain ⟨rfl, hz⟩ := y
        obtain ⟨c, hc, rfl⟩ := at_ints hz
        subst h
        refine ⟨rfl, _, rfl, _, rfl, c, b, rfl, rfl, _, upd_same, by rw [List.length_map, List.length_map, List.length_take, sizeLine_eq]; omega, ?_⟩
        rw [upd_upd, List.take_add_one, hc, List.map_append, List.map_append]
        rfl
      rw [List.length_map, List.take_length] at h
      subst h
      refine ⟨L, _, rfl, .inl ⟨sql upd_same, fun T hT => ?_⟩⟩
      have sm1 : Same H (upd (upd H L (.lst ((cs.map (· + b)).map V.int))) T (.tup ((cs.map (· + b)).map V.int))) := fun b o e => upd_at hT (upd_at hL e)
      have iT : IH (upd (upd H L (.lst ((cs.map (· + b)).map V.int))) T (.tup ((cs.map (· + b)).map V.int))) (.ref T) (cs.map (· + b)) := ⟨T, rfl, upd_same⟩
      generalize upd (upd H L (.lst ((cs.map (· + b)).map V.int))) T (.tup ((cs.map (· + b)).map V.int)) = H1 at sm1 iT
      refine ⟨_, rfl, rfl, _, rfl, ifF (by decide +kernel) ?_⟩
      refine ⟨_, rfl, _, rfl, (show 2 ≤ sizeLine by decide), fun T1 hT1 => ?_⟩
      refine ⟨_, rfl, 2, rfl, ?_⟩
      dsimp only [tNoPart]
      refine tail_cat (upd_at hT1 (sm1 _ _ q)) upd_same (by simp) fun t H2 s2 ht => ?_
      have s12 := Same.tr (same_new (o := .tup [.str "runs", .ref T]) hT1) s2
      exact k _ _ (Same.tr sm1 s12) ⟨t, _, _, rfl, ht, iT.kt (kt_same s12), j.kt (kt_same (Same.tr sm1 s12))⟩
    | joined cs ties vs =>
      obtain ⟨a, x, y, z0, rfl, q, i, j, l⟩ := hru
      refine ⟨_, rfl, a, _, 0, _, rfl, rfl, sqt q, rfl, _, rfl, rfl, _, rfl, ifF (by decide +kernel) ?_⟩
      obtain ⟨xa, rfl, hxa⟩ := i
      have c100 : cs.length ≤ 100 := l100
      refine ⟨_, rfl, a, _, 1, _, rfl, rfl, sqt q, rfl, xa, rfl, ⟨_, sqt hxa⟩, fun L hL => ?_⟩
      refine lc_it (walk_tup (xs := cs.map V.int)) (fun m H3 => H3 = upd H L (.lst (((cs.take m).map (· + b)).map V.int))) rfl (fun m H3 _ h => ?_) (fun m z H3 H4 hm h y => ?_) (fun H3 h => ?_)
      · subst h
        exact sqt (upd_at hL hxa)
      · obtain ⟨rfl, hz⟩ := y
        obtain ⟨c, hc, rfl⟩ := at_ints hz
        subst h
        refine ⟨rfl, _, rfl, _, rfl, c, b, rfl, rfl, _, upd_same, by rw [List.length_map, List.length_map, List.length_take, sizeLine_eq]; omega, ?_⟩
        rw [upd_upd, List.take_add_one, hc, List.map_append, List.map_append]
        rfl
      rw [List.length_map, List.take_length] at h
      subst h
      refine ⟨L, _, rfl, .inl ⟨sql upd_same, fun T hT => ?_⟩⟩
      have sm1 : Same H (upd (upd H L (.lst ((cs.map (· + b)).map V.int))) T (.tup ((cs.map (· + b)).map V.int))) := fun b o e => upd_at hT (upd_at hL e)
      have iT : IH (upd (upd H L (.lst ((cs.map (· + b)).map V.int))) T (.tup ((cs.map (· + b)).map V.int))) (.ref T) (cs.map (· + b)) := ⟨T, rfl, upd_same⟩
      generalize upd (upd H L (.lst ((cs.map (· + b)).map V.int))) T (.tup ((cs.map (· + b)).map V.int)) = H1 at sm1 iT
      obtain ⟨ya, yvs, rfl, hya, py⟩ := j
      have yl : yvs.length = ties.length := by have := py.length; rw [List.length_map] at this; exact this
      have t100 : ties.length ≤ 100 := more
      refine ⟨_, rfl, rfl, _, rfl, ifT (by decide +kernel) ?_⟩
      refine ⟨_, rfl, _, rfl, a, _, 2, _, rfl, rfl, sqt (sm1 _ _ q), rfl, ya, rfl, ⟨_, sqt (sm1 _ _ hya)⟩, fun M hM => ?_⟩
      refine lc_it (walk_tup (xs := yvs)) (fun m H3 => ∃ acc, H3 M = some (.lst acc) ∧ Paired (IH H3) acc (((ties.take m).map fun p => (p.1 + b, p.2 + b)).map tie2) ∧ Same H1 H3) ⟨[], upd_same, .nil, same_new hM⟩ (fun m H3 _ h => ?_) (fun m z H3 H4 hm h y => ?_) (fun H3 h => ?_)
      · obtain ⟨_, _, _, s3⟩ := h
        exact sqt (s3 _ _ (sm1 _ _ hya))
      · obtain ⟨rfl, hz⟩ := y
        obtain ⟨acc, hA, pA, s3⟩ := h
        obtain ⟨r, hr1, ir⟩ := paired_at py hz
        obtain ⟨p0, hp0, rfl⟩ : ∃ p0, ties[m]? = some p0 ∧ r = tie2 p0 := by
          rw [List.getElem?_map] at hr1
          cases e : ties[m]? with
          | none => rw [e] at hr1; cases hr1
          | some q => rw [e] at hr1; exact ⟨q, rfl, (Option.some.inj hr1).symm⟩
        obtain ⟨tb, rfl, htb⟩ := ir
        have al := pA.length
        rw [List.length_map, List.length_map, List.length_take] at al
        refine ⟨tb, _, rfl, sqt (s3 _ _ (sm1 _ _ htb)), rfl, _, _, rfl, _, _, rfl, rfl, rfl, _, rfl, _, rfl, _, _, rfl, rfl, _, rfl, _, rfl, _, _, rfl, rfl, (show 2 ≤ sizeLine by decide), fun T5 hT5 => ?_⟩
        have hA5 := upd_at (o := .tup [.int (p0.1 + b), .int (p0.2 + b)]) hT5 hA
        refine ⟨acc, hA5, by rw [sizeLine_eq]; omega, acc ++ [.ref T5], upd_same, ?_, fun c o eb => ?_⟩
        · rw [List.take_add_one, hp0, List.map_append, List.map_append]
          exact paired_app (paired_mono (fun _ _ q => (q.kt (kt_same (same_new hT5))).kt (ktL hA5)) pA) (paired_one ⟨T5, rfl, ktL hA5 _ _ upd_same⟩)
        · rw [upd_ne (fun z => by rw [z, hM] at eb; cases eb)]
          exact upd_at hT5 (s3 _ _ eb)
      obtain ⟨acc, hA, pA, s3⟩ := h
      rw [yl, List.take_length] at pA
      refine ⟨M, acc, rfl, .inl ⟨sql hA, fun T6 hT6 => ?_⟩⟩
      have s6 := Same.tr s3 (same_new (o := .tup acc) hT6)
      refine ⟨_, rfl, a, _, 3, _, rfl, rfl, sqt (s6 _ _ (sm1 _ _ q)), rfl, (show 4 ≤ sizeLine by decide), fun T7 hT7 => ?_⟩
      have s7 := Same.tr s6 (same_new (o := .tup [.str "joined", .ref T, .ref T6, z0]) hT7)
      exact k _ _ (Same.tr sm1 s7) ⟨T7, _, _, _, rfl, upd_same, iT.kt (kt_same s7), ⟨T6, acc, rfl, upd_at hT7 upd_same, paired_mono (fun _ _ q => (q.kt (kt_same (same_new hT6))).kt (kt_same (same_new hT7))) pA⟩, l.kt (kt_same (Same.tr sm1 s7))⟩
theorem ok_beside (B : Bl mg) (D : Df K mg "beside" sBeside ["one", "other"] f fd) (D1 : Df K mg "_moved" sMoved ["rule", "by"] f1 fd1) (G1 : FnOk P w K mg base CX0 1 f1 fd1 ["rule", "by"] spMoved) : FnOk P w K mg base CX0 3 f fd ["one", "other"] spBeside := by
  refine D.F.ok scBeside (fun vs H Q E h => ?_) (fun cdv A outer s H vs Q E hr h => ?_)
  · obtain ⟨u, p, v, q, rfl, _⟩ := h
    rfl
  · obtain ⟨u, p, v, q, rfl, hp, hq, hn, hl, hsm, k⟩ := h
    refine ⟨_, pss_cons (ps_set (i := 2) scBeside.nd rfl (.inr rfl) (pe_callB call_len_seq (by rfl) B.len PySem.boot_len (pa_cons (pe_ix ix_tup (pv 0) pe_int (fun _ _ => rfl)) pa_nil)))
      (pss_one (ps_ret (pe_tup (pa_cons (pe_op (catA K) (pe_ix ix_tup (pv 0) pe_int (fun _ _ => rfl)) (pe_ix ix_tup (pv 1) pe_int (fun _ _ => rfl))) (pa_cons (pe_op (catA K) (pe_ix ix_tup (pv 0) pe_int (fun _ _ => rfl)) (pe_callTy call_tuple_of (by rfl) B.tuple PyProof.Rows.boot_tuple (pa_cons
        (pe_lc (own := [("rule", 3)]) rfl scBeside.nd (pi_tup (pe_ix ix_tup (pv 1) pe_int (fun _ _ => rfl))) (blkOk_by (N := ["one", "other", "by", "rule"]) (sc := defScope sBeside) (by decide +kernel)) (fun _ _ _ _ _ => pg_name (i := 3) scBeside.nd rfl (.inl rfl)) (fun _ _ _ _ _ => pts_nil)
          (fun _ _ _ _ _ => pe_call G1 (hr.mono (by decide)) (by rfl) D1.g D1.F.kp D1.b .nil pass0 (pa_cons (pv 3) (pa_cons (pv 2) pa_nil)))) pa_nil))) pa_nil))))), ?_⟩
    obtain ⟨a, x, y, rfl, ha, hx, hy⟩ := hp
    obtain ⟨a2, x2, y2, rfl, ha2, hx2, hy2⟩ := hq
    have hx0 := hx
    have hy0 := hy
    obtain ⟨xa, xvs, rfl, hxa, px⟩ := hx
    obtain ⟨ya, yvs, rfl, hya, py⟩ := hy2
    have xl := px.length
    have yl := py.length
    refine ⟨_, rfl, a, _, 0, _, rfl, rfl, sqt ha, rfl, xa, xvs, rfl, .inr (sqt hxa), ?_⟩
    refine ⟨_, rfl, a, _, 0, _, rfl, rfl, sqt ha, rfl, _, rfl, a2, _, 0, _, rfl, rfl, sqt ha2, rfl, ?_⟩
    refine cat_rows hx0 hx2 hn fun w1 H1 s1 hw1 => ?_
    refine ⟨_, rfl, a, _, 1, _, rfl, rfl, sqt (s1 _ _ ha), rfl, _, rfl, a2, _, 1, _, rfl, rfl, sqt (s1 _ _ ha2), rfl, ya, rfl, ⟨_, sqt (s1 _ _ hya)⟩, fun L hL => ?_⟩
    refine lc_it (walk_tup (xs := yvs)) (fun m H3 => ∃ acc, H3 L = some (.lst acc) ∧ Paired (RuH H3) acc ((q.rules.take m).map (moveR (p.doms.length : Int))) ∧ Same H1 H3) ⟨[], upd_same, .nil, same_new hL⟩ (fun m H3 _ h => ?_) (fun m z H3 H4 hm h y => ?_) (fun H3 h => ?_)
    · obtain ⟨_, _, _, s3⟩ := h
      exact sqt (s3 _ _ (s1 _ _ hya))
    · obtain ⟨rfl, hz⟩ := y
      obtain ⟨acc, hA, pA, s3⟩ := h
      obtain ⟨r, hr1, ir⟩ := paired_at py hz
      have al := pA.length
      rw [List.length_map, List.length_take] at al
      have ml := (List.getElem?_eq_some_iff.mp hr1).1
      refine ⟨rfl, _, rfl, _, rfl, z, r, _, rfl, (ir.kt (kt_same s1)).kt (kt_same s3), hsm r (List.mem_of_getElem? hr1), fun w5 H5 s5 hw5 => ?_⟩
      refine ⟨acc, s5 _ _ hA, by rw [sizeLine_eq]; omega, acc ++ [w5], upd_same, ?_, fun b o eb => ?_⟩
      · rw [List.take_add_one, hr1, List.map_append]
        have e : (moveR (xvs.length : Int) r) = moveR (p.doms.length : Int) r := by rw [xl]
        rw [e] at hw5
        exact paired_app (paired_mono (fun _ _ q => (q.kt (kt_same s5)).kt (ktL (s5 _ _ hA))) pA) (paired_one (hw5.kt (ktL (s5 _ _ hA))))
      · rw [upd_ne (fun z => by rw [z, hL] at eb; cases eb)]
        exact s5 _ _ (s3 _ _ eb)
    obtain ⟨acc, hA, pA, s3⟩ := h
    rw [yl, List.take_length] at pA
    refine ⟨L, acc, rfl, .inl ⟨sql hA, fun T hT => ?_⟩⟩
    have s13 : Same H1 (upd H3 T (.tup acc)) := Same.tr s3 (same_new hT)
    refine cat_rules ((hy0.kt (kt_same s1)).kt (kt_same s13)) ⟨T, acc, rfl, upd_same, paired_mono (fun _ _ => RuH.kt (kt_same (same_new hT))) pA⟩ (by rw [List.length_map]; exact hl) fun w6 H6 s6 hw6 => ⟨(show 2 ≤ sizeLine by decide), fun T2 hT2 => ?_⟩
    have s16 := Same.tr s13 (Same.tr s6 (same_new (o := .tup [w1, w6]) hT2))
    exact k _ _ (Same.tr s1 s16) ⟨T2, w1, w6, rfl, upd_same, hw1.kt (kt_same s16), hw6.kt (kt_same (same_new hT2))⟩
end
end G9

set_option Elab.async false
set_option linter.all false
set_option maxRecDepth 100000
set_option maxHeartbeats 4000000
/-! free_cells -/
namespace G9
open PySem PySem.Spec PyProof.Rows L2 GX
theorem anyK (K : PySem.W.Frag) {X : Cx} (hc : X.calm = true) (h : X.K = K := by rfl) : CallR X (.builtin "any") (rAny K) := h ▸ cr_any hc
theorem allK (K : PySem.W.Frag) {X : Cx} (hc : X.calm = true) (h : X.K = K := by rfl) : CallR X (.builtin "all") (rAll K) := h ▸ cr_all hc
noncomputable def isFree (p : Puz) (row : List Int) (c : Nat) : Bool := (answersOf p).any fun o => decide (o.getD c 0 ≠ row.getD c 0)
noncomputable def freeOf (p : Puz) (row : List Int) : List Nat := (List.range row.length).filter fun c => isFree p row c
def nI (l : List Nat) : List Int := l.map fun c => ((c : Nat) : Int)
def spFree (pT : Addr) : Sp := fun vs H Q _ => ∃ u p v row, vs = [u, v] ∧ PzH H u p ∧ PzOk p ∧ IH H v row ∧ row.length = p.doms.length ∧ GxR.TabG H pT ∧ ∀ w H', Kb H H' → IH H' w (nI (freeOf p row)) → Q w H'
theorem ans_len {p : Puz} {o : List Int} (h : o ∈ answersOf p) : o.length = p.doms.length := rowsOf_each _ _ rfl o (List.mem_filter.mp h).1
theorem ans_65 {p : Puz} (ok : PzOk p) : (answersOf p).length ≤ 65536 := Nat.le_trans (List.length_filter_le _ _) ok.rl
section
variable {P : Program} {w : World} {K : PySem.W.Frag} {mg : Str → Option Value} {base : Heap} {f f1 f2 f3 : Addr} {fd fd1 fd2 fd3 : FuncData} {pT : Addr}
theorem ok_free (B : Bl mg) (D : Df K mg "free_cells" sFree ["puzzle", "answer"] f fd) (D1 : Df K mg "answers" sAnswers ["puzzle"] f1 fd1) (G1 : FnOk P w K mg base CX0 12 f1 fd1 ["puzzle"] (spAnswers pT)) : FnOk P w K mg base CX0 14 f fd ["puzzle", "answer"] (spFree pT) := by
  refine D.F.ok scFree (fun vs H Q E h => ?_) (fun cdv A outer s H vs Q E hr h => ?_)
  · obtain ⟨u, p, v, row, rfl, _⟩ := h
    rfl
  · obtain ⟨u, p, v, row, rfl, hp, ok, hv, hl, hT, k⟩ := h
    refine ⟨_, pss_cons (ps_set (i := 2) scFree.nd rfl (.inr rfl) (pe_call G1 (hr.mono (by decide)) (by rfl) D1.g D1.F.kp D1.b .nil pass0 (pa_cons (pv 0) pa_nil)))
      (pss_one (ps_ret (pe_callTy call_tuple_of (by rfl) B.tuple PyProof.Rows.boot_tuple (pa_cons
        (pe_lc (own := [("c", 3), ("value", 4)]) rfl scFree.nd (pi_enumT (by rfl) B.enumerate (pa_cons (pv 1) pa_nil)) (blkOk_by (N := ["puzzle", "answer", "found", "c", "value", "other"]) (sc := defScope sFree) (by decide +kernel))
          (fun _ _ _ _ _ => pg_tupK K (n := 2) rfl (pgs_cons (pg_name (i := 3) scFree.nd rfl (.inr rfl)) (pgs_cons (pg_name (i := 4) scFree.nd rfl (.inr rfl)) pgs_nil)))
          (fun _ _ _ _ _ => pts_one (pt_val (pe_callB (anyK K rfl) (by rfl) B.any PyProof.Rows.boot_any (pa_cons
            (pe_lc (own := [("other", 5)]) rfl scFree.nd (piT K (pv 2)) (blkOk_by rfl) (fun _ _ _ _ _ => pg_name (i := 5) scFree.nd rfl (.inl rfl)) (fun _ _ _ _ _ => pts_nil) (fun _ _ _ _ _ => pe_cmpR op_ne (pe_ix (ixT K) (pv 5) (pv 3) (fun _ _ => rfl)) (pv 4) (nomark _))) pa_nil))))
          (fun _ _ _ _ _ => pv 3)) pa_nil)))), ?_⟩
    refine ⟨_, rfl, u, p, rfl, hp, ok, hT, fun w1 H1 k1 h1 => ?_⟩
    obtain ⟨fa, fvs, rfl, hfa, pf⟩ := h1
    obtain ⟨va, rfl, hva⟩ := hv.kt (kt_kb k1)
    have fl := pf.length
    have n8 := ok.n8
    have a65 := ans_65 ok
    have smN : ∀ {A B : Hp} {L : Addr}, A L = none → (∀ b o, b ≠ L → A b = some o → B b = some o) → Same A B := fun hA z b o e => z b _ (fun z => by rw [z, hA] at e; cases e) e
    refine ⟨_, rfl, va, _, rfl, sqt hva, fun L hL => ?_⟩
    refine lc_it (walk_enumT (K := K) (a := va) (xs := row.map V.int)) (fun m H3 => H3 L = some (.lst ((nI ((List.range m).filter fun c => isFree p row c)).map V.int)) ∧ ∀ b o, b ≠ L → H1 b = some o → H3 b = some o) ⟨upd_same, fun b o hb e => by rw [upd_ne hb]; exact e⟩ (fun m H3 _ h => ?_) (fun m z H3 H4 hm h y => ?_) (fun H3 h => ?_)
    · exact sqt (h.2 _ _ (ne_of_none hva hL) hva)
    · obtain ⟨hA, kp3⟩ := h
      obtain ⟨T1, e1, dv, rfl, hT1, rfl, hi1, hdv⟩ := y
      cases hi1
      obtain ⟨c0, hc0, rfl⟩ := at_ints hdv
      have ml : m < row.length := (List.getElem?_eq_some_iff.mp hc0).1
      have g0 : row.getD m 0 = c0 := by rw [List.getD_eq_getElem?_getD, hc0]; rfl
      have sN := smN hL kp3
      have s4 : Same H1 (upd H3 T1 (.tup [.int (m : Nat), .int c0])) := Same.tr sN (same_new hT1)
      have hA4 := upd_at (o := .tup [.int (m : Nat), .int c0]) hT1 hA
      have kp4 : ∀ b o, b ≠ L → H1 b = some o → upd H3 T1 (.tup [.int (m : Nat), .int c0]) b = some o := fun b o hb e => upd_at hT1 (kp3 b o hb e)
      have al : ((nI ((List.range m).filter fun c => isFree p row c)).map V.int).length ≤ m := by
        unfold nI
        rw [List.length_map, List.length_map]
        exact Nat.le_trans (List.length_filter_le _ _) (by rw [List.length_range]; exact Nat.le_refl _)
      refine ⟨T1, _, rfl, sqt upd_same, rfl, _, _, rfl, _, _, rfl, rfl, rfl, ?_⟩
      generalize upd H3 T1 (.tup [.int (m : Nat), .int c0]) = H4 at s4 hA4 kp4
      refine ⟨_, rfl, fa, rfl, ⟨_, sqt (s4 _ _ hfa)⟩, fun M hM => ?_⟩
      refine lc_it (walk_tup (xs := fvs)) (fun j H5 => H5 = upd H4 M (.lst ((((answersOf p).take j).map fun o => decide (o.getD m 0 ≠ row.getD m 0)).map V.bl))) rfl (fun j H5 _ h => ?_) (fun j z H5 H6 hj h y => ?_) (fun H5 h => ?_)
      · subst h
        exact sqt (upd_at hM (s4 _ _ hfa))
      · obtain ⟨rfl, hz⟩ := y
        subst h
        obtain ⟨o, ho, ⟨oa, rfl, hoa⟩⟩ := paired_at pf hz
        have ol : o.length = p.doms.length := ans_len (List.mem_of_getElem? ho)
        have hat : (o.map V.int)[m]? = some (.int (o.getD m 0)) := by
          rw [List.getElem?_map, List.getD_eq_getElem?_getD, List.getElem?_eq_getElem (by omega : m < o.length)]
          rfl
        have jl := (List.getElem?_eq_some_iff.mp ho).1
        refine ⟨rfl, _, rfl, _, rfl, oa, _, _, _, rfl, rfl, sqt (upd_at hM (s4 _ _ hoa)), L2.atI_nat hat, _, rfl, rfl, _, upd_same, by rw [List.length_map, List.length_map, List.length_take, sizeLine_eq]; omega, ?_⟩
        rw [upd_upd, List.take_add_one, ho, g0, List.map_append, List.map_append]
        have e : (!decide (V.int (o.getD m 0) = V.int c0)) = decide (o.getD m 0 ≠ c0) := by
          by_cases h : o.getD m 0 = c0 <;> simp [h]
        rw [e]
        rfl
      · rw [fl, List.take_length] at h
        subst h
        have hAM := upd_at (o := .lst (((answersOf p).map fun o => decide (o.getD m 0 ≠ row.getD m 0)).map V.bl)) hM hA4
        refine ⟨M, _, rfl, sql upd_same, _, rfl, ?_⟩
        have e : (((answersOf p).map fun o => decide (o.getD m 0 ≠ row.getD m 0)).any id) = isFree p row m := by
          unfold isFree
          rw [List.any_map]
          rfl
        have tk : nI ((List.range (m + 1)).filter fun c => isFree p row c) = nI ((List.range m).filter fun c => isFree p row c) ++ if isFree p row m = true then [((m : Nat) : Int)] else [] := by
          unfold nI
          rw [List.range_succ, List.filter_append, List.map_append]
          by_cases e : isFree p row m = true <;> simp [e]
        by_cases h : isFree p row m = true
        · refine ifT (e.trans h) ⟨_, rfl, _, hAM, by rw [sizeLine_eq]; omega, ?_, fun b o hb eb => ?_⟩
          · rw [upd_same, tk, if_pos h, List.map_append]
            rfl
          · rw [upd_ne hb]
            exact upd_at hM (kp4 b o hb eb)
        · have h' : isFree p row m = false := by simpa using h
          refine ifF (e.trans h') ⟨?_, fun b o hb eb => upd_at hM (kp4 b o hb eb)⟩
          rw [hAM, tk, if_neg h, List.append_nil]
    obtain ⟨hA, kp3⟩ := h
    rw [List.length_map] at hA
    refine ⟨L, _, rfl, .inl ⟨sql hA, fun T5 hT5 => ?_⟩⟩
    exact k _ _ (k1.trans (kb_same (Same.tr (smN hL kp3) (same_new hT5)))) ⟨T5, rfl, upd_same⟩
end
end G9

set_option Elab.async false
set_option linter.all false
set_option maxRecDepth 100000
set_option maxHeartbeats 4000000
namespace G9
open PySem PySem.Spec PyProof.Rows L2 GX
/-- the source's dict -/
def srcK (cs : Addr) (l m t : Int) : List (Key × V) := [(.inr "cells", .ref cs), (.inr "left", .int l), (.inr "mixed", .int m), (.inr "turn", .int t)]
theorem kne (a b : Str) (h : ¬ a = b) : ¬ ((Sum.inr a : Key) = Sum.inr b) := fun e => h (Sum.inr.inj e)
theorem src_cells (cs : Addr) (l m t : Int) : valV (srcK cs l m t) (.inr "cells") = some (.ref cs) := valV_pos rfl
theorem src_left (cs : Addr) (l m t : Int) : valV (srcK cs l m t) (.inr "left") = some (.int l) := (valV_neg (kne _ _ (by decide +kernel))).trans (valV_pos rfl)
theorem src_mixed (cs : Addr) (l m t : Int) : valV (srcK cs l m t) (.inr "mixed") = some (.int m) := (valV_neg (kne _ _ (by decide +kernel))).trans ((valV_neg (kne _ _ (by decide +kernel))).trans (valV_pos rfl))
theorem src_turn (cs : Addr) (l m t : Int) : valV (srcK cs l m t) (.inr "turn") = some (.int t) := (valV_neg (kne _ _ (by decide +kernel))).trans ((valV_neg (kne _ _ (by decide +kernel))).trans ((valV_neg (kne _ _ (by decide +kernel))).trans (valV_pos rfl)))
theorem any_key {kvs : List (Key × V)} {k : Key} {v : V} (h : valV kvs k = some v) : (kvs.any fun kv => decide (kv.1 = k)) = true := by
  induction kvs with
  | nil => cases h
  | cons p r ih =>
    rw [List.any_cons]
    by_cases e : p.1 = k
    · rw [decide_eq_true e, Bool.true_or]
    · rw [valV_neg e] at h
      rw [ih h, Bool.or_true]
theorem put_left (cs : Addr) (l m t l2 : Int) : putK (srcK cs l m t) (.inr "left") (.int l2) = srcK cs l2 m t := by
  unfold putK
  rw [if_pos (any_key (src_left cs l m t))]
  show [if (Sum.inr ("cells" : Str) : Key) = Sum.inr ("left" : Str) then _ else _, if (Sum.inr ("left" : Str) : Key) = Sum.inr ("left" : Str) then _ else _, if (Sum.inr ("mixed" : Str) : Key) = Sum.inr ("left" : Str) then _ else _, if (Sum.inr ("turn" : Str) : Key) = Sum.inr ("left" : Str) then _ else _] = _
  rw [if_neg (kne _ _ (by decide +kernel)), if_pos rfl, if_neg (kne _ _ (by decide +kernel)), if_neg (kne _ _ (by decide +kernel))]
  all_goals rfl
abbrev kq (x : Str) : Key := Sum.inr x
theorem merge_src (cs : Addr) (l m t : Int) : mergeK [] (srcK cs l m t) = srcK cs l m t := by
  show putK (putK (putK (putK [] (kq "cells") (.ref cs)) (kq "left") (.int l)) (kq "mixed") (.int m)) (kq "turn") (.int t) = _
  rw [putK_new (kvs := []) (k := kq "cells") _ rfl]
  show putK (putK (putK [(kq "cells", V.ref cs)] (kq "left") (.int l)) (kq "mixed") (.int m)) (kq "turn") (.int t) = _
  rw [putK_new (kvs := [(kq "cells", V.ref cs)]) (k := kq "left") _ (valV_neg (kne _ _ (by decide +kernel)))]
  show putK (putK [(kq "cells", V.ref cs), (kq "left", .int l)] (kq "mixed") (.int m)) (kq "turn") (.int t) = _
  rw [putK_new (kvs := [(kq "cells", V.ref cs), (kq "left", .int l)]) (k := kq "mixed") _ ((valV_neg (kne _ _ (by decide +kernel))).trans (valV_neg (kne _ _ (by decide +kernel))))]
  show putK [(kq "cells", V.ref cs), (kq "left", .int l), (kq "mixed", .int m)] (kq "turn") (.int t) = _
  rw [putK_new (kvs := [(kq "cells", V.ref cs), (kq "left", .int l), (kq "mixed", .int m)]) (k := kq "turn") _ ((valV_neg (kne _ _ (by decide +kernel))).trans ((valV_neg (kne _ _ (by decide +kernel))).trans (valV_neg (kne _ _ (by decide +kernel)))))]
  rfl
theorem put_turn (cs : Addr) (l m t t2 : Int) : putK (srcK cs l m t) (.inr "turn") (.int t2) = srcK cs l m t2 := by
  unfold putK
  rw [if_pos (any_key (src_turn cs l m t))]
  show [if (Sum.inr ("cells" : Str) : Key) = Sum.inr ("turn" : Str) then _ else _, if (Sum.inr ("left" : Str) : Key) = Sum.inr ("turn" : Str) then _ else _, if (Sum.inr ("mixed" : Str) : Key) = Sum.inr ("turn" : Str) then _ else _, if (Sum.inr ("turn" : Str) : Key) = Sum.inr ("turn" : Str) then _ else _] = _
  rw [if_neg (kne _ _ (by decide +kernel)), if_neg (kne _ _ (by decide +kernel)), if_neg (kne _ _ (by decide +kernel)), if_pos rfl]
  all_goals rfl
/-- the source at d, its cells at cs -/
def SrcAt (H : Hp) (d cs : Addr) : Prop := ∃ (zs : List Int) (l m t : Int), H d = some (.dK (srcK cs l m t)) ∧ H cs = some (.lst (zs.map V.int)) ∧ zs.length ≤ 100 ∧ (∀ z ∈ zs, 0 ≤ z) ∧ 0 ≤ l ∧ 0 ≤ m ∧ 0 ≤ t
def spOpen (K : PySem.W.Frag) : Sp := fun vs H Q _ => ∃ (a : Addr) (ns : List Int), vs = [.ref a] ∧ SqL K H a (ns.map V.int) ∧ ns.length ≤ 63 ∧ ∀ d cs H', Same H H' → H d = none → H cs = none → SrcAt H' d cs → Q (.ref d) H'
def spPick : Sp := fun vs H Q _ => ∃ (d cs : Addr) (most : Int), vs = [.ref d, .int most] ∧ SrcAt H d cs ∧ most < 1073741824 ∧
  ∀ r H', (most < 2 → r = 0) → (2 ≤ most → 0 ≤ r ∧ r < most) → SrcAt H' d cs → (∀ b o, b ≠ d → b ≠ cs → H b = some o → H' b = some o) → Q (.int r) H'
section
variable {H : Hp} {d cs : Addr} {l m t : Int}
theorem g_cells (hd : H d = some (.dK (srcK cs l m t))) : DGet H d (.str "cells") (some (.ref cs)) := by
  have := DGet.k (k := (Sum.inr "cells" : Key)) hd
  rw [src_cells] at this
  exact this
theorem g_left (hd : H d = some (.dK (srcK cs l m t))) : DGet H d (.str "left") (some (.int l)) := by
  have := DGet.k (k := (Sum.inr "left" : Key)) hd
  rw [src_left] at this
  exact this
theorem g_mixed (hd : H d = some (.dK (srcK cs l m t))) : DGet H d (.str "mixed") (some (.int m)) := by
  have := DGet.k (k := (Sum.inr "mixed" : Key)) hd
  rw [src_mixed] at this
  exact this
theorem g_turn (hd : H d = some (.dK (srcK cs l m t))) : DGet H d (.str "turn") (some (.int t)) := by
  have := DGet.k (k := (Sum.inr "turn" : Key)) hd
  rw [src_turn] at this
  exact this
theorem p_left (l2 : Int) (hd : H d = some (.dK (srcK cs l m t))) : DPut H d (.str "left") (.int l2) (upd H d (.dK (srcK cs l2 m t))) := by
  have := DPut.k (k := (Sum.inr "left" : Key)) (v := .int l2) hd (by show 4 < sizeLine; decide)
  rw [put_left] at this
  exact this
theorem p_turn (t2 : Int) (hd : H d = some (.dK (srcK cs l m t))) : DPut H d (.str "turn") (.int t2) (upd H d (.dK (srcK cs l m t2))) := by
  have := DPut.k (k := (Sum.inr "turn" : Key)) (v := .int t2) hd (by show 4 < sizeLine; decide)
  rw [put_turn] at this
  exact this
end
structure TxtO (K : PySem.W.Frag) (mg : Str → Option Value) (fOpen fPick : Addr) (dOpen dPick : FuncData) : Prop where
  FOpen : Fun K "_law_open_cells" "_law_open_cells" sOpen fOpen dOpen
  bOpen : Binds K dOpen ["_law_script"] []
  gOpen : mg "_law_open_cells" = some (.ref fOpen)
  FPick : Fun K "_law_pick" "_law_pick" sPick fPick dPick
  bPick : Binds K dPick ["_law_source", "_law_most"] []
  gPick : mg "_law_pick" = some (.ref fPick)
  abs : mg "abs" = none
  int : mg "int" = none
  len : mg "len" = none
section
variable {P : Program} {w : World} {K : PySem.W.Frag} {mg : Str → Option Value} {base : Heap} {fOpen fPick : Addr} {dOpen dPick : FuncData}
theorem ok_pick (T : TxtO K mg fOpen fPick dOpen dPick) : FnOk P w K mg base CX0 1 fPick dPick ["_law_source", "_law_most"] spPick := by
  refine T.FPick.ok scPick (fun vs H Q E h => ?_) (fun cdv A outer s H vs Q E hr h => ?_)
  · obtain ⟨d, cs, most, rfl, _⟩ := h
    rfl
  · obtain ⟨d, cs, most, rfl, ⟨zs, l, m, t, hd, hcs, hzl, hz, hl, hm, ht⟩, hmo, k⟩ := h
    have hu := hu_of hr
    have ncd : cs ≠ d := ne_of hcs hd (by intro z; cases z)
    refine ⟨_, pss_cons (ps_if (pt_cmpR op_lt (pv 1) pe_int (nomark _)) (pss_one (ps_ret pe_int)) pss_nil)
      (pss_cons (ps_set (i := 2) scPick.nd rfl (.inl rfl) (pe_dget hu (pv 0) pe_str (fun _ _ => rfl)))
      (pss_cons (ps_while PassesOwn.never (pw_and (pt_cmpR op_lt (pe_dget hu (pv 0) pe_str (fun _ _ => rfl)) pe_int (nomark _)) (pw_and1 (pt_cmpR op_gt (pe_callB call_len_seq (by rfl) T.len PySem.boot_len (pa_cons (pv 2) pa_nil)) pe_int (nomark _)))).pt
        (pss_one (ps_dput hu (pv 0) pe_str (pe_bm0 PySem.F.plainAttrs_list PySem.F.slot_list_pop PySem.F.type_list_pop mt_pop (pv 2)) rfl)))
      (pss_cons (ps_set (i := 3) scPick.nd rfl (.inl rfl) (pe_dget hu (pv 0) pe_str (fun _ _ => rfl)))
      (pss_cons (ps_if (pt_cmpR op_gt (pv 3) pe_int (nomark _))
        (pss_cons (ps_dput hu (pv 0) pe_str (pe_op op_fdiv (pv 3) (pv 1)) rfl)
        (pss_one (ps_ret (pe_op op_mod (pe_callTy call_int1 (by rfl) T.int PyProof.Rows.boot_int (pa_cons (pv 3) pa_nil)) (pv 1))))) pss_nil)
      (pss_cons (ps_dput hu (pv 0) pe_str (pe_op op_add (pe_dget hu (pv 0) pe_str (fun _ _ => rfl)) pe_int) rfl)
      (pss_cons (ps_set (i := 4) scPick.nd rfl (.inl rfl) (pe_dget hu (pv 0) pe_str (fun _ _ => rfl)))
      (pss_cons (ps_set (i := 5) scPick.nd rfl (.inl rfl) (pe_op op_mod (pe_callTy call_int1 (by rfl) T.int PyProof.Rows.boot_int (pa_cons (pe_op op_add (pe_dget hu (pv 0) pe_str (fun _ _ => rfl)) (pe_op op_mul (pv 4) pe_int)) pa_nil)) pe_int))
      (pss_cons (ps_set (i := 5) scPick.nd rfl (.inl rfl) (pe_op op_mod (pe_callTy call_int1 (by rfl) T.int PyProof.Rows.boot_int (pa_cons (pe_op op_add (pe_op op_mul (pv 5) (pv 5)) (pe_op op_mul (pv 4) pe_int)) pa_nil)) pe_int))
      (pss_one (ps_ret (pe_op op_mod (pe_callTy call_int1 (by rfl) T.int PyProof.Rows.boot_int (pa_cons (pe_op op_fdiv (pv 5) pe_int) pa_nil)) (pv 1)))))))))))), ?_⟩
    -- if most < 2
    refine ⟨_, rfl, _, _, rfl, rfl, _, rfl, ?_⟩
    by_cases h2 : most < 2
    · refine ifT (decide_eq_true h2) ?_
      exact k 0 H (fun _ => rfl) (fun z => absurd h2 (by omega)) ⟨zs, l, m, t, hd, hcs, hzl, hz, hl, hm, ht⟩ fun b o _ _ e => e
    · refine ifF (decide_eq_false h2) ?_
      refine ⟨_, rfl, d, _, rfl, g_cells hd, ?_⟩
      refine ⟨fun n σ H' => ∃ (zs : List Int) (l : Int), n = zs.length ∧ σ = [some (.ref d), some (.int most), some (.ref cs), none, none, none] ∧ H' d = some (.dK (srcK cs l m t)) ∧ H' cs = some (.lst (zs.map V.int)) ∧ zs.length ≤ 100 ∧ (∀ z ∈ zs, 0 ≤ z) ∧ 0 ≤ l ∧ (∀ b o, b ≠ d → b ≠ cs → H b = some o → H' b = some o),
        ⟨_, zs, l, rfl, rfl, hd, hcs, hzl, hz, hl, fun b o _ _ e => e⟩, fun n σ H' hW => ?_⟩
      clear hd hcs hzl hz hl
      obtain ⟨zs, l, rfl, rfl, hd, hcs, hzl, hz, hl, hk⟩ := hW
      suffices fin : _ by
        refine ⟨_, rfl, d, _, rfl, g_left hd, _, _, rfl, rfl, _, rfl, ?_⟩
        by_cases c1 : l < 2
        · refine ifT (decide_eq_true c1) ?_
          refine ⟨_, rfl, cs, _, rfl, .inl (.inl (.inl hcs)), _, _, rfl, rfl, _, rfl, ?_⟩
          rw [List.length_map]
          by_cases c2 : zs = []
          · subst c2
            exact ifF rfl fin
          · have hpos : 0 < zs.length := List.length_pos_iff.mpr c2
            refine ifT (decide_eq_true (by omega)) ?_
            refine ⟨fun σ' H'' => ∃ (zs' : List Int) (l : Int), zs'.length < zs.length ∧ σ' = [some (.ref d), some (.int most), some (.ref cs), none, none, none] ∧ H'' d = some (.dK (srcK cs l m t)) ∧ H'' cs = some (.lst (zs'.map V.int)) ∧ zs'.length ≤ 100 ∧ (∀ z ∈ zs', 0 ≤ z) ∧ 0 ≤ l ∧ (∀ b o, b ≠ d → b ≠ cs → H b = some o → H'' b = some o), fun σ' H'' hN => ?_, ?_⟩
            · obtain ⟨zs', l', h1, h3⟩ := hN
              exact ⟨zs'.length, h1, zs', l', rfl, h3⟩
            have hlast : (zs.map V.int)[(zs.map V.int).length - 1]? = some (.int (zs.getLast c2)) := by
              rw [List.length_map, List.getElem?_map, ← List.getLast?_eq_getElem?, List.getLast?_eq_getLast c2]
              rfl
            refine ⟨_, rfl, .inl ⟨rfl, _, .inl (.inl hcs)⟩, cs, _, _, rfl, rfl, hcs, hlast, _, rfl, d, _, rfl, p_left _ (by rw [upd_ne ncd.symm]; exact hd), ?_⟩
            refine ⟨zs.dropLast, zs.getLast c2, ?_, rfl, upd_same, ?_, ?_, ?_, hz _ (List.getLast_mem c2), fun b o h1 h3 e => ?_⟩
            · rw [List.length_dropLast]
              omega
            · rw [upd_ne ncd, upd_same, List.map_dropLast]
            · rw [List.length_dropLast]
              omega
            · exact fun z hzm => hz z (List.dropLast_subset zs hzm)
            · rw [upd_ne h1, upd_ne h3]
              exact hk b o h1 h3 e
        · exact ifF (decide_eq_false c1) fin
      have old : ∀ (H2 : Hp), (∀ b, b ≠ d → H2 b = H' b) → ∀ b o, b ≠ d → b ≠ cs → H b = some o → H2 b = some o := fun H2 h b o h1 h3 e => (h b h1).trans (hk b o h1 h3 e)
      refine ⟨_, rfl, d, _, rfl, g_left hd, ?_⟩
      refine ⟨_, rfl, _, _, rfl, rfl, _, rfl, ?_⟩
      by_cases c3 : 1 < l
      · refine ifT (decide_eq_true c3) ?_
        refine ⟨_, rfl, _, rfl, _, _, rfl, rfl, ⟨by omega, hmo⟩, _, rfl, d, _, rfl, p_left _ hd, ?_⟩
        refine ⟨_, rfl, .inl ⟨_, rfl, _, rfl, _, _, rfl, rfl, (by show (0 : Int) < most; omega), ?_⟩⟩
        refine k _ _ (fun z => absurd z h2) (fun _ => ⟨Int.emod_nonneg _ (by omega), Int.emod_lt_of_pos _ (by omega)⟩) ⟨zs, l / most, m, t, upd_same, by rw [upd_ne ncd]; exact hcs, hzl, hz, Int.ediv_nonneg hl (by omega), hm, ht⟩ (old _ fun b hb => upd_ne hb)
      · refine ifF (decide_eq_false c3) ?_
        refine ⟨_, rfl, d, _, rfl, g_turn hd, _, _, rfl, rfl, _, rfl, d, _, rfl, p_turn _ hd, ?_⟩
        generalize hH2 : upd H' d (.dK (srcK cs l m (t + 1))) = H2
        have hd2 : H2 d = some (.dK (srcK cs l m (t + 1))) := by rw [← hH2, upd_same]
        have hcs2 : H2 cs = some (.lst (zs.map V.int)) := by rw [← hH2, upd_ne ncd]; exact hcs
        have ho2 := old H2 fun b hb => by rw [← hH2, upd_ne hb]
        clear hH2
        refine ⟨_, rfl, d, _, rfl, g_turn hd2, ?_⟩
        refine ⟨_, rfl, d, _, rfl, g_mixed hd2, _, rfl, _, _, rfl, rfl, .inr ⟨by decide, by decide⟩, _, _, rfl, rfl, .inl ⟨_, rfl, _, _, rfl, rfl, (by show (0 : Int) < 998244353; decide), ?_⟩⟩
        have b1 := Int.emod_nonneg (m + (t + 1) * 104729) (show (998244353 : Int) ≠ 0 by decide)
        have b2 := Int.emod_lt_of_pos (m + (t + 1) * 104729) (show (0 : Int) < 998244353 by decide)
        generalize (m + (t + 1) * 104729) % 998244353 = z1 at b1 b2 ⊢
        refine ⟨_, rfl, _, rfl, _, _, rfl, rfl, .inl ⟨by omega, by omega⟩, _, rfl, _, _, rfl, rfl, .inr ⟨by decide, by decide⟩, _, _, rfl, rfl, .inl ⟨_, rfl, _, _, rfl, rfl, (by show (0 : Int) < 2147483647; decide), ?_⟩⟩
        generalize (z1 * z1 + (t + 1) * 17) % 2147483647 = z2
        refine ⟨_, rfl, _, _, rfl, rfl, ⟨by decide, by decide⟩, .inl ⟨_, rfl, _, rfl, _, _, rfl, rfl, (by show (0 : Int) < most; omega), ?_⟩⟩
        exact k _ _ (fun z => absurd z h2) (fun _ => ⟨Int.emod_nonneg _ (by omega), Int.emod_lt_of_pos _ (by omega)⟩) ⟨zs, l, m, t + 1, hd2, hcs2, hzl, hz, hl, hm, by omega⟩ ho2
theorem ok_open (T : TxtO K mg fOpen fPick dOpen dPick) : FnOk P w K mg base CX0 1 fOpen dOpen ["_law_script"] (spOpen K) := by
  refine T.FOpen.ok scOpen (fun vs H Q E h => ?_) (fun cdv A outer s H vs Q E hr h => ?_)
  · obtain ⟨a, ns, rfl, _⟩ := h
    rfl
  · obtain ⟨a, ns, rfl, ha, hl, k⟩ := h
    have hu := hu_of hr
    refine ⟨_, pss_cons (ps_set (i := 1) scOpen.nd rfl (.inl rfl) pe_int)
      (pss_cons (ps_for PassesOwn.never rfl (pi_list (pv 0)) (pg_name (i := 2) scOpen.nd rfl (.inl rfl))
        (pss_one (ps_set (i := 1) scOpen.nd rfl (.inl rfl) (pe_op op_mod (pe_callTy call_int1 (by rfl) T.int PyProof.Rows.boot_int (pa_cons (pe_op op_add (pe_op op_add (pe_op op_mul (pv 1) pe_int) (pe_op op_mul (pv 2) pe_int)) pe_int) pa_nil)) pe_int))))
      (pss_cons (ps_setLc (i := 3) (own := [("_law_cell", 2)]) (g := gName 2) (tt := tYes) rfl scOpen.nd rfl rfl (sw_true rfl rfl rfl (by decide +kernel)) (pi_list (pv 0)) (blkOk_by (N := ["_law_script", "_law_stirred", "_law_cell", "_law_cells"]) (sc := defScope sOpen) (by decide +kernel))
          (fun _ _ _ _ _ => pg_name (i := 2) scOpen.nd rfl (.inl rfl)) (fun _ _ _ _ _ => pts_nil) (fun _ _ _ _ _ => pe_callB call_abs (by rfl) T.abs PyProof.Rows.boot_abs (pa_cons (pv 2) pa_nil)))
      (pss_one (ps_ret (pe_disp (pps_cons pe_str (pe_revL (pv 3)) (pps_cons pe_str pe_int (pps_cons pe_str (pv 1) (pps_cons pe_str pe_int pps_nil)))) rfl rfl (by decide) (by decide)))))), ?_⟩
    -- the loop
    refine ⟨_, rfl, a, rfl, ⟨_, ha⟩, for_list (K := K) (a := a) (xs := ns.map V.int) (fun i σ H' => ∃ (st : Int) (v : Option V), σ = [some (.ref a), some (.int st), v, none] ∧ 0 ≤ st ∧ H' = H) ⟨11, none, rfl, by decide, rfl⟩ (fun i σ H' _ h => ?_) (fun i x σ H' hx h => ?_) (fun σ H' h => ?_)⟩
    · obtain ⟨st, v, rfl, _, rfl⟩ := h
      exact ha
    · obtain ⟨st, v, rfl, h0, rfl⟩ := h
      obtain ⟨z, hz, rfl⟩ : ∃ z, ns[i]? = some z ∧ x = V.int z := by
        rw [List.getElem?_map] at hx
        cases e : ns[i]? with
        | none =>
          rw [e] at hx
          cases hx
        | some z =>
          rw [e] at hx
          exact ⟨z, rfl, (Option.some.inj hx).symm⟩
      refine ⟨_, rfl, _, _, rfl, rfl, .inr ⟨by decide, by decide⟩, _, rfl, _, _, rfl, rfl, .inr ⟨by decide, by decide⟩, _, _, rfl, rfl, _, _, rfl, rfl, .inl ⟨_, rfl, _, _, rfl, rfl, (by show (0 : Int) < 2147483629; decide), _, some (.int z), rfl, Int.emod_nonneg _ (by decide), rfl⟩⟩
    obtain ⟨st, v, rfl, h0, rfl⟩ := h
    -- the cells
    let ab : Int → Int := fun i => if i < 0 then -i else i
    refine ⟨_, rfl, a, rfl, ⟨_, ha⟩, fun D hD => ?_⟩
    have hseq : ∀ i, SqL K (upd H' D (.lst (((ns.take i).map ab).map V.int))) a (ns.map V.int) := fun i => (show Same H' (upd H' D (.lst (((ns.take i).map ab).map V.int))) from fun b o e => by
      rw [upd_ne (ne_of_none e hD)]
      exact e).seq ha
    refine lc_list (K := K) (a := a) (xs := ns.map V.int) (fun i H2 => H2 = upd H' D (.lst (((ns.take i).map ab).map V.int))) rfl (fun i H2 _ h => ?_) (fun i x H2 hx h => ?_) (fun H2 h => ?_)
    · rw [h]
      exact hseq i
    · obtain ⟨z, hz, rfl⟩ : ∃ z, ns[i]? = some z ∧ x = V.int z := by
        rw [List.getElem?_map] at hx
        cases e : ns[i]? with
        | none =>
          rw [e] at hx
          cases hx
        | some z =>
          rw [e] at hx
          exact ⟨z, rfl, (Option.some.inj hx).symm⟩
      have hlt := (List.getElem?_eq_some_iff.mp hz).1
      subst h
      refine ⟨rfl, ?_⟩
      refine ⟨_, rfl, z, rfl, _, upd_same, ?_, ?_⟩
      · rw [List.length_map, List.length_map, List.length_take, sizeLine_eq]
        omega
      · rw [upd_upd, List.take_add_one, hz, List.map_append, List.map_append]
        rfl
    · rw [List.length_map, List.take_length] at h
      subst h
      -- the dict
      have hz : ∀ z ∈ (ns.map ab).reverse, (0 : Int) ≤ z := fun z hm => by
        obtain ⟨y, hy, rfl⟩ := List.mem_map.mp (List.mem_reverse.mp hm)
        show 0 ≤ (if y < 0 then -y else y)
        split <;> omega
      refine fun p hp => ?_
      have npD : D ≠ p := ne_of_none upd_same hp
      have hDp : upd (upd H' D (.lst ((ns.map ab).map V.int))) p (.dK []) D = some (.lst ((ns.map ab).map V.int)) := by rw [upd_ne npD, upd_same]
      refine ⟨_, rfl, D, _, rfl, .inl (.inl hDp), fun cs hcs => ?_⟩
      have npc : p ≠ cs := ne_of_none upd_same hcs
      have nDc : D ≠ cs := ne_of_none hDp hcs
      have hcs0 : H' cs = none := by
        rw [upd_ne npc.symm, upd_ne nDc.symm] at hcs
        exact hcs
      have hp0 : H' p = none := by
        rw [upd_ne npD.symm] at hp
        exact hp
      refine ⟨_, rfl, by rw [upd_ne npc, upd_same], srcK cs 1 st 0, rfl, (by show 4 ≤ 15; decide), ?_⟩
      rw [merge_src]
      refine k p cs _ (fun b o e => ?_) hp0 hcs0 ⟨(ns.map ab).reverse, 1, st, 0, upd_same, by rw [upd_ne npc.symm, upd_same, List.map_reverse], by rw [List.length_reverse, List.length_map]; omega, hz, by decide, h0, by decide⟩
      rw [upd_ne (ne_of_none e hp0), upd_ne (ne_of_none e hcs0), upd_ne (ne_of_none e hp0), upd_ne (ne_of_none e hD)]
      exact e
end
end G9

set_option Elab.async false
set_option linter.all false
set_option maxRecDepth 100000
set_option maxHeartbeats 4000000
/-! the law's answers with a part -/
namespace G9
open PySem PySem.Spec PyProof.Rows L2 GX
def holds (f : List (Int × Int)) (row : List Int) : Bool := f.all fun q => decide (row.getD q.1.toNat 0 = q.2)
noncomputable def withOf (p : Puz) (f : List (Int × Int)) : List (List Int) := (answersOf p).filter fun row => holds f row
def spWith : Sp := fun vs H Q _ => ∃ u p fv f, vs = [u, fv] ∧ PzH H u p ∧ PzOk p ∧ RowsH H fv (f.map tie2) ∧ (∀ q ∈ f, 0 ≤ q.1 ∧ q.1 < (p.doms.length : Int)) ∧ f.length ≤ 1000 ∧ ∀ l H', Same H H' → H l = none → LRows H' (.ref l) (withOf p f) → Q (.ref l) H'
section
variable {P : Program} {w : World} {K : PySem.W.Frag} {mg : Str → Option Value} {base : Heap} {f f1 f2 f3 : Addr} {fd fd1 fd2 fd3 : FuncData} {pT : Addr}
theorem ok_with (B : Bl mg) (D : Df K mg "_law_with" sWith ["_law_puzzle", "_law_part"] f fd) (D1 : Df K mg "_law_answers" sLAnswers ["_law_puzzle"] f1 fd1) (G1 : FnOk P w K mg base CX0 5 f1 fd1 ["_law_puzzle"] spLAnswers) : FnOk P w K mg base CX0 7 f fd ["_law_puzzle", "_law_part"] spWith := by
  refine D.F.ok scWith (fun vs H Q E h => ?_) (fun cdv A outer s H vs Q E hr h => ?_)
  · obtain ⟨u, p, fv, fs, rfl, _⟩ := h
    rfl
  · obtain ⟨u, p, fv, fs, rfl, hp, ok, hf, hc, fl, k⟩ := h
    refine ⟨_, pss_one (ps_ret (pe_lc (own := [("_law_row", 2)]) rfl scWith.nd (pi_list (pe_call G1 (hr.mono (by decide)) (by rfl) D1.g D1.F.kp D1.b .nil pass0 (pa_cons (pv 0) pa_nil))) (blkOk_by (N := ["_law_puzzle", "_law_part", "_law_row", "_law_cell", "_law_value"]) (sc := defScope sWith) (by decide +kernel))
        (fun _ _ _ _ _ => pg_name (i := 2) scWith.nd rfl (.inr rfl))
        (fun _ _ _ _ _ => pts_one (pt_val (pe_callB (allK K rfl) (by rfl) B.all PyProof.Rows.boot_all (pa_cons
          (pe_lc (own := [("_law_cell", 3), ("_law_value", 4)]) rfl scWith.nd (piT K (pv 1)) (blkOk_by rfl) (fun _ _ _ _ _ => pg_tupK K (n := 2) rfl (pgs_cons (pg_name (i := 3) scWith.nd rfl (.inl rfl)) (pgs_cons (pg_name (i := 4) scWith.nd rfl (.inl rfl)) pgs_nil))) (fun _ _ _ _ _ => pts_nil) (fun _ _ _ _ _ => pe_cmpR op_eq (pe_ix (ixT K) (pv 2) (pv 3) (fun _ _ => rfl)) (pv 4) (nomark _))) pa_nil))))
        (fun _ _ _ _ _ => pv 2))), ?_⟩
    obtain ⟨fa, fvs, rfl, hfa, pf⟩ := hf
    have fvl : fvs.length = fs.length := by have := pf.length; rw [List.length_map] at this; exact this
    refine ⟨_, rfl, u, p, rfl, hp, ok, fun R H1 s1 hRn hR => ?_⟩
    obtain ⟨R', vs, eR, hRl, pR⟩ := hR
    cases eR
    have vl := pR.length
    have a65 := ans_65 ok
    have smN : ∀ {A B : Hp} {L : Addr}, A L = none → (∀ b o, b ≠ L → A b = some o → B b = some o) → Same A B := fun hA z b o e => z b _ (fun z => by rw [z, hA] at e; cases e) e
    refine ⟨R, rfl, ⟨_, sql hRl⟩, fun L hL => ?_⟩
    have nRL : R ≠ L := ne_of_none hRl hL
    refine lc_it (walk_list (K := K) (xs := vs)) (fun m H3 => ∃ acc, H3 L = some (.lst acc) ∧ Paired (IH H3) acc (((answersOf p).take m).filter fun row => holds fs row) ∧ ∀ b o, b ≠ L → H1 b = some o → H3 b = some o) ⟨[], upd_same, .nil, fun b o hb e => by rw [upd_ne hb]; exact e⟩ (fun m H3 _ h => ?_) (fun m z H3 H4 hm h y => ?_) (fun H3 h => ?_)
    · obtain ⟨_, _, _, kp⟩ := h
      exact sql (kp _ _ nRL hRl)
    · obtain ⟨rfl, hz⟩ := y
      obtain ⟨acc, hA, pA, kp⟩ := h
      have s4 := smN hL kp
      obtain ⟨row, hr1, ir⟩ := paired_at pR hz
      have rl := ans_len (List.mem_of_getElem? hr1)
      have ml := (List.getElem?_eq_some_iff.mp hr1).1
      have ir4 := ir.kt (kt_same s4)
      obtain ⟨ra, rfl, hra⟩ := ir4
      have al : acc.length ≤ m := by
        rw [pA.length]
        exact Nat.le_trans (List.length_filter_le _ _) (by rw [List.length_take]; exact Nat.min_le_left _ _)
      have hfa4 := s4 _ _ (s1 _ _ hfa)
      refine ⟨rfl, _, rfl, fa, rfl, ⟨_, sqt hfa4⟩, fun M hM => ?_⟩
      refine lc_it (walk_tup (xs := fvs)) (fun j H5 => H5 = upd H4 M (.lst (((fs.take j).map fun q => decide (row.getD q.1.toNat 0 = q.2)).map V.bl))) rfl (fun j H5 _ h => ?_) (fun j z H5 H6 hj h y => ?_) (fun H5 h => ?_)
      · subst h
        exact sqt (upd_at hM hfa4)
      · obtain ⟨rfl, hz5⟩ := y
        subst h
        obtain ⟨r, hr2, ir2⟩ := paired_at pf hz5
        obtain ⟨q0, hq0, rfl⟩ : ∃ q0, fs[j]? = some q0 ∧ r = tie2 q0 := by
          rw [List.getElem?_map] at hr2
          cases e : fs[j]? with
          | none => rw [e] at hr2; cases hr2
          | some q => rw [e] at hr2; exact ⟨q, rfl, (Option.some.inj hr2).symm⟩
        obtain ⟨tb, rfl, htb⟩ := ir2
        have hat : atI (row.map V.int) q0.1 = some (.int (row.getD q0.1.toNat 0)) := pick_at (vals := row) (cs := [q0.1]) (fun c hm => by rw [List.mem_singleton.mp hm, rl]; exact hc q0 (List.mem_of_getElem? hq0)) (List.mem_singleton.mpr rfl)
        have jl := (List.getElem?_eq_some_iff.mp hq0).1
        refine ⟨tb, _, rfl, sqt (upd_at hM (s4 _ _ (s1 _ _ htb))), rfl, _, _, rfl, _, _, rfl, rfl, rfl, _, rfl, _, rfl, ra, _, _, _, rfl, rfl, sqt (upd_at hM hra), hat, _, rfl, rfl, _, upd_same, by rw [List.length_map, List.length_map, List.length_take, sizeLine_eq]; omega, ?_⟩
        rw [upd_upd, List.take_add_one, hq0, List.map_append, List.map_append]
        have e : decide (V.int (row.getD q0.1.toNat 0) = V.int q0.2) = decide (row.getD q0.1.toNat 0 = q0.2) := by
          by_cases h : row.getD q0.1.toNat 0 = q0.2 <;> simp [h]
        rw [e]
        rfl
      · rw [fvl, List.take_length] at h
        subst h
        have hAM := upd_at (o := .lst ((fs.map fun q => decide (row.getD q.1.toNat 0 = q.2)).map V.bl)) hM hA
        have sM : Same H4 (upd H4 M (.lst ((fs.map fun q => decide (row.getD q.1.toNat 0 = q.2)).map V.bl))) := same_new hM
        refine ⟨M, _, rfl, sql upd_same, _, rfl, ?_⟩
        have e : ((fs.map fun q => decide (row.getD q.1.toNat 0 = q.2)).all id) = holds fs row := by
          unfold holds
          rw [List.all_map]
          rfl
        have tk : (answersOf p).take (m + 1) = (answersOf p).take m ++ [row] := by rw [List.take_add_one, hr1]; rfl
        by_cases h : holds fs row = true
        · refine ifT (e.trans h) ⟨_, rfl, _, hAM, by rw [sizeLine_eq]; omega, acc ++ [.ref ra], upd_same, ?_, fun b o hb eb => ?_⟩
          · rw [tk, List.filter_append]
            have : [row].filter (fun row => holds fs row) = [row] := by simp [h]
            rw [this]
            exact paired_app (paired_mono (fun _ _ q => (q.kt (kt_same sM)).kt (ktL hAM)) pA) (paired_one ⟨ra, rfl, ktL hAM _ _ (sM _ _ hra)⟩)
          · rw [upd_ne hb]
            exact sM _ _ (kp b o hb eb)
        · have h' : holds fs row = false := by simpa using h
          refine ifF (e.trans h') ⟨acc, hAM, ?_, fun b o hb eb => sM _ _ (kp b o hb eb)⟩
          rw [tk, List.filter_append]
          have : [row].filter (fun row => holds fs row) = [] := by simp [h']
          rw [this, List.append_nil]
          exact paired_mono (fun _ _ q => q.kt (kt_same sM)) pA
    obtain ⟨acc, hA, pA, kp⟩ := h
    rw [vl, List.take_length] at pA
    exact k L H3 (Same.tr s1 (smN hL kp)) (none_same s1 hL) ⟨L, acc, rfl, hA, pA⟩
end
end G9

set_option Elab.async false
set_option linter.all false
set_option maxRecDepth 100000
set_option maxHeartbeats 4000000
/-! the law's any_order -/
namespace G9
open PySem PySem.Spec PyProof.Rows L2 GX
/-- all but the source stays -/
def Rn (d cs : Addr) (H H' : Hp) : Prop := ∀ b o, b ≠ d → b ≠ cs → H b = some o → H' b = some o
theorem Rn.refl (d cs : Addr) (H : Hp) : Rn d cs H H := fun _ _ _ _ e => e
theorem Rn.trans {d cs : Addr} {A B C : Hp} (h : Rn d cs A B) (g : Rn d cs B C) : Rn d cs A C := fun b o h1 h2 e => g b o h1 h2 (h b o h1 h2 e)
theorem rn_same {d cs : Addr} {H H' : Hp} (h : Same H H') : Rn d cs H H' := fun b o _ _ e => h b o e
theorem SrcAt.ne {H : Hp} {d cs b : Addr} {xs : List V} (h : SrcAt H d cs) (hb : H b = some (.tup xs)) : b ≠ d ∧ b ≠ cs := by
  obtain ⟨zs, l, m, t, hd, hcs, _⟩ := h
  exact ⟨ne_of hb hd (fun z => by cases z), ne_of hb hcs (fun z => by cases z)⟩
theorem Rn.kt {d cs : Addr} {H H' : Hp} (hs : SrcAt H d cs) (h : Rn d cs H H') : Kt H H' := fun b xs e => h b _ (hs.ne e).1 (hs.ne e).2 e
theorem SrcAt.same {H H' : Hp} {d cs : Addr} (h : SrcAt H d cs) (k : Same H H') : SrcAt H' d cs := by
  obtain ⟨zs, l, m, t, hd, hcs, r⟩ := h
  exact ⟨zs, l, m, t, k _ _ hd, k _ _ hcs, r⟩
theorem SrcAt.kb {H H' : Hp} {d cs : Addr} (h : SrcAt H d cs) (k : Kb H H') : SrcAt H' d cs := by
  obtain ⟨zs, l, m, t, hd, hcs, r⟩ := h
  exact ⟨zs, l, m, t, k.1 _ _ (fun ps z => by cases z) hd, k.1 _ _ (fun ps z => by cases z) hcs, r⟩
theorem SrcAt.none {H : Hp} {d cs b : Addr} (h : SrcAt H d cs) (hb : H b = none) : b ≠ d ∧ b ≠ cs := by
  obtain ⟨zs, l, m, t, hd, hcs, _⟩ := h
  exact ⟨(ne_of_none hd hb).symm, (ne_of_none hcs hb).symm⟩
theorem SrcAt.upd {H : Hp} {d cs b : Addr} {o : HO} (h : SrcAt H d cs) (h1 : b ≠ d) (h2 : b ≠ cs) : SrcAt (upd H b o) d cs := by
  obtain ⟨zs, l, m, t, hd, hcs, r⟩ := h
  exact ⟨zs, l, m, t, by rw [upd_ne h1.symm]; exact hd, by rw [upd_ne h2.symm]; exact hcs, r⟩
theorem lenK (K : PySem.W.Frag) {X : Cx} (h : X.K = K := by rfl) : CallR X (.builtin "len") (fun xs H Q => ∃ p ys, xs = [.ref p] ∧ (SqL K H p ys ∨ SqT K H p ys) ∧ Q (.int ys.length) H) := h ▸ call_len_seq
theorem erase_map {α β : Type} (g : α → β) : ∀ (l : List α) (i : Nat), (l.map g).eraseIdx i = (l.eraseIdx i).map g
  | [], _ => rfl
  | a :: l, 0 => rfl
  | a :: l, i + 1 => congrArg (g a :: ·) (erase_map g l i)
theorem erase_perm {α : Type} : ∀ {l : List α} {i : Nat} (h : i < l.length), (l[i] :: l.eraseIdx i).Perm l
  | a :: l, 0, _ => .refl _
  | a :: l, i + 1, h => (List.Perm.swap a _ _).trans (.cons a (erase_perm (l := l) (i := i) (by simpa using h)))
def spOrder : Sp := fun vs H Q _ => ∃ d cs tv ns, vs = [.ref d, tv] ∧ SrcAt H d cs ∧ IL H tv ns ∧ ns.length ≤ 1000 ∧ ∀ (l : Addr) (ns' : List Int) (H' : Hp), ns'.Perm ns → SrcAt H' d cs → Rn d cs H H' → H l = none → H' l = some (.lst (ns'.map V.int)) → Q (.ref l) H'
section
variable {P : Program} {w : World} {K : PySem.W.Frag} {mg : Str → Option Value} {base : Heap} {f fP : Addr} {fd dP : FuncData}
theorem ok_order (B : Bl mg) (D : Df K mg "_law_any_order" sOrder ["_law_source", "_law_things"] f fd) (DP : Df K mg "_law_pick" sPick ["_law_source", "_law_most"] fP dP) (GP : FnOk P w K mg base CX0 1 fP dP ["_law_source", "_law_most"] spPick) : FnOk P w K mg base CX0 3 f fd ["_law_source", "_law_things"] spOrder := by
  refine D.F.ok scOrder (fun vs H Q E h => ?_) (fun cdv A outer s H vs Q E hr h => ?_)
  · obtain ⟨d, cs, tv, ns, rfl, _⟩ := h
    rfl
  · obtain ⟨d, cs, tv, ns, rfl, hs, ht, hn, k⟩ := h
    refine ⟨_, pss_cons (ps_set (i := 2) scOrder.nd rfl (.inr rfl) (pe_callTy call_list_of (by rfl) B.list PyProof.Rows.boot_list (pa_cons (pv 1) pa_nil)))
      (pss_one (ps_ret (pe_lc (own := [("_law_lap", 3)]) rfl scOrder.nd (pi_range1 (by rfl) B.range (pa_cons (pe_callB call_len_seq (by rfl) B.len PySem.boot_len (pa_cons (pv 2) pa_nil)) pa_nil)) (blkOk_by (N := ["_law_source", "_law_things", "_law_others", "_law_lap"]) (sc := defScope sOrder) (by decide +kernel))
        (fun _ _ _ _ _ => pg_name (i := 3) scOrder.nd rfl (.inl rfl)) (fun _ _ _ _ _ => pts_nil)
        (fun _ _ _ _ _ => (show PE _ _ (tBM K "list" rPopAt _ _) from pe_bm PySem.F.plainAttrs_list PySem.F.slot_list_pop PySem.F.type_list_pop mt_popAt (pv 2) (pa_cons (pe_call GP (hr.mono (by decide)) (by rfl) DP.g DP.F.kp DP.b .nil pass0 (pa_cons (pv 0) (pa_cons (pe_callB (lenK K) (by rfl) B.len PySem.boot_len (pa_cons (pv 2) pa_nil)) pa_nil))) pa_nil)))))), ?_⟩
    obtain ⟨ta, rfl, hta⟩ := ht
    refine ⟨_, rfl, ta, _, rfl, .inl (sql hta), fun ot hot => ?_⟩
    have n1 := hs.none hot
    refine ⟨_, rfl, ot, _, rfl, .inl (sql upd_same), _, rfl, by omega, by rw [List.length_map]; omega, fun L hL => ?_⟩
    have hs1 : SrcAt (upd H ot (.lst (ns.map V.int))) d cs := hs.upd n1.1 n1.2
    have n2 := hs1.none hL
    have n3 : ot ≠ L := ne_of_none upd_same hL
    have hLH : H L = none := none_under hL
    rw [List.length_map]
    refine lc_it (walk_range (lo := 0) (n := ((ns.length : Nat) : Int).toNat)) (fun i H' => ∃ done rest : List Int, H' ot = some (.lst (rest.map V.int)) ∧ H' L = some (.lst (done.map V.int)) ∧ (done ++ rest).Perm ns ∧ rest.length + i = ns.length ∧ SrcAt H' d cs ∧ Rn d cs H H')
      ⟨[], ns, upd_at hL upd_same, upd_same, .refl _, rfl, hs1.upd n2.1 n2.2, fun b o _ _ e => upd_at hL (upd_at hot e)⟩ (fun i H' _ h => trivial) (fun i x H' H'' hi h y => ?_) (fun H' h => ?_)
    · obtain ⟨done, rest, hO, hLd, pm, rl, hs', rn⟩ := h
      obtain ⟨rfl, rfl⟩ := y
      have ilt : i < ns.length := by rw [Int.toNat_natCast] at hi; exact hi
      have dl : done.length ≤ ns.length := by
        have := pm.length_eq
        rw [List.length_append] at this
        omega
      refine ⟨rfl, _, rfl, .inl ⟨rfl, _, sql hO⟩, _, rfl, _, rfl, ot, _, rfl, .inl (sql hO), d, cs, _, rfl, hs', by rw [List.length_map]; omega, fun r H1 r0 r1 hs2 rn2 => ?_⟩
      rw [List.length_map] at r0 r1
      have rb : 0 ≤ r ∧ r < (rest.length : Int) := by
        by_cases h2 : (rest.length : Int) < 2
        · have := r0 h2
          omega
        · exact r1 (by omega)
      have hO1 : H1 ot = some (.lst (rest.map V.int)) := rn2 _ _ n1.1 n1.2 hO
      have hL1 : H1 L = some (.lst (done.map V.int)) := rn2 _ _ n2.1 n2.2 hLd
      have rlt : r.toNat < rest.length := by omega
      refine ⟨ot, _, r, r.toNat, .int (rest[r.toNat]'rlt), rfl, rfl, hO1, by omega, by omega, ?_, ?_, ?_⟩
      · rw [List.length_map]
        exact seqIndex_of rb.1 rb.2
      · rw [List.getElem?_map, List.getElem?_eq_getElem rlt]
        rfl
      · have hL2 : upd H1 ot (.lst ((rest.map V.int).eraseIdx r.toNat)) L = some (.lst (done.map V.int)) := by rw [upd_ne n3.symm]; exact hL1
        refine ⟨_, hL2, by rw [List.length_map, sizeLine_eq]; omega, done ++ [rest[r.toNat]'rlt], rest.eraseIdx r.toNat, ?_, ?_, ?_, ?_, (hs2.upd n1.1 n1.2).upd n2.1 n2.2, fun b o h1 h2 e => ?_⟩
        · rw [upd_ne n3, upd_same, erase_map]
        · rw [upd_same, List.map_append]
          rfl
        · refine .trans ?_ pm
          rw [List.append_assoc]
          exact .append_left _ (erase_perm rlt)
        · rw [List.length_eraseIdx_of_lt rlt]
          omega
        · rw [upd_ne (fun z => by rw [z, hLH] at e; cases e), upd_ne (fun z => by rw [z, hot] at e; cases e)]
          exact rn2 b o h1 h2 (rn b o h1 h2 e)
    · obtain ⟨done, rest, hO, hLd, pm, rl, hs', rn⟩ := h
      rw [Int.toNat_natCast] at rl
      have : rest = [] := List.eq_nil_of_length_eq_zero (by omega)
      subst this
      rw [List.append_nil] at pm
      exact k L done H' pm hs' rn hLH hLd
end
end G9

set_option Elab.async false
set_option linter.all false
set_option maxRecDepth 100000
set_option maxHeartbeats 4000000
/-! the law's drawn parts -/
namespace G9
open PySem PySem.Spec PyProof.Rows L2 GX
/-- a part of a puzzle -/
structure PartOk (p : Puz) (f : List (Int × Int)) : Prop where
  nd : (f.map (·.1)).Nodup
  cell : ∀ q ∈ f, 0 ≤ q.1 ∧ q.1 < (p.doms.length : Int)
  val : ∀ q ∈ f, q.2 ∈ p.doms.getD q.1.toNat []
  len : f.length ≤ 1000
def spDrawPart : Sp := fun vs H Q _ => ∃ d cs u p most, vs = [.ref d, u, .int most] ∧ SrcAt H d cs ∧ PzH H u p ∧ PzOk p ∧ 0 ≤ most ∧ most ≤ 1000 ∧ ∀ w f H', PartOk p f → SrcAt H' d cs → Rn d cs H H' → RowsH H' w (f.map tie2) → Q w H'
theorem paired_map {α β γ : Type} {R : α → γ → Prop} {g : β → γ} : ∀ {vs : List α} {f : List β}, Paired (fun x q => R x (g q)) vs f → Paired R vs (f.map g)
  | _, _, .nil => .nil
  | _, _, .cons a r => .cons a (paired_map r)
theorem rgV_nI (n : Nat) : rgV 0 (n : Int) = (nI (List.range n)).map V.int := by
  unfold rgV nI
  simp
theorem cut_take (xs : List V) {r : Int} (h : 0 ≤ r) : cutV xs none (some r) = xs.take r.toNat := by
  unfold cutV
  have e0 : HT.sIx xs.length 0 none = 0 := rfl
  have e1 : HT.sIx xs.length xs.length (some r) = min r.toNat xs.length := by
    unfold HT.sIx
    simp
    omega
  rw [e0, e1, List.drop_zero, Nat.sub_zero]
  by_cases z : r.toNat ≤ xs.length
  · rw [Nat.min_eq_left z]
  · rw [Nat.min_eq_right (by omega), List.take_length, List.take_of_length_le (by omega)]
section
variable {P : Program} {w : World} {K : PySem.W.Frag} {mg : Str → Option Value} {base : Heap} {f fP fO : Addr} {fd dP dO : FuncData}
theorem ok_drawPart (B : Bl mg) (D : Df K mg "_law_draw_part" sDrawPart ["_law_source", "_law_puzzle", "_law_most"] f fd) (DP : Df K mg "_law_pick" sPick ["_law_source", "_law_most"] fP dP) (GP : FnOk P w K mg base CX0 1 fP dP ["_law_source", "_law_most"] spPick)
    (DO : Df K mg "_law_any_order" sOrder ["_law_source", "_law_things"] fO dO) (GO : FnOk P w K mg base CX0 3 fO dO ["_law_source", "_law_things"] spOrder) : FnOk P w K mg base CX0 5 f fd ["_law_source", "_law_puzzle", "_law_most"] spDrawPart := by
  refine D.F.ok scDrawPart (fun vs H Q E h => ?_) (fun cdv A outer s H vs Q E hr h => ?_)
  · obtain ⟨d, cs, u, p, most, rfl, _⟩ := h
    rfl
  · obtain ⟨d, cs, u, p, most, rfl, hs, hp, ok, m0, m1, k⟩ := h
    have hu := hr.units
    refine ⟨_, pss_cons (ps_set (i := 3) scDrawPart.nd rfl (.inl rfl) (pe_lst pa_nil))
      (pss_cons (ps_for PassesOwn.never rfl (pi_list (pe_callB cr_sortedI (by rfl) B.sorted PyProof.Rows.boot_sorted (pa_cons
          (pe_slice sl_list (pe_call GO (hr.mono (by decide)) (by rfl) DO.g DO.F.kp DO.b .nil pass0 (pa_cons (pv 0) (pa_cons (pe_listRg rfl (by rfl) B.list (prg_1 (by rfl) B.range (pe_callB call_len_seq (by rfl) B.len PySem.boot_len (pa_cons (pe_ix ix_tup (pv 1) pe_int (fun _ _ => rfl)) pa_nil)))) pa_nil)))
            po_none (po_some (pe_call GP (hr.mono (by decide)) (by rfl) DP.g DP.F.kp DP.b .nil pass0 (pa_cons (pv 0) (pa_cons (pe_op op_add (pv 2) pe_int) pa_nil))))) pa_nil))) (pg_name (i := 4) scDrawPart.nd rfl (.inl rfl))
        (pss_cons (ps_set (i := 5) scDrawPart.nd rfl (.inl rfl) (pe_ix ix_tup (pe_ix ix_tup (pv 1) pe_int (fun _ _ => rfl)) (pv 4) (fun _ _ => rfl)))
        (pss_one (ps_if (pt_cmpR (neDD K hu) (pv 5) (pe_tup pa_nil) (nomark _)) (pss_one (ps_expr (pe_bm PySem.F.plainAttrs_list PySem.F.slot_list_append PySem.F.type_list_append mt_append (pv 3)
          (pa_cons (pe_tup (pa_cons (pv 4) (pa_cons (pe_ix ix_tup (pv 5) (pe_call GP (hr.mono (by decide)) (by rfl) DP.g DP.F.kp DP.b .nil pass0 (pa_cons (pv 0) (pa_cons (pe_callB call_len_seq (by rfl) B.len PySem.boot_len (pa_cons (pv 5) pa_nil)) pa_nil))) (fun _ _ => rfl)) pa_nil))) pa_nil)))) pss_nil))))
      (pss_one (ps_ret (pe_callTy call_tuple_of (by rfl) B.tuple PyProof.Rows.boot_tuple (pa_cons (pv 3) pa_nil))))), ?_⟩
    obtain ⟨a, x, y, rfl, ha, hx, hy⟩ := hp
    obtain ⟨xa, xvs, rfl, hxa, px⟩ := hx
    have xl := px.length
    have n8 := ok.n8
    refine ⟨by decide, fun F hF => ?_⟩
    have nF := hs.none hF
    have hs1 : SrcAt (upd H F (.lst [])) d cs := hs.upd nF.1 nF.2
    have s1 : Same H (upd H F (.lst [])) := same_new hF
    refine ⟨_, rfl, _, rfl, a, _, 0, _, rfl, rfl, sqt (s1 _ _ ha), rfl, xa, _, rfl, .inr (sqt (s1 _ _ hxa)), _, rfl, RgOk.of_le (by decide) (by omega) (by decide) (by omega), fun q hq => ?_⟩
    have nq := hs1.none hq
    have hF1 : upd (upd H F (.lst [])) q (.lst (rgV 0 (xvs.length : Int))) F = some (.lst []) := upd_at hq upd_same
    refine ⟨d, cs, .ref q, nI (List.range p.doms.length), rfl, hs1.upd nq.1 nq.2, ⟨q, rfl, by rw [upd_same, xl, rgV_nI]⟩, by unfold nI; rw [List.length_map, List.length_range]; omega, fun l ns' H2 pm hs2 rn2 hln hl2 => ?_⟩
    have rn02 : Rn d cs H H2 := (rn_same (Same.tr s1 (same_new hq))).trans rn2
    have hF2 : H2 F = some (.lst []) := rn2 _ _ nF.1 nF.2 hF1
    refine ⟨_, rfl, _, rfl, most, 1, rfl, rfl, d, cs, most + 1, rfl, hs2, by omega, fun r H3 r0 r1 hs3 rn3 => ⟨r, rfl, ?_⟩⟩
    have rpos : 0 ≤ r := by
      by_cases z : most + 1 < 2
      · rw [r0 z]; exact Int.le_refl _
      · exact (r1 (by omega)).1
    have nl : l ≠ d ∧ l ≠ cs := (hs1.upd (o := .lst (rgV 0 (xvs.length : Int))) nq.1 nq.2).none hln
    have hl3 : H3 l = some (.lst (ns'.map V.int)) := rn3 _ _ nl.1 nl.2 hl2
    refine ⟨l, _, rfl, sql hl3, fun S hS => ?_⟩
    have nS := hs3.none hS
    rw [cut_take _ rpos, ← List.map_take]
    refine ⟨S, ns'.take r.toNat, rfl, sql upd_same, fun ns3 qq pm3 _ hqq => ?_⟩
    have hs4 : SrcAt (upd H3 S (.lst ((ns'.take r.toNat).map V.int))) d cs := hs3.upd nS.1 nS.2
    have nqq := hs4.none hqq
    have rn4 : Rn d cs H (upd (upd H3 S (.lst ((ns'.take r.toNat).map V.int))) qq (.lst (ns3.map V.int))) := (rn02.trans rn3).trans (rn_same (fun b o e => upd_at hqq (upd_at hS e)))
    have hF4 : upd (upd H3 S (.lst ((ns'.take r.toNat).map V.int))) qq (.lst (ns3.map V.int)) F = some (.lst []) := upd_at hqq (upd_at hS (rn3 _ _ nF.1 nF.2 hF2))
    have nFq : F ≠ qq := ne_of_none (upd_at hS (rn3 _ _ nF.1 nF.2 hF2)) hqq
    have nd3 : ns3.Nodup := by
      have n0 : (nI (List.range p.doms.length)).Nodup := by
        unfold nI
        exact (List.nodup_range).map _ (fun a b h => by omega)
      exact pm3.nodup_iff.mpr ((List.take_sublist _ _).nodup (pm.nodup_iff.mpr n0))
    have rg3 : ∀ c ∈ ns3, 0 ≤ c ∧ c < (p.doms.length : Int) := fun c hc => by
      have h1 := pm.mem_iff.mp (List.take_subset _ _ (pm3.mem_iff.mp hc))
      obtain ⟨j, hj, rfl⟩ := List.mem_map.mp h1
      rw [List.mem_range] at hj
      omega
    have l3 : ns3.length ≤ p.doms.length := by
      rw [pm3.length_eq, List.length_take]
      have := pm.length_eq
      unfold nI at this
      rw [List.length_map, List.length_range] at this
      omega
    refine ⟨qq, rfl, ⟨_, sql upd_same⟩, ?_⟩
    refine for_it (walk_list (K := K) (a := qq) (xs := ns3.map V.int)) (fun i σ H' => ∃ (vs : List V) (f : List (Int × Int)) (o4 o5 : Option V), σ = [some (.ref d), some (.ref a), some (.int most), some (.ref F), o4, o5] ∧ H' F = some (.lst vs) ∧ Paired (fun x q => IH H' x (tie2 q)) vs f ∧ (f.map Prod.fst).Sublist (ns3.take i) ∧ (∀ q ∈ f, (0 ≤ q.1 ∧ q.1 < (p.doms.length : Int)) ∧ q.2 ∈ p.doms.getD q.1.toNat []) ∧ SrcAt H' d cs ∧ Rn d cs H H' ∧ H' qq = some (.lst (ns3.map V.int)))
      ⟨[], [], none, none, rfl, hF4, .nil, by simp, (fun q hq => by cases hq), hs4.upd nqq.1 nqq.2, rn4, upd_same⟩ (fun i σ H' _ h => ?_) (fun i z σ H' H'' hi h yy => ?_) (fun σ H' h => ?_)
    · obtain ⟨_, _, _, _, _, _, _, _, _, _, _, hq'⟩ := h
      exact sql hq'
    · obtain ⟨rfl, hz⟩ := yy
      obtain ⟨vs, f, o4, o5, rfl, hF', pF, sub, each, hs', rn', hq'⟩ := h
      obtain ⟨c, hc, rfl⟩ := at_ints hz
      have cr := rg3 c (List.mem_of_getElem? hc)
      have cl : c.toNat < p.doms.length := by omega
      have kt' : Kt H H'' := rn'.kt hs
      obtain ⟨dv, hdv, id0⟩ := paired_at' px (List.getElem?_eq_getElem cl)
      have gd : p.doms.getD c.toNat [] = p.doms[c.toNat] := by rw [List.getD_eq_getElem?_getD, List.getElem?_eq_getElem cl]; rfl
      have hat : atI xvs c = some dv := by
        have := L2.atI_nat hdv
        rw [Int.toNat_of_nonneg cr.1] at this
        exact this
      have idv := id0.kt kt'
      have fl : vs.length ≤ 8 := by
        have h1 := sub.length_le
        rw [List.length_map, List.length_take] at h1
        have := pF.length
        omega
      have tk : ns3.take (i + 1) = ns3.take i ++ [c] := by rw [List.take_add_one, hc]; rfl
      refine ⟨_, rfl, a, _, 0, _, rfl, rfl, sqt (kt' _ _ ha), rfl, _, rfl, xa, _, c, _, rfl, rfl, sqt (kt' _ _ hxa), hat, ?_⟩
      refine ⟨_, rfl, by decide, fun T hT => ⟨dI _, dI [], (idv.kt (kt_same (same_new hT))).dp, IH.dp ⟨T, rfl, upd_same⟩, cmp_dI _, cmp_dI _, _, rfl, ?_⟩⟩
      rw [eqv_dI]
      have hF5 := upd_at (o := .tup []) hT hF'
      have hs5 : SrcAt (upd H'' T (.tup [])) d cs := hs'.same (same_new hT)
      have rn5 : Rn d cs H (upd H'' T (.tup [])) := rn'.trans (rn_same (same_new hT))
      have pF5 := paired_mono (fun _ _ z => IH.kt (kt_same (same_new (o := .tup []) hT)) z) pF
      have hq5 := upd_at (o := .tup []) hT hq'
      have id5 := idv.kt (kt_same (same_new (o := .tup []) hT))
      generalize upd H'' T (.tup []) = H5 at hF5 hs5 rn5 pF5 hq5 id5
      generalize hdd : p.doms[c.toNat] = dd at id5 gd
      by_cases em : dd = []
      · refine ifF (by rw [em]; rfl) ?_
        exact ⟨vs, f, _, _, rfl, hF5, pF5, by rw [tk]; exact sub.trans (List.sublist_append_left _ _), each, hs5, rn5, hq5⟩
      · refine ifT (by rw [decide_eq_false em]; rfl) ?_
        obtain ⟨da, rfl, hda⟩ := id5
        have dpos : 0 < dd.length := List.length_pos_iff.mpr em
        have d4 : dd.length ≤ 4 := ok.d4 dd (by rw [← hdd]; exact List.getElem_mem cl)
        refine ⟨_, rfl, .inl ⟨rfl, _, sql hF5⟩, _, rfl, _, rfl, _, rfl, _, rfl, da, _, rfl, .inr (sqt hda), d, cs, _, rfl, hs5, by rw [List.length_map]; omega, fun r6 H6 e0 e1 hs6 rn6 => ?_⟩
        rw [List.length_map] at e0 e1
        have rb : 0 ≤ r6 ∧ r6 < (dd.length : Int) := by
          by_cases z : (dd.length : Int) < 2
          · have := e0 z
            omega
          · exact e1 (by omega)
        have nda := hs5.ne hda
        have hda6 : H6 da = some (.tup (dd.map V.int)) := rn6 _ _ nda.1 nda.2 hda
        have hat6 := pick_at (vals := dd) (cs := [r6]) (fun z hm => by rw [List.mem_singleton.mp hm]; exact rb) (List.mem_singleton.mpr rfl)
        have vm : dd.getD r6.toNat 0 ∈ dd := by
          rw [List.getD_eq_getElem?_getD, List.getElem?_eq_getElem (by omega : r6.toNat < dd.length)]
          exact List.getElem_mem _
        generalize dd.getD r6.toNat 0 = vv at hat6 vm
        refine ⟨da, _, r6, _, rfl, rfl, sqt hda6, hat6, (show 2 ≤ sizeLine by decide), fun T7 hT7 => ?_⟩
        have hF6 : H6 F = some (.lst vs) := rn6 _ _ nF.1 nF.2 hF5
        have hF7 := upd_at (o := .tup [.int c, .int vv]) hT7 hF6
        have s67 : Same H6 (upd H6 T7 (.tup [.int c, .int vv])) := same_new hT7
        have kt56 : Kt H5 H6 := Rn.kt hs5 rn6
        refine ⟨F, vs, _, rfl, rfl, hF7, by rw [sizeLine_eq]; omega, vs ++ [.ref T7], f ++ [(c, vv)], _, _, rfl, upd_same, ?_, ?_, fun q hq => ?_, (hs6.same s67).upd nF.1 nF.2, fun b o h1 h2 eb => ?_, ?_⟩
        · exact paired_app (paired_mono (fun _ _ z => ((z.kt kt56).kt (kt_same s67)).kt (ktL hF7)) pF5) (paired_one ⟨T7, rfl, ktL hF7 _ _ upd_same⟩)
        · rw [tk, List.map_append]
          exact sub.append (.refl _)
        · rcases List.mem_append.mp hq with z | z
          · exact each q z
          · rw [List.mem_singleton.mp z]
            exact ⟨cr, by show vv ∈ p.doms.getD c.toNat []; rw [gd]; exact vm⟩
        · rw [upd_ne (fun z => by rw [z, hF] at eb; cases eb)]
          exact s67 _ _ (rn6 _ _ h1 h2 (rn5 b o h1 h2 eb))
        · rw [upd_ne nFq.symm]
          exact s67 _ _ (rn6 _ _ nqq.1 nqq.2 hq5)
    · obtain ⟨vs, f, o4, o5, rfl, hF', pF, sub, each, hs', rn', hq'⟩ := h
      refine ⟨_, rfl, F, vs, rfl, .inl ⟨sql hF', fun T9 hT9 => ?_⟩⟩
      have fl : f.length ≤ 1000 := by
        have h1 := sub.length_le
        rw [List.length_map, List.length_take] at h1
        omega
      refine k (.ref T9) f _ ⟨(sub.trans (List.take_sublist _ _)).nodup nd3, fun q hq => (each q hq).1, fun q hq => (each q hq).2, fl⟩ (hs'.same (same_new hT9)) (rn'.trans (rn_same (same_new hT9))) ⟨T9, vs, rfl, upd_same, ?_⟩
      exact paired_map (paired_mono (fun _ _ z => IH.kt (kt_same (same_new (o := .tup vs) hT9)) z) pF)
end
end G9

set_option Elab.async false
set_option linter.all false
set_option maxRecDepth 100000
set_option maxHeartbeats 8000000
/-! the law's drawn puzzles, given its drawn rules -/
namespace G9
open PySem PySem.Spec PyProof.Rows L2 GX
/-- small numbers -/
abbrev Few (v : Int) : Prop := 0 ≤ v ∧ v < 1000
abbrev DomOk (e : List Int) : Prop := e.length ≤ 4 ∧ e.Nodup ∧ (∀ v ∈ e, Few v) ∧ e.length ≤ 3 ∧ ∀ v ∈ e, 0 ≤ v ∧ v < 4
def RulNum : Rul → Prop
  | .table _ rows => rows.length ≤ 64 ∧ ∀ r ∈ rows, r.length ≤ 8 ∧ ∀ v ∈ r, Few v
  | .unlike _ => True
  | .sum _ lo hi => Few lo ∧ Few hi
  | .count _ vs lo hi => (vs.length ≤ 8 ∧ ∀ v ∈ vs, Few v) ∧ Few lo ∧ Few hi
  | .below _ _ => True
  | .runs _ ls => ls.length ≤ 8 ∧ ∀ v ∈ ls, Few v
  | .joined _ ties vs => (ties.length ≤ 8 ∧ ∀ q ∈ ties, Few q.1 ∧ Few q.2) ∧ vs.length ≤ 8 ∧ ∀ v ∈ vs, Few v
structure RuleOk (n : Nat) (r : Rul) : Prop where
  num : RulNum r
  c8 : (Rul.cells r).length ≤ 8
  small : Small r
  some : Rul.cells r ≠ []
  tab : TabLen r
  cell : ∀ c ∈ Rul.cells r, 0 ≤ c ∧ c < (n : Int)
def spDrawRule : Sp := fun vs H Q _ => ∃ d cs u doms, vs = [.ref d, u] ∧ SrcAt H d cs ∧ (RowsH H u doms ∨ LRows H u doms) ∧ 1 ≤ doms.length ∧ doms.length ≤ 8 ∧ (∀ e ∈ doms, e.length ≤ 4) ∧ (∀ e ∈ doms, ∀ v ∈ e, Few v) ∧ ∀ (w : V) (r : Rul) (H' : Hp), RuleOk doms.length r → SrcAt H' d cs → Rn d cs H H' → RuH H' w r → Q w H'
theorem nodup_snoc {l : List Int} {a : Int} (h : l.Nodup) (ha : a ∉ l) : (l ++ [a]).Nodup := by
  rw [List.nodup_append]
  refine ⟨h, List.nodup_cons.mpr ⟨by simp, List.nodup_nil⟩, fun x hx y hy => ?_⟩
  rw [List.mem_singleton.mp hy]
  exact fun z => ha (z ▸ hx)
def spDrawPuzzle : Sp := fun vs H Q _ => ∃ d cs most, vs = [.ref d, .int most] ∧ SrcAt H d cs ∧ 1 ≤ most ∧ most ≤ 6 ∧ ∀ (w : V) (p : Puz) (H' : Hp), PzOk p → 1 ≤ p.doms.length → (p.doms.length : Int) ≤ most → p.rules.length ≤ 8 → (∀ e ∈ p.doms, e.Nodup ∧ (∀ v ∈ e, Few v) ∧ e.length ≤ 3 ∧ ∀ v ∈ e, 0 ≤ v ∧ v < 4) → (∀ r ∈ p.rules, RulNum r ∧ (Rul.cells r).length ≤ 8) → SrcAt H' d cs → Rn d cs H H' → PzH H' w p → Q w H'
section
variable {P : Program} {w : World} {K : PySem.W.Frag} {mg : Str → Option Value} {base : Heap} {f fP fO fR : Addr} {fd dP dO dR' : FuncData}
theorem ok_drawPuzzle (B : Bl mg) (D : Df K mg "_law_draw_puzzle" sDrawPuzzle ["_law_source", "_law_most"] f fd) (DP : Df K mg "_law_pick" sPick ["_law_source", "_law_most"] fP dP) (GP : FnOk P w K mg base CX0 1 fP dP ["_law_source", "_law_most"] spPick)
    (DO : Df K mg "_law_draw_rule" sDrawRule ["_law_source", "_law_domains"] fO dO) (GO : FnOk P w K mg base CX0 5 fO dO ["_law_source", "_law_domains"] spDrawRule) : FnOk P w K mg base CX0 7 f fd ["_law_source", "_law_most"] spDrawPuzzle := by
  refine D.F.ok scDrawPuzzle (fun vs H Q E h => ?_) (fun cdv A outer s H vs Q E hr h => ?_)
  · obtain ⟨d, cs, most, rfl, _⟩ := h
    rfl
  · obtain ⟨d, cs, most, rfl, hs, m1, m4, k⟩ := h
    have hu := hr.units
    refine ⟨_, pss_cons (ps_par (i := 2) (j := 3) rfl scDrawPuzzle.nd rfl rfl (by decide) rfl rfl (pa_cons (pe_lst pa_nil) (pa_cons (pe_lst pa_nil) pa_nil)) (by rfl))
      (pss_cons (ps_for PassesOwn.never rfl (pi_range1 (by rfl) B.range (pa_cons (pe_op op_add pe_int (pe_call GP (hr.mono (by decide)) (by rfl) DP.g DP.F.kp DP.b .nil pass0 (pa_cons (pv 0) (pa_cons (pv 1) pa_nil)))) pa_nil)) (pg_name (i := 4) scDrawPuzzle.nd rfl (.inl rfl))
        (pss_cons (ps_setLc (i := 5) (own := [("_law_value", 7)]) rfl scDrawPuzzle.nd rfl rfl (sw_true rfl rfl rfl (by decide +kernel)) (pi_range1 (by rfl) B.range (pa_cons pe_int pa_nil)) (blkOk_by (N := ["_law_source", "_law_most", "_law_domains", "_law_rules", "_law_cell", "_law_lot", "_law_lap", "_law_value"]) (sc := defScope sDrawPuzzle) (by decide +kernel))
            (fun _ _ _ _ _ => pg_name (i := 7) scDrawPuzzle.nd rfl (.inl rfl)) (fun _ _ _ _ _ => pts_one (pt_cmpR op_gt (pe_call GP (hr.mono (by decide)) (by rfl) DP.g DP.F.kp DP.b .nil pass0 (pa_cons (pv 0) (pa_cons pe_int pa_nil))) pe_int (nomark _))) (fun _ _ _ _ _ => pv 7))
        (pss_one (ps_expr (pe_bm PySem.F.plainAttrs_list PySem.F.slot_list_append PySem.F.type_list_append mt_append (pv 2) (pa_cons
            (pe_ifExp (pw_or (pt_cmpR (neDD K hu) (pv 5) (pe_lst pa_nil) (nomark _)) (pw_or1 (pt_cmpR op_eq (pe_call GP (hr.mono (by decide)) (by rfl) DP.g DP.F.kp DP.b .nil pass0 (pa_cons (pv 0) (pa_cons pe_int pa_nil))) pe_int (nomark _)))).pt
              (pe_callTy call_tuple_of (by rfl) B.tuple PyProof.Rows.boot_tuple (pa_cons (pe_slice sl_list (pv 5) po_none (po_some pe_int)) pa_nil)) (pe_tup (pa_cons pe_int (pa_cons pe_int pa_nil)))) pa_nil))))))
      (pss_cons (ps_for PassesOwn.never rfl (pi_range1 (by rfl) B.range (pa_cons (pe_call GP (hr.mono (by decide)) (by rfl) DP.g DP.F.kp DP.b .nil pass0 (pa_cons (pv 0) (pa_cons (pe_op op_add (pe_callB call_len_seq (by rfl) B.len PySem.boot_len (pa_cons (pv 2) pa_nil)) pe_int) pa_nil))) pa_nil)) (pg_name (i := 6) scDrawPuzzle.nd rfl (.inl rfl))
        (pss_one (ps_expr (pe_bm PySem.F.plainAttrs_list PySem.F.slot_list_append PySem.F.type_list_append mt_append (pv 3) (pa_cons (pe_call GO (hr.mono (by decide)) (by rfl) DO.g DO.F.kp DO.b .nil pass0 (pa_cons (pv 0) (pa_cons (pv 2) pa_nil))) pa_nil)))))
      (pss_one (ps_ret (pe_tup (pa_cons (pe_callTy call_tuple_of (by rfl) B.tuple PyProof.Rows.boot_tuple (pa_cons (pv 2) pa_nil)) (pa_cons (pe_callTy call_tuple_of (by rfl) B.tuple PyProof.Rows.boot_tuple (pa_cons (pv 3) pa_nil)) pa_nil))))))), ?_⟩
    refine ⟨by decide, fun Dl hD => ⟨by decide, fun Rl hR => ?_⟩⟩
    have nD := hs.none hD
    have hs1 : SrcAt (upd H Dl (.lst [])) d cs := hs.upd nD.1 nD.2
    have nR := hs1.none hR
    have nDR : Dl ≠ Rl := ne_of_none upd_same hR
    have hRH : H Rl = none := none_under hR
    have hs2 : SrcAt (upd (upd H Dl (.lst [])) Rl (.lst [])) d cs := hs1.upd nR.1 nR.2
    have s2 : Same H (upd (upd H Dl (.lst [])) Rl (.lst [])) := fun b o e => upd_at hR (upd_at hD e)
    have hD2 : upd (upd H Dl (.lst [])) Rl (.lst []) Dl = some (.lst []) := upd_at hR upd_same
    refine ⟨_, _, rfl, ?_⟩
    refine ⟨_, rfl, _, rfl, d, cs, most, rfl, hs2, by omega, fun r H3 r0 r1 hs3 rn3 => ⟨1, r, rfl, rfl, _, rfl, ?_⟩⟩
    have rb : 0 ≤ r ∧ r < most := by
      by_cases z : most < 2
      · have := r0 z
        omega
      · exact r1 (by omega)
    refine ⟨by show -(2 ^ 62) ≤ 1 + r; omega, by show 1 + r < 2 ^ 62; omega, ?_⟩
    have en : (1 + r).toNat = r.toNat + 1 := by omega
    have keepOut : ∀ {A B : Hp} {b0 : Addr} {o : HO}, H b0 = none → Rn d cs H A → Rn d cs H (upd A b0 o) := fun h0 rn b o h1 h2 e => by
      rw [upd_ne (fun z => by rw [z, h0] at e; cases e)]
      exact rn b o h1 h2 e
    refine for_it (walk_range (lo := 0) (n := (1 + r).toNat)) (fun i σ H' => ∃ (dvs : List V) (doms : List (List Int)) (o4 o5 : Option V), σ = [some (.ref d), some (.int most), some (.ref Dl), some (.ref Rl), o4, o5, none, none] ∧ H' Dl = some (.lst dvs) ∧ Paired (IH H') dvs doms ∧ doms.length = i ∧ (∀ e ∈ doms, DomOk e) ∧ H' Rl = some (.lst []) ∧ SrcAt H' d cs ∧ Rn d cs H H')
      ⟨[], [], none, none, rfl, rn3 _ _ nD.1 nD.2 hD2, .nil, rfl, (fun e he => by cases he), rn3 _ _ nR.1 nR.2 upd_same, hs3, (rn_same s2).trans rn3⟩ (fun i σ H' _ h => trivial) (fun i x σ H' H'' hi h y => ?_) (fun σ H' h => ?_)
    · obtain ⟨dvs, doms, o4, o5, rfl, hDv, pD, dl, d4, hRv, hs', rn'⟩ := h
      obtain ⟨rfl, rfl⟩ := y
      refine ⟨4, rfl, by decide, by decide, fun L hL => ?_⟩
      have nL := hs'.none hL
      have nDL : Dl ≠ L := ne_of_none hDv hL
      have nRL : Rl ≠ L := ne_of_none hRv hL
      refine lc_it (walk_range (lo := 0) (n := (4 : Int).toNat)) (fun m H3 => ∃ vs : List Int, H3 L = some (.lst (vs.map V.int)) ∧ vs.length ≤ m ∧ (vs.Nodup ∧ ∀ v ∈ vs, v < (m : Int) ∧ 0 ≤ v) ∧ SrcAt H3 d cs ∧ Rn d cs H'' H3) ⟨[], upd_same, Nat.le_refl _, ⟨List.nodup_nil, fun v hv => by cases hv⟩, hs'.upd nL.1 nL.2, rn_same (same_new hL)⟩ (fun m H3 _ h => trivial) (fun m x H3 H4 hm h y => ?_) (fun H3 h => ?_)
      · obtain ⟨vs, hLv, vl, vnd, hs3, rnn⟩ := h
        obtain ⟨rfl, rfl⟩ := y
        refine ⟨rfl, _, rfl, d, cs, 3, rfl, hs3, by decide, fun r5 H5 _ _ hs5 rn5 => ⟨_, _, rfl, rfl, _, rfl, ?_⟩⟩
        have hL5 : H5 L = some (.lst (vs.map V.int)) := rn5 _ _ nL.1 nL.2 hLv
        have m4 : m < 4 := hm
        by_cases z : r5 > 0
        · refine ifT (decide_eq_true z) ⟨_, rfl, _, hL5, by rw [List.length_map, sizeLine_eq]; omega, vs ++ [0 + ((m : Nat) : Int)], by rw [upd_same, List.map_append]; rfl, by rw [List.length_append]; show vs.length + 1 ≤ _; omega, ⟨nodup_snoc vnd.1 (fun z => by have := vnd.2 _ z; omega), fun v hv => (List.mem_append.mp hv).elim (fun z => by have := vnd.2 v z; omega) fun z => by rw [List.mem_singleton.mp z]; omega⟩, hs5.upd nL.1 nL.2, fun b o h1 h2 e => ?_⟩
          rw [upd_ne (fun z => by rw [z, hL] at e; cases e)]
          exact rn5 b o h1 h2 (rnn b o h1 h2 e)
        · exact ifF (decide_eq_false z) ⟨vs, hL5, by omega, ⟨vnd.1, fun v hv => by have := vnd.2 v hv; omega⟩, hs5, rnn.trans rn5⟩
      obtain ⟨vs, hLv, vl, vnd, hs3, rnn⟩ := h
      have vl4 : vs.length ≤ 4 := vl
      have vnd4 : ∀ v ∈ vs, v < (4 : Int) ∧ 0 ≤ v := vnd.2
      have hD3 := rnn _ _ nD.1 nD.2 hDv
      have hR3 := rnn _ _ nR.1 nR.2 hRv
      have i5 : i < 7 := by omega
      have dvl := pD.length
      -- the end of a turn
      have fin : ∀ (wv : V) (e : List Int) (H4 : Hp) (σ' : L2.St), SrcAt H4 d cs → Rn d cs H3 H4 → IH H4 wv e → DomOk e → ∃ (dvs2 : List V) (doms2 : List (List Int)) (q4 q5 : Option V), [some (.ref d), some (.int most), some (.ref Dl), some (.ref Rl), some (.int (0 + ((i : Nat) : Int))), some (.ref L), none, none] = [some (.ref d), some (.int most), some (.ref Dl), some (.ref Rl), q4, q5, none, none] ∧ upd H4 Dl (.lst (dvs ++ [wv])) Dl = some (.lst dvs2) ∧ Paired (IH (upd H4 Dl (.lst (dvs ++ [wv])))) dvs2 doms2 ∧ doms2.length = i + 1 ∧ (∀ e ∈ doms2, DomOk e) ∧ upd H4 Dl (.lst (dvs ++ [wv])) Rl = some (.lst []) ∧ SrcAt (upd H4 Dl (.lst (dvs ++ [wv]))) d cs ∧ Rn d cs H (upd H4 Dl (.lst (dvs ++ [wv]))) := fun wv e H4 σ' hs4 rn4 ie el => by
        have hD4 := rn4 _ _ nD.1 nD.2 hD3
        have kt4 : Kt H'' H4 := (rnn.trans rn4).kt hs'
        refine ⟨dvs ++ [wv], doms ++ [e], _, _, rfl, upd_same, paired_app (paired_mono (fun _ _ z => (z.kt kt4).kt (ktL hD4)) pD) (paired_one (ie.kt (ktL hD4))), by rw [List.length_append, dl]; rfl, fun e' he' => ?_, by rw [upd_ne nDR.symm]; exact rn4 _ _ nR.1 nR.2 hR3, hs4.upd nD.1 nD.2, keepOut (B := H) hD ((rn'.trans rnn).trans rn4)⟩
        rcases List.mem_append.mp he' with z | z
        · exact d4 e' z
        · rw [List.mem_singleton.mp z]
          exact el
      have out : ∀ (wv : V) (e : List Int) (H4 : Hp), SrcAt H4 d cs → Rn d cs H3 H4 → IH H4 wv e → DomOk e → ∃ l xs y, V.ref Dl = .ref l ∧ [wv] = [y] ∧ H4 l = some (.lst xs) ∧ xs.length < sizeLine ∧ ∃ (dvs2 : List V) (doms2 : List (List Int)) (q4 q5 : Option V), [some (.ref d), some (.int most), some (.ref Dl), some (.ref Rl), some (.int (0 + ((i : Nat) : Int))), some (.ref L), none, none] = [some (.ref d), some (.int most), some (.ref Dl), some (.ref Rl), q4, q5, none, none] ∧ upd H4 l (.lst (xs ++ [y])) Dl = some (.lst dvs2) ∧ Paired (IH (upd H4 l (.lst (xs ++ [y])))) dvs2 doms2 ∧ doms2.length = i + 1 ∧ (∀ e ∈ doms2, DomOk e) ∧ upd H4 l (.lst (xs ++ [y])) Rl = some (.lst []) ∧ SrcAt (upd H4 l (.lst (xs ++ [y]))) d cs ∧ Rn d cs H (upd H4 l (.lst (xs ++ [y]))) := fun wv e H4 hs4 rn4 ie el =>
        ⟨Dl, dvs, wv, rfl, rfl, rn4 _ _ nD.1 nD.2 hD3, by rw [sizeLine_eq]; omega, fin wv e H4 [] hs4 rn4 ie el⟩
      -- the lot's first three
      have three : ∀ (H4 : Hp) (Q' : VK), SrcAt H4 d cs → Rn d cs H3 H4 → (∀ (wv : V) (e : List Int) (H5 : Hp), SrcAt H5 d cs → Rn d cs H3 H5 → IH H5 wv e → DomOk e → Q' wv H5) → rSlL K (.ref L) none (some 3) H4 fun z H5 => ∃ p ys, [z] = [V.ref p] ∧ ((SqL K H5 p ys ∧ ∀ l, H5 l = none → Q' (.ref l) (upd H5 l (.tup ys))) ∨ (SqT K H5 p ys ∧ Q' (.ref p) H5)) := fun H4 Q' hs4 rn4 kk => by
        have hL4 := rn4 _ _ nL.1 nL.2 hLv
        refine ⟨L, _, rfl, sql hL4, fun S hS => ⟨S, _, rfl, .inl ⟨sql upd_same, fun T hT => ?_⟩⟩⟩
        rw [cut_take _ (by decide : (0 : Int) ≤ 3), ← List.map_take] at hT ⊢
        have s45 : Same H4 (upd (upd H4 S (.lst ((vs.take (3 : Int).toNat).map V.int))) T (.tup ((vs.take (3 : Int).toNat).map V.int))) := fun b o e => upd_at hT (upd_at hS e)
        exact kk (.ref T) _ _ (hs4.same s45) (rn4.trans (rn_same s45)) ⟨T, rfl, upd_same⟩ ⟨by rw [List.length_take]; omega, (List.take_sublist _ _).nodup vnd.1, (fun v hv => by have := vnd4 v (List.take_subset _ _ hv); exact ⟨this.2, by omega⟩), (by rw [List.length_take]; exact Nat.min_le_left _ _), fun v hv => by have := vnd4 v (List.take_subset _ _ hv); exact ⟨this.2, this.1⟩⟩
      refine ⟨_, rfl, .inl ⟨rfl, _, sql hD3⟩, _, rfl, by decide, fun M hM => ?_⟩
      have s3M : Same H3 (upd H3 M (.lst [])) := same_new hM
      refine ⟨.list (vs.map .int), .list (([] : List Int).map .int), .lst (sql (s3M _ _ hLv)) (dpAll_ints vs), .lst (sql upd_same) (dpAll_ints []), cmp_lints vs, cmp_lints [], _, rfl, ?_⟩
      rw [eqv_lints]
      by_cases ve : vs = []
      · refine ifF (by rw [decide_eq_true ve]; rfl) ?_
        refine ⟨_, rfl, d, cs, 9, rfl, hs3.same s3M, by decide, fun r9 H9 _ _ hs9 rn9 => ⟨rfl, _, rfl, ?_⟩⟩
        have rn39 : Rn d cs H3 H9 := (rn_same s3M).trans rn9
        by_cases z : r9 = 0
        · refine ifT (by rw [z]; decide) ?_
          exact ⟨_, rfl, 3, rfl, three H9 _ hs9 rn39 fun wv e H5 h1 h2 h3 h4 => out wv e H5 h1 h2 h3 h4⟩
        · refine ifF (decide_eq_false fun q => z (V.int.inj q)) ⟨(show 2 ≤ sizeLine by decide), fun T hT => ?_⟩
          exact out (.ref T) [0, 1] _ (hs9.same (same_new hT)) (rn39.trans (rn_same (same_new hT))) ⟨T, rfl, upd_same⟩ (by decide)
      · refine ifT (by rw [decide_eq_false ve]; rfl) ?_
        refine ifT rfl ?_
        exact ⟨_, rfl, 3, rfl, three _ _ (hs3.same s3M) (rn_same s3M) fun wv e H5 h1 h2 h3 h4 => out wv e H5 h1 h2 h3 h4⟩
    · obtain ⟨dvs, doms, o4, o5, rfl, hDv, pD, dl, d4, hRv, hs', rn'⟩ := h
      have dl1 : 1 ≤ doms.length := by omega
      have dlm : (doms.length : Int) ≤ most := by omega
      have dvl := pD.length
      refine ⟨_, rfl, _, rfl, Dl, _, rfl, .inl (sql hDv), _, 2, rfl, rfl, d, cs, _, rfl, hs', by omega, fun r2 H4 e0 e1 hs4 rn4 => ⟨r2, rfl, ?_⟩⟩
      have rb2 : 0 ≤ r2 ∧ r2 < (doms.length : Int) + 2 := by
        have := e1 (by omega)
        omega
      refine ⟨by omega, by omega, ?_⟩
      refine for_it (walk_range (lo := 0) (n := r2.toNat)) (fun j σ H5 => ∃ (rvs : List V) (rules : List Rul) (q4 q5 q6 : Option V), σ = [some (.ref d), some (.int most), some (.ref Dl), some (.ref Rl), q4, q5, q6, none] ∧ H5 Rl = some (.lst rvs) ∧ Paired (RuH H5) rvs rules ∧ rules.length = j ∧ (∀ r ∈ rules, RuleOk doms.length r) ∧ H5 Dl = some (.lst dvs) ∧ Paired (IH H5) dvs doms ∧ SrcAt H5 d cs ∧ Rn d cs H H5)
        ⟨[], [], o4, o5, none, rfl, rn4 _ _ nR.1 nR.2 hRv, .nil, rfl, (fun r hr => by cases hr), rn4 _ _ nD.1 nD.2 hDv, paired_mono (fun _ _ z => z.kt (Rn.kt hs' rn4)) pD, hs4, rn'.trans rn4⟩ (fun j σ H5 _ h => trivial) (fun j x σ H5 H6 hj h y => ?_) (fun σ H5 h => ?_)
      · obtain ⟨rvs, rules, q4, q5, q6, rfl, hRr, pR, rl, rok, hDr, pDr, hs5, rn5⟩ := h
        obtain ⟨rfl, rfl⟩ := y
        have rvl := pR.length
        refine ⟨_, rfl, .inl ⟨rfl, _, sql hRr⟩, _, rfl, _, rfl, d, cs, .ref Dl, doms, rfl, hs5, .inr ⟨Dl, dvs, rfl, hDr, pDr⟩, dl1, by omega, fun e he => (d4 e he).1, fun e he => (d4 e he).2.2.1, fun w7 r7 H7 ok7 hs7 rn7 hr7 => ?_⟩
        have hR7 := rn7 _ _ nR.1 nR.2 hRr
        have kt7 : Kt H6 H7 := rn7.kt hs5
        refine ⟨Rl, rvs, w7, rfl, rfl, hR7, by rw [sizeLine_eq]; omega, rvs ++ [w7], rules ++ [r7], q4, q5, _, rfl, upd_same, paired_app (paired_mono (fun _ _ z => (z.kt kt7).kt (ktL hR7)) pR) (paired_one (hr7.kt (ktL hR7))), by rw [List.length_append, rl]; rfl, fun r hr => ?_, by rw [upd_ne nDR]; exact rn7 _ _ nD.1 nD.2 hDr, paired_mono (fun _ _ z => (z.kt kt7).kt (ktL hR7)) pDr, hs7.upd nR.1 nR.2, keepOut (B := H) hRH (rn5.trans rn7)⟩
        rcases List.mem_append.mp hr with z | z
        · exact rok r z
        · rw [List.mem_singleton.mp z]
          exact ok7
      · obtain ⟨rvs, rules, q4, q5, q6, rfl, hRr, pR, rl, rok, hDr, pDr, hs5, rn5⟩ := h
        refine ⟨_, rfl, Dl, dvs, rfl, .inl ⟨sql hDr, fun T1 hT1 => ?_⟩⟩
        refine ⟨_, rfl, Rl, rvs, rfl, .inl ⟨sql (upd_at hT1 hRr), fun T2 hT2 => ⟨(show 2 ≤ sizeLine by decide), fun T3 hT3 => ?_⟩⟩⟩
        have s8 : Same H5 (upd (upd (upd H5 T1 (.tup dvs)) T2 (.tup rvs)) T3 (.tup [.ref T1, .ref T2])) := fun b o e => upd_at hT3 (upd_at hT2 (upd_at hT1 e))
        refine k (.ref T3) ⟨doms, rules⟩ _ ⟨by show doms.length ≤ 8; omega, fun e he => (d4 e he).1, by show rules.length ≤ 100; omega, fun r hr => (rok r hr).small, fun r hr => (rok r hr).tab, fun r hr => (rok r hr).some, fun r hr => (rok r hr).cell⟩ dl1 dlm (by show rules.length ≤ 8; omega) (fun e he => (d4 e he).2) (fun r hr => ⟨(rok r hr).num, (rok r hr).c8⟩) (hs5.same s8) (rn5.trans (rn_same s8)) ⟨T3, .ref T1, .ref T2, rfl, upd_same, ⟨T1, dvs, rfl, upd_at hT3 (upd_at hT2 upd_same), paired_mono (fun _ _ z => z.kt (kt_same s8)) pDr⟩, ⟨T2, rvs, rfl, upd_at hT3 upd_same, paired_mono (fun _ _ z => z.kt (kt_same s8)) pR⟩⟩
end
end G9

set_option Elab.async false
set_option linter.all false
set_option maxRecDepth 100000
set_option maxHeartbeats 8000000
/-! the law's drawn rules -/
namespace G9
open PySem PySem.Spec PyProof.Rows L2 GX
theorem sortedTK (K : PySem.W.Frag) {X : Cx} (h : X.K = K := by rfl) : CallR X (.builtin "sorted") (fun vs H Q => ∃ (a : Addr) (ns : List Int), vs = [V.ref a] ∧ SqT K H a (ns.map V.int) ∧ ∀ (ns' : List Int) (p : Addr), ns'.Perm ns → ns'.Pairwise (· ≤ ·) → H p = none → Q (.ref p) (upd H p (.lst (ns'.map V.int)))) := h ▸ cr_sortedTI
theorem pairs_of {H : Hp} : ∀ {xs : List V}, (∀ x ∈ xs, ∃ (t : Addr) (p q : Int), x = V.ref t ∧ H t = some (.tup [.int p, .int q]) ∧ Few p ∧ Few q) → ∃ ties : List (Int × Int), Paired (fun x q => IH H x (tie2 q)) xs ties ∧ ties.length = xs.length ∧ ∀ q ∈ ties, Few q.1 ∧ Few q.2
  | [], _ => ⟨[], .nil, rfl, fun q hq => by cases hq⟩
  | x :: xs, h => by
    obtain ⟨ties, p, l, fw⟩ := pairs_of (xs := xs) fun y hy => h y (List.mem_cons_of_mem _ hy)
    obtain ⟨t, i, j, e, z, fi, fj⟩ := h x (List.mem_cons_self ..)
    exact ⟨(i, j) :: ties, .cons ⟨t, e, z⟩ p, by rw [List.length_cons, l, List.length_cons], fun q hq => (List.mem_cons.mp hq).elim (fun z => by rw [z]; exact ⟨fi, fj⟩) (fw q)⟩
theorem rowsOf_all : ∀ (n : Nat) (ds : List (List Int)), ds.length = n → (∀ e ∈ ds, ∀ v ∈ e, Few v) → ∀ r ∈ rowsOf ds, ∀ v ∈ r, Few v
  | 0, [], _, _, r, hr, v, hv => by
    have : r = [] := by simpa [rowsOf] using hr
    rw [this] at hv
    cases hv
  | n + 1, ds, h, hd, r, hr, v, hv => by
    have ne : ds ≠ [] := fun z => by rw [z] at h; cases h
    have e := List.dropLast_concat_getLast ne
    have hl : ds.dropLast.length = n := by rw [List.length_dropLast, h]; rfl
    rw [← e, rowsOf_snoc] at hr
    obtain ⟨q, hq, x, hx, rfl⟩ := mem_grow.mp hr
    rcases List.mem_append.mp hv with z | z
    · exact rowsOf_all n _ hl (fun e he => hd e (List.dropLast_subset _ he)) q hq v z
    · rw [List.mem_singleton.mp z]
      exact hd _ (List.getLast_mem ne) x hx
theorem dup {R F : Addr → Hp → Prop} {G : Prop} (h : (∀ a H, F a H → R a H) → G) (r : ∀ a H, F a H → R a H) : G := h r
section
variable {P : Program} {w : World} {K : PySem.W.Frag} {mg : Str → Option Value} {base : Heap} {f fP fO fR : Addr} {fd dP dO dR' : FuncData}
theorem ok_drawRule (B : Bl mg) (D : Df K mg "_law_draw_rule" sDrawRule ["_law_source", "_law_domains"] f fd) (DP : Df K mg "_law_pick" sPick ["_law_source", "_law_most"] fP dP) (GP : FnOk P w K mg base CX0 1 fP dP ["_law_source", "_law_most"] spPick)
    (DO : Df K mg "_law_any_order" sOrder ["_law_source", "_law_things"] fO dO) (GO : FnOk P w K mg base CX0 3 fO dO ["_law_source", "_law_things"] spOrder) (DRw : Df K mg "_law_rows" sRows ["_law_lots"] fR dR') (GR : FnOk P w K mg base CX0 1 fR dR' ["_law_lots"] spRows) : FnOk P w K mg base CX0 5 f fd ["_law_source", "_law_domains"] spDrawRule := by
  refine D.F.ok scDrawRule (fun vs H Q E h => ?_) (fun cdv A outer s H vs Q E hr h => ?_)
  · obtain ⟨d, cs, u, doms, rfl, _⟩ := h
    rfl
  · obtain ⟨d, cs, u, doms, rfl, hs, hd, n1, n8, d4, dF, k⟩ := h
    have hu := hr.units
    refine ⟨_, pss_cons (ps_set (i := 2) scDrawRule.nd rfl (.inl rfl) (pe_call GO (hr.mono (by decide)) (by rfl) DO.g DO.F.kp DO.b .nil pass0 (pa_cons (pv 0) (pa_cons (pe_listRg rfl (by rfl) B.list (prg_1 (by rfl) B.range (pe_callB call_len_seq (by rfl) B.len PySem.boot_len (pa_cons (pv 1) pa_nil)))) pa_nil))))
      (pss_cons (ps_set (i := 3) scDrawRule.nd rfl (.inl rfl) (pe_ifExp (pt_cmpR op_gt (pe_callB call_len_seq (by rfl) B.len PySem.boot_len (pa_cons (pv 2) pa_nil)) pe_int (nomark _))
          (pe_callTy call_tuple_of (by rfl) B.tuple PyProof.Rows.boot_tuple (pa_cons (pe_slice sl_list (pv 2) po_none (po_some (pe_op op_add pe_int (pe_call GP (hr.mono (by decide)) (by rfl) DP.g DP.F.kp DP.b .nil pass0 (pa_cons (pv 0) (pa_cons (pe_callB (call_min2 rfl) (by rfl) B.min PyProof.Rows.boot_min (pa_cons pe_int (pa_cons (pe_op op_sub (pe_callB call_len_seq (by rfl) B.len PySem.boot_len (pa_cons (pv 2) pa_nil)) pe_int) pa_nil))) pa_nil)))))) pa_nil))
          (pe_callTy call_tuple_of (by rfl) B.tuple PyProof.Rows.boot_tuple (pa_cons (pv 2) pa_nil))))
      (pss_cons (ps_set (i := 4) scDrawRule.nd rfl (.inl rfl) (pe_call GP (hr.mono (by decide)) (by rfl) DP.g DP.F.kp DP.b .nil pass0 (pa_cons (pv 0) (pa_cons pe_int pa_nil))))
      (pss_cons (ps_if (pt_cmpR op_eq (pv 4) pe_int (nomark _))
          (pss_cons (ps_setLc (i := 5) (own := [("_law_row", 9)]) rfl scDrawRule.nd rfl rfl (sw_true rfl rfl rfl (by decide +kernel)) (pi_list (pe_call GR (hr.mono (by decide)) (by rfl) DRw.g DRw.F.kp DRw.b .nil pass0 (pa_cons
                (pe_lc (own := [("_law_cell", 10)]) rfl scDrawRule.nd (pi_tup (pv 3)) (blkOk_by (N := ["_law_source", "_law_domains", "_law_cells", "_law_some", "_law_road", "_law_rows_here", "_law_low", "_law_values", "_law_ties", "_law_row", "_law_cell", "_law_pair"]) (sc := defScope sDrawRule) (by decide +kernel)) (fun _ _ _ _ _ => pg_name (i := 10) scDrawRule.nd rfl (.inl rfl)) (fun _ _ _ _ _ => pts_nil) (fun _ _ _ _ _ => pe_ix (IxR.or (ixT K) (ixL K)) (pv 1) (pv 10) (fun _ _ => rfl))) pa_nil)))
              (blkOk_by (N := ["_law_source", "_law_domains", "_law_cells", "_law_some", "_law_road", "_law_rows_here", "_law_low", "_law_values", "_law_ties", "_law_row", "_law_cell", "_law_pair"]) (sc := defScope sDrawRule) (by decide +kernel))
              (fun _ _ _ _ _ => pg_name (i := 9) scDrawRule.nd rfl (.inl rfl)) (fun _ _ _ _ _ => pts_one (pt_cmpR op_gt (pe_call GP (hr.mono (by decide)) (by rfl) DP.g DP.F.kp DP.b .nil pass0 (pa_cons (pv 0) (pa_cons pe_int pa_nil))) pe_int (nomark _))) (fun _ _ _ _ _ => pv 9))
            (pss_one (ps_ret (pe_tup (pa_cons pe_str (pa_cons (pv 3) (pa_cons (pe_callTy call_tuple_of (by rfl) B.tuple PyProof.Rows.boot_tuple (pa_cons (pv 5) pa_nil)) pa_nil))))))) pss_nil)
      (pss_cons (ps_if (pw_or (pt_cmpR op_eq (pv 4) pe_int (nomark _)) (pw_or1 (pw_and (pt_cmpR op_eq (pv 4) pe_int (nomark _)) (pw_and1 (pt_cmpR op_lt (pe_callB call_len_seq (by rfl) B.len PySem.boot_len (pa_cons (pv 3) pa_nil)) pe_int (nomark _)))).pt)).pt (pss_one (ps_ret (pe_tup (pa_cons pe_str (pa_cons (pv 3) pa_nil))))) pss_nil)
      (pss_cons (ps_if (pt_cmpR op_eq (pv 4) pe_int (nomark _)) (pss_cons (ps_set (i := 6) scDrawRule.nd rfl (.inl rfl) (pe_call GP (hr.mono (by decide)) (by rfl) DP.g DP.F.kp DP.b .nil pass0 (pa_cons (pv 0) (pa_cons pe_int pa_nil))))
            (pss_one (ps_ret (pe_tup (pa_cons pe_str (pa_cons (pv 3) (pa_cons (pv 6) (pa_cons (pe_op op_add (pv 6) (pe_call GP (hr.mono (by decide)) (by rfl) DP.g DP.F.kp DP.b .nil pass0 (pa_cons (pv 0) (pa_cons pe_int pa_nil)))) pa_nil)))))))) pss_nil)
      (pss_cons (ps_if (pt_cmpR op_eq (pv 4) pe_int (nomark _)) (pss_cons (ps_set (i := 6) scDrawRule.nd rfl (.inl rfl) (pe_call GP (hr.mono (by decide)) (by rfl) DP.g DP.F.kp DP.b .nil pass0 (pa_cons (pv 0) (pa_cons (pe_callB call_len_seq (by rfl) B.len PySem.boot_len (pa_cons (pv 3) pa_nil)) pa_nil))))
            (pss_cons (ps_set (i := 7) scDrawRule.nd rfl (.inl rfl) (pe_tup (pa_cons (pe_call GP (hr.mono (by decide)) (by rfl) DP.g DP.F.kp DP.b .nil pass0 (pa_cons (pv 0) (pa_cons pe_int pa_nil))) (pa_cons (pe_op op_add pe_int (pe_call GP (hr.mono (by decide)) (by rfl) DP.g DP.F.kp DP.b .nil pass0 (pa_cons (pv 0) (pa_cons pe_int pa_nil)))) pa_nil))))
            (pss_one (ps_ret (pe_tup (pa_cons pe_str (pa_cons (pv 3) (pa_cons (pv 7) (pa_cons (pv 6) (pa_cons (pe_op op_add (pv 6) (pe_call GP (hr.mono (by decide)) (by rfl) DP.g DP.F.kp DP.b .nil pass0 (pa_cons (pv 0) (pa_cons pe_int pa_nil)))) pa_nil)))))))))) pss_nil)
      (pss_cons (ps_if (pt_cmpR op_eq (pv 4) pe_int (nomark _)) (pss_one (ps_ret (pe_tup (pa_cons pe_str (pa_cons (pe_ix ix_tup (pv 3) pe_int (fun _ _ => rfl)) (pa_cons (pe_ix ix_tup (pv 3) pe_int (fun _ _ => rfl)) pa_nil)))))) pss_nil)
      (pss_cons (ps_if (pt_cmpR op_eq (pv 4) pe_int (nomark _)) (pss_one (ps_ret (pe_tup (pa_cons pe_str (pa_cons (pv 3) (pa_cons (pe_ix ix_list (pe_lst (pa_cons (pe_tup pa_nil) (pa_cons (pe_tup (pa_cons pe_int pa_nil)) (pa_cons (pe_tup (pa_cons pe_int pa_nil)) (pa_cons (pe_tup (pa_cons pe_int (pa_cons pe_int pa_nil))) pa_nil)))))
            (pe_call GP (hr.mono (by decide)) (by rfl) DP.g DP.F.kp DP.b .nil pass0 (pa_cons (pv 0) (pa_cons pe_int pa_nil))) (fun _ _ => rfl)) pa_nil)))))) pss_nil)
      (pss_cons (ps_setLc (i := 8) (own := [("_law_pair", 11)]) rfl scDrawRule.nd rfl rfl (sw_true rfl rfl rfl (by decide +kernel)) (piZip1 K (by rfl) B.zip (pa_cons (pv 3) (pa_cons (pe_slice (slA K) (pv 3) (po_some pe_int) po_none) pa_nil)))
              (blkOk_by (N := ["_law_source", "_law_domains", "_law_cells", "_law_some", "_law_road", "_law_rows_here", "_law_low", "_law_values", "_law_ties", "_law_row", "_law_cell", "_law_pair"]) (sc := defScope sDrawRule) (by decide +kernel))
              (fun _ _ _ _ _ => pg_name (i := 11) scDrawRule.nd rfl (.inl rfl)) (fun _ _ _ _ _ => pts_one (pt_cmpR op_gt (pe_call GP (hr.mono (by decide)) (by rfl) DP.g DP.F.kp DP.b .nil pass0 (pa_cons (pv 0) (pa_cons pe_int pa_nil))) pe_int (nomark _)))
              (fun _ _ _ _ _ => pe_callTy (tupleOf K) (by rfl) B.tuple PyProof.Rows.boot_tuple (pa_cons (pe_callB (sortedTK K) (by rfl) B.sorted PyProof.Rows.boot_sorted (pa_cons (pv 11) pa_nil)) pa_nil)))
      (pss_one (ps_ret (pe_tup (pa_cons pe_str (pa_cons (pv 3) (pa_cons (pe_callTy call_tuple_of (by rfl) B.tuple PyProof.Rows.boot_tuple (pa_cons (pe_callB cr_sortedP (by rfl) B.sorted PyProof.Rows.boot_sorted (pa_cons (pv 8) pa_nil)) pa_nil)) (pa_cons (pe_tup (pa_cons pe_int (pa_cons pe_int pa_nil))) pa_nil)))))))))))))))), ?_⟩
    -- the domains
    obtain ⟨ua, uvs, rfl, pU, hua, una⟩ : ∃ ua uvs, u = .ref ua ∧ Paired (IH H) uvs doms ∧ (H ua = some (.tup uvs) ∨ H ua = some (.lst uvs)) ∧ ua ≠ d ∧ ua ≠ cs := by
      rcases hd with ⟨a, vs, rfl, e, p⟩ | ⟨a, vs, rfl, e, p⟩
      · exact ⟨a, vs, rfl, p, .inl e, hs.ne e⟩
      · obtain ⟨zs, l, m, t, hd', hcs, _⟩ := hs
        refine ⟨a, vs, rfl, p, .inr e, fun z => ?_, fun z => ?_⟩
        · rw [z, hd'] at e
          cases e
        · rw [z, hcs] at e
          cases p with
          | nil => exact absurd n1 (by decide)
          | cons i r =>
            obtain ⟨b, eb, _⟩ := i
            subst eb
            have e2 := HO.lst.inj (Option.some.inj e)
            cases zs with
            | nil => cases e2
            | cons z0 zs => cases e2
    have ul := pU.length
    have hU : ∀ H', Rn d cs H H' → (SqL K H' ua uvs ∨ SqT K H' ua uvs) := fun H' rn => by
      rcases hua with e | e
      · exact .inr (sqt (rn _ _ una.1 una.2 e))
      · exact .inl (sql (rn _ _ una.1 una.2 e))
    refine ⟨_, rfl, _, rfl, ua, _, rfl, hU H (.refl _ _ _), _, rfl, RgOk.of_le (by decide) (by omega) (by decide) (by omega), fun q hq => ?_⟩
    have nq := hs.none hq
    refine ⟨d, cs, .ref q, nI (List.range doms.length), rfl, hs.upd nq.1 nq.2, ⟨q, rfl, by rw [upd_same, ul, rgV_nI]⟩, by unfold nI; rw [List.length_map, List.length_range]; omega, fun l N H2 pm hs2 rn2 hln hl2 => ?_⟩
    have rn02 : Rn d cs H H2 := (rn_same (same_new hq)).trans rn2
    have N_len : N.length = doms.length := by
      rw [pm.length_eq]
      unfold nI
      rw [List.length_map, List.length_range]
    have N_nd : N.Nodup := by
      refine pm.nodup_iff.mpr ?_
      unfold nI
      exact (List.nodup_range).map _ (fun a b h => by omega)
    have N_rg : ∀ c ∈ N, 0 ≤ c ∧ c < (doms.length : Int) := fun c hc => by
      obtain ⟨j, hj, rfl⟩ := List.mem_map.mp (pm.mem_iff.mp hc)
      rw [List.mem_range] at hj
      omega
    have nl : l ≠ d ∧ l ≠ cs := (hs.upd (o := .lst (rgV 0 (uvs.length : Int))) nq.1 nq.2).none hln
    have cutS : ∀ k : Nat, 1 ≤ k → k ≤ 3 → (N.take k).Nodup ∧ 1 ≤ (N.take k).length ∧ (N.take k).length ≤ 3 ∧ ∀ c ∈ N.take k, 0 ≤ c ∧ c < (doms.length : Int) := fun k k1 k3 =>
      ⟨(List.take_sublist _ _).nodup N_nd, by rw [List.length_take]; omega, by rw [List.length_take]; omega, fun c hc => N_rg c (List.take_subset _ _ hc)⟩
    refine ⟨_, rfl, l, _, rfl, .inl (sql hl2), _, _, rfl, rfl, _, rfl, ?_⟩
    apply dup (F := fun T H3 => ∃ S : List Int, SrcAt H3 d cs ∧ Rn d cs H H3 ∧ H3 T = some (.tup (S.map V.int)) ∧ S.Nodup ∧ 1 ≤ S.length ∧ S.length ≤ 3 ∧ ∀ c ∈ S, 0 ≤ c ∧ c < (doms.length : Int))
    · intro rest
      by_cases g : (1 : Int) < ((N.map V.int).length : Nat)
      · refine ifT (decide_eq_true g) ?_
        have e1 : 2 ≤ N.length := by
          rw [List.length_map] at g
          omega
        have mm : (if (((N.map V.int).length : Nat) : Int) - 1 < 2 then (((N.map V.int).length : Nat) : Int) - 1 else 2) ≤ 2 := by
          split <;> omega
        refine ⟨_, rfl, _, rfl, _, rfl, l, _, rfl, .inl (sql hl2), _, _, rfl, rfl, _, _, rfl, ?_⟩
        generalize (if (((N.map V.int).length : Nat) : Int) - 1 < 2 then (((N.map V.int).length : Nat) : Int) - 1 else 2) = most at mm ⊢
        refine ⟨d, cs, most, rfl, hs2, by omega, fun r H3 r0 r1 hs3 rn3 => ⟨_, _, rfl, rfl, _, rfl, ?_⟩⟩
        have rb : 0 ≤ r ∧ r ≤ 1 := by
          by_cases z : most < 2
          · have := r0 z
            omega
          · have := r1 (by omega)
            omega
        have hl3 : H3 l = some (.lst (N.map V.int)) := rn3 _ _ nl.1 nl.2 hl2
        refine ⟨l, _, rfl, sql hl3, fun L3 hL3 => ⟨L3, _, rfl, .inl ⟨sql upd_same, fun T hT => ?_⟩⟩⟩
        rw [cut_take _ (by show (0 : Int) ≤ 2 + r; omega), ← List.map_take] at hT ⊢
        obtain ⟨c1, c2, c3, c4⟩ := cutS (2 + r).toNat (by omega) (by omega)
        have sm : Same H3 (upd (upd H3 L3 (.lst ((N.take (2 + r).toNat).map V.int))) T (.tup ((N.take (2 + r).toNat).map V.int))) := fun b o e => upd_at hT (upd_at hL3 e)
        have f1 : SrcAt (upd (upd H3 L3 (.lst ((N.take (2 + r).toNat).map V.int))) T (.tup ((N.take (2 + r).toNat).map V.int))) d cs := hs3.same sm
        have f2 : Rn d cs H (upd (upd H3 L3 (.lst ((N.take (2 + r).toNat).map V.int))) T (.tup ((N.take (2 + r).toNat).map V.int))) := (rn02.trans rn3).trans (rn_same sm)
        have f3 : upd (upd H3 L3 (.lst ((N.take (2 + r).toNat).map V.int))) T (.tup ((N.take (2 + r).toNat).map V.int)) T = some (.tup ((N.take (2 + r).toNat).map V.int)) := upd_same
        generalize upd (upd H3 L3 (.lst ((N.take (2 + r).toNat).map V.int))) T (.tup ((N.take (2 + r).toNat).map V.int)) = H5 at f1 f2 f3 ⊢
        exact rest T H5 ⟨_, f1, f2, f3, c1, c2, c3, c4⟩
      · refine ifF (decide_eq_false g) ?_
        refine ⟨_, rfl, l, _, rfl, .inl ⟨sql hl2, fun T hT => ?_⟩⟩
        have f1 : SrcAt (upd H2 T (.tup (N.map V.int))) d cs := hs2.same (same_new hT)
        have f2 : Rn d cs H (upd H2 T (.tup (N.map V.int))) := rn02.trans (rn_same (same_new hT))
        have f3 : upd H2 T (.tup (N.map V.int)) T = some (.tup (N.map V.int)) := upd_same
        have e1 : N.length = 1 := by
          rw [List.length_map] at g
          omega
        generalize upd H2 T (.tup (N.map V.int)) = H3 at f1 f2 f3 ⊢
        exact rest T H3 ⟨N, f1, f2, f3, N_nd, by omega, by omega, N_rg⟩
    intro T H3 hF
    obtain ⟨S, hs3, rn3, hT, S_nd, S1, S3, S_rg⟩ := hF
    refine ⟨_, rfl, d, cs, 7, rfl, hs3, by decide, fun r H4 r0 r1 hs4 rn4 => ?_⟩
    have r7 := r1 (by decide)
    have rnH : Rn d cs H H4 := rn3.trans rn4
    have nT := hs3.ne hT
    have hT4 : H4 T = some (.tup (S.map V.int)) := rn4 _ _ nT.1 nT.2 hT
    have iS : IH H4 (.ref T) S := ⟨T, rfl, hT4⟩
    have S_ne : S ≠ [] := fun z => by
      rw [z] at S1
      exact absurd S1 (by decide)
    have fin : ∀ (w : V) (rr : Rul) (H' : Hp), Rul.cells rr = S → RulNum rr → (match rr with | .joined _ ties _ => ties.length ≤ 100 | _ => True) → TabLen rr → SrcAt H' d cs → Rn d cs H4 H' → RuH H' w rr → Q w H' := fun w rr H' ec hnum hj ht hs' rn' hr' =>
      k w rr H' ⟨hnum, by rw [ec]; omega, ⟨by rw [ec]; exact S_nd, by rw [ec]; omega, hj⟩, by rw [ec]; exact S_ne, ht, by rw [ec]; exact S_rg⟩ hs' (rnH.trans rn') hr'
    have c7 : r = 0 ∨ r = 1 ∨ r = 2 ∨ r = 3 ∨ r = 4 ∨ r = 5 ∨ r = 6 := by omega
    have unl : ∀ (T2 : Addr), H4 T2 = none → Q (.ref T2) (upd H4 T2 (.tup [.str "unlike", .ref T])) := fun T2 hT2 =>
      fin (.ref T2) (.unlike S) _ rfl trivial trivial trivial (hs4.same (same_new hT2)) (rn_same (same_new hT2)) ⟨T2, .ref T, rfl, upd_same, iS.kt (kt_same (same_new hT2))⟩
    rcases c7 with rfl | rfl | rfl | rfl | rfl | rfl | rfl
    -- table
    · refine ⟨_, rfl, rfl, _, rfl, ifT (by decide) ?_⟩
      have hU4 := hU H4 rnH
      have at4 : ∀ c ∈ S, atI uvs c = some (uvs.getD c.toNat .non) := fun c hc => by
        obtain ⟨c0, c1⟩ := S_rg c hc
        have lt : c.toNat < uvs.length := by omega
        have e : ((c.toNat : Nat) : Int) = c := Int.toNat_of_nonneg c0
        rw [← e]
        refine L2.atI_nat ?_
        rw [List.getD_eq_getElem?_getD, Int.toNat_natCast, List.getElem?_eq_getElem lt]
        rfl
      have pS : ∀ C : List Int, (∀ c ∈ C, 0 ≤ c ∧ c < (doms.length : Int)) → Paired (IH H) (C.map fun c => uvs.getD c.toNat .non) (C.map fun c => doms.getD c.toNat []) := by
        intro C
        induction C with
        | nil => exact fun _ => .nil
        | cons c C ih =>
          intro hC
          obtain ⟨c0, c1⟩ := hC c (List.mem_cons_self ..)
          have lt : c.toNat < doms.length := by omega
          obtain ⟨x, hx, ix⟩ := paired_at' pU (List.getElem?_eq_getElem lt)
          refine .cons ?_ (ih fun z hz => hC z (List.mem_cons_of_mem _ hz))
          show IH H (uvs.getD c.toNat .non) (doms.getD c.toNat [])
          rw [List.getD_eq_getElem?_getD, hx, List.getD_eq_getElem?_getD, List.getElem?_eq_getElem lt]
          exact ix
      refine ⟨_, rfl, T, rfl, ⟨_, sqt hT4⟩, fun Lq hLq => ?_⟩
      refine lc_it (walk_tup (xs := S.map V.int)) (fun i H' => H' = upd H4 Lq (.lst ((S.take i).map fun c => uvs.getD c.toNat .non))) rfl (fun i H' _ h => ?_) (fun i x H' H'' hi h y => ?_) (fun H' h => ?_)
      · subst h
        exact sqt (upd_at hLq hT4)
      · obtain ⟨rfl, hx⟩ := y
        obtain ⟨c, hc, rfl⟩ := at_ints hx
        subst h
        have hm : c ∈ S := List.mem_of_getElem? hc
        have goon : ∃ xs, upd H4 Lq (.lst ((S.take i).map fun c => uvs.getD c.toNat .non)) Lq = some (.lst xs) ∧ xs.length < sizeLine ∧ upd (upd H4 Lq (.lst ((S.take i).map fun c => uvs.getD c.toNat .non))) Lq (.lst (xs ++ [uvs.getD c.toNat .non])) = upd H4 Lq (.lst ((S.take (i + 1)).map fun c => uvs.getD c.toNat .non)) := by
          refine ⟨_, upd_same, ?_, ?_⟩
          · rw [List.length_map, List.length_take, sizeLine_eq]
            omega
          · rw [upd_upd, List.take_add_one, hc, List.map_append]
            rfl
        obtain ⟨xs, g1, g2, g3⟩ := goon
        rcases hua with e | e
        · exact ⟨rfl, _, rfl, _, rfl, .inl ⟨ua, _, c, _, rfl, rfl, sqt (upd_at hLq (rnH _ _ una.1 una.2 e)), at4 c hm, xs, g1, g2, g3⟩⟩
        · exact ⟨rfl, _, rfl, _, rfl, .inr ⟨ua, _, c, _, rfl, rfl, sql (upd_at hLq (rnH _ _ una.1 una.2 e)), at4 c hm, xs, g1, g2, g3⟩⟩
      · rw [List.length_map, List.take_length] at h
        have sq : Same H4 (upd H4 Lq (.lst (S.map fun c => uvs.getD c.toNat .non))) := same_new hLq
        subst h
        refine ⟨.ref Lq, S.map fun c => doms.getD c.toNat [], rfl, .inr ⟨Lq, _, rfl, upd_same, paired_mono (fun _ _ z => (z.kt (rnH.kt hs)).kt (kt_same sq)) (pS S S_rg)⟩, by rw [List.length_map]; omega, fun e he => ?_, fun l2 H5 s5 hln hlr => ?_⟩
        · obtain ⟨c, hc, rfl⟩ := List.mem_map.mp he
          obtain ⟨c0, c1⟩ := S_rg c hc
          have lt : c.toNat < doms.length := by omega
          rw [List.getD_eq_getElem?_getD, List.getElem?_eq_getElem lt]
          exact d4 _ (List.getElem_mem lt)
        have RF : ∀ r ∈ rowsOf (S.map fun c => doms.getD c.toNat []), r.length ≤ 8 ∧ ∀ v ∈ r, Few v := fun r hr => by
          refine ⟨by rw [rowsOf_each _ _ rfl r hr, List.length_map]; omega, rowsOf_all _ _ rfl (fun e he => ?_) r hr⟩
          obtain ⟨c, hc, rfl⟩ := List.mem_map.mp he
          obtain ⟨c0, c1⟩ := S_rg c hc
          have lt : c.toNat < doms.length := by omega
          rw [List.getD_eq_getElem?_getD, List.getElem?_eq_getElem lt]
          exact dF _ (List.getElem_mem lt)
        have RL : (rowsOf (S.map fun c => doms.getD c.toNat [])).length ≤ 64 := Nat.le_trans (rowsOf_len _ _ rfl fun e he => by
          obtain ⟨c, hc, rfl⟩ := List.mem_map.mp he
          obtain ⟨c0, c1⟩ := S_rg c hc
          have lt : c.toNat < doms.length := by omega
          rw [List.getD_eq_getElem?_getD, List.getElem?_eq_getElem lt]
          exact d4 _ (List.getElem_mem lt)) (Nat.le_trans (Nat.pow_le_pow_right (by decide) (by rw [List.length_map]; exact S3)) (by decide))
        generalize rowsOf (S.map fun c => doms.getD c.toNat []) = RR at hlr RL RF
        obtain ⟨a2, rvs, e2, hrv, prv⟩ := hlr
        cases e2
        have sB := Same.tr sq s5
        have n2 := (hs4.same sq).none hln
        have hs5 := hs4.same sB
        have rn5 : Rn d cs H4 H5 := rn_same sB
        have rvl := prv.length
        refine ⟨l2, rfl, ⟨_, sql hrv⟩, fun Lr hLr => ?_⟩
        have nLr := hs5.none hLr
        refine lc_it (walk_list (K := K) (a := l2) (xs := rvs)) (fun i H' => ∃ (vs : List V) (rows : List (List Int)), H' Lr = some (.lst vs) ∧ Paired (IH H') vs rows ∧ (rows.length ≤ i ∧ ∀ r ∈ rows, r ∈ RR) ∧ SrcAt H' d cs ∧ Rn d cs H5 H')
          ⟨[], [], upd_same, .nil, ⟨Nat.le_refl _, fun r hr => by cases hr⟩, hs5.upd nLr.1 nLr.2, rn_same (same_new hLr)⟩ (fun i H' _ h => ?_) (fun i x H' H'' hi h y => ?_) (fun H' h => ?_)
        · obtain ⟨_, _, _, _, _, _, rn'⟩ := h
          exact sql (rn' _ _ n2.1 n2.2 hrv)
        · obtain ⟨rfl, hx⟩ := y
          obtain ⟨vs, rows, hv, pv', ⟨rl, rin⟩, hs', rn'⟩ := h
          obtain ⟨row, hrow, ir⟩ := paired_at prv hx
          refine ⟨rfl, _, rfl, d, cs, 3, rfl, hs', by decide, fun r6 H6 _ _ hs6 rn6 => ⟨_, _, rfl, rfl, _, rfl, ?_⟩⟩
          have hv6 := rn6 _ _ nLr.1 nLr.2 hv
          have p6 := paired_mono (fun _ _ z => IH.kt (Rn.kt hs' rn6) z) pv'
          have ir6 := ir.kt ((rn'.trans rn6).kt hs5)
          have vl := pv'.length
          by_cases g : r6 > 0
          · refine ifT (decide_eq_true g) ⟨_, rfl, _, hv6, by rw [sizeLine_eq]; omega, vs ++ [x], rows ++ [row], upd_same, paired_app (paired_mono (fun _ _ z => IH.kt (ktL hv6) z) p6) (paired_one (ir6.kt (ktL hv6))), ⟨by rw [List.length_append]; show rows.length + 1 ≤ _; omega, fun r hr => (List.mem_append.mp hr).elim (rin r) fun z => by rw [List.mem_singleton.mp z]; exact List.mem_of_getElem? hrow⟩, hs6.upd nLr.1 nLr.2, fun b o h1 h2 e => ?_⟩
            rw [upd_ne (fun z => by rw [z, hLr] at e; cases e)]
            exact rn6 b o h1 h2 (rn' b o h1 h2 e)
          · exact ifF (decide_eq_false g) ⟨vs, rows, hv6, p6, ⟨by omega, rin⟩, hs6, rn'.trans rn6⟩
        · obtain ⟨vs, rows, hv, pv', ⟨rl, rin⟩, hs', rn'⟩ := h
          refine ⟨_, rfl, _, rfl, Lr, vs, rfl, .inl ⟨sql hv, fun T9 hT9 => ⟨(show 3 ≤ sizeLine by decide), fun T3 hT3 => ?_⟩⟩⟩
          have s2 : Same H' (upd (upd H' T9 (.tup vs)) T3 (.tup [.str "table", .ref T, .ref T9])) := fun b o e => upd_at hT3 (upd_at hT9 e)
          have rnA := rn5.trans rn'
          exact fin (.ref T3) (.table S rows) _ rfl ⟨by omega, fun r hr => RF r (rin r hr)⟩ trivial (by show rows.length ≤ 65536; omega) (hs'.same s2) (rnA.trans (rn_same s2)) ⟨T3, .ref T, .ref T9, rfl, upd_same, (iS.kt (rnA.kt hs4)).kt (kt_same s2), ⟨T9, vs, rfl, upd_at hT3 upd_same, paired_mono (fun _ _ z => IH.kt (kt_same s2) z) pv'⟩⟩
    · refine ⟨_, rfl, rfl, _, rfl, ifF (by decide) ?_⟩
      refine ⟨_, rfl, rfl, _, rfl, ifT (by decide) ?_⟩
      refine ifT rfl ?_
      exact ⟨_, rfl, (show 2 ≤ sizeLine by decide), unl⟩
    -- sum
    · refine ⟨_, rfl, rfl, _, rfl, ifF (by decide) ?_⟩
      refine ⟨_, rfl, rfl, _, rfl, ifF (by decide) ?_⟩
      refine ⟨_, rfl, rfl, _, rfl, ifF (by decide) (ifF rfl ?_)⟩
      refine ⟨_, rfl, rfl, _, rfl, ifT (by decide) ?_⟩
      refine ⟨_, rfl, d, cs, 6, rfl, hs4, by decide, fun r5 H5 _ b5 hs5 rn5 => ?_⟩
      refine ⟨_, rfl, _, rfl, _, rfl, _, rfl, d, cs, 3, rfl, hs5, by decide, fun r6 H6 _ b6 hs6 rn6 => ⟨_, _, rfl, rfl, (show 4 ≤ sizeLine by decide), fun T2 hT2 => ?_⟩⟩
      have b5' := b5 (by decide)
      have b6' := b6 (by decide)
      exact fin (.ref T2) (.sum S r5 (r5 + r6)) _ rfl ⟨⟨by omega, by omega⟩, by omega, by omega⟩ trivial trivial (hs6.same (same_new hT2)) ((Rn.trans rn5 rn6).trans (rn_same (same_new hT2))) ⟨T2, .ref T, rfl, upd_same, (iS.kt (Rn.kt hs4 (Rn.trans rn5 rn6))).kt (kt_same (same_new hT2))⟩
    -- count
    · refine ⟨_, rfl, rfl, _, rfl, ifF (by decide) ?_⟩
      refine ⟨_, rfl, rfl, _, rfl, ifF (by decide) ?_⟩
      refine ⟨_, rfl, rfl, _, rfl, ifF (by decide) (ifF rfl ?_)⟩
      refine ⟨_, rfl, rfl, _, rfl, ifF (by decide) ?_⟩
      refine ⟨_, rfl, rfl, _, rfl, ifT (by decide) ?_⟩
      refine ⟨_, rfl, _, rfl, T, _, rfl, .inr (sqt hT4), d, cs, _, rfl, hs4, by rw [List.length_map]; omega, fun r5 H5 a5 b5 hs5 rn5 => ?_⟩
      refine ⟨_, rfl, d, cs, 2, rfl, hs5, by decide, fun r6 H6 _ b6 hs6 rn6 => ⟨_, rfl, d, cs, 2, rfl, hs6, by decide, fun r8 H7 _ b8 hs7 rn7 => ⟨_, _, rfl, rfl, (show 2 ≤ sizeLine by decide), fun Tv hTv => ?_⟩⟩⟩
      have sv : Same H7 (upd H7 Tv (.tup [.int r6, .int (2 + r8)])) := same_new hTv
      have hs8 := hs7.same sv
      refine ⟨_, rfl, _, rfl, _, rfl, _, rfl, _, rfl, d, cs, 2, rfl, hs8, by decide, fun r9 H8 _ b9 hs9 rn9 => ⟨_, _, rfl, rfl, (show 5 ≤ sizeLine by decide), fun T2 hT2 => ?_⟩⟩
      have rnA : Rn d cs H4 H8 := (((Rn.trans rn5 rn6).trans rn7).trans (rn_same sv)).trans rn9
      have iv : IH H8 (.ref Tv) [r6, 2 + r8] := IH.kt (Rn.kt hs8 rn9) ⟨Tv, rfl, upd_same⟩
      have b6' := b6 (by decide)
      have b8' := b8 (by decide)
      have b9' := b9 (by decide)
      have b5' : 0 ≤ r5 ∧ r5 < 4 := by
        rw [List.length_map] at a5 b5
        by_cases z : ((S.length : Nat) : Int) < 2
        · have := a5 z
          omega
        · have := b5 (by omega)
          omega
      exact fin (.ref T2) (.count S [r6, 2 + r8] r5 (r5 + r9)) _ rfl ⟨⟨by show 2 ≤ 8; decide, fun v hv => by
        rcases List.mem_cons.mp hv with z | z
        · rw [z]; exact ⟨by omega, by omega⟩
        · rw [List.mem_singleton.mp z]; exact ⟨by omega, by omega⟩⟩, ⟨by omega, by omega⟩, by omega, by omega⟩ trivial trivial (hs9.same (same_new hT2)) (rnA.trans (rn_same (same_new hT2))) ⟨T2, .ref T, .ref Tv, rfl, upd_same, (iS.kt (rnA.kt hs4)).kt (kt_same (same_new hT2)), iv.kt (kt_same (same_new hT2))⟩
    -- below
    · refine ⟨_, rfl, rfl, _, rfl, ifF (by decide) ?_⟩
      refine ⟨_, rfl, rfl, _, rfl, ifF (by decide) ?_⟩
      refine ⟨_, rfl, rfl, _, rfl, ifT (by decide) ?_⟩
      refine ⟨_, rfl, T, _, rfl, .inr (sqt hT4), _, _, rfl, rfl, _, rfl, ?_⟩
      by_cases g : (((S.map V.int).length : Nat) : Int) < 2
      · refine ifT (decide_eq_true g) ?_
        exact ⟨_, rfl, (show 2 ≤ sizeLine by decide), unl⟩
      · refine ifF (decide_eq_false g) ?_
        refine ⟨_, rfl, rfl, _, rfl, ifF (by decide) ?_⟩
        refine ⟨_, rfl, rfl, _, rfl, ifF (by decide) ?_⟩
        refine ⟨_, rfl, rfl, _, rfl, ifT (by decide) ?_⟩
        obtain ⟨x, y, rest, eS⟩ : ∃ x y rest, S = x :: y :: rest := by
          match S, g with
          | x :: y :: rest, _ => exact ⟨x, y, rest, rfl⟩
          | [x], g => exact absurd (show (1 : Int) < 2 by decide) g
          | [], g => exact absurd (show (0 : Int) < 2 by decide) g
        subst eS
        refine ⟨_, rfl, T, _, 0, _, rfl, rfl, sqt hT4, (show atI ((x :: y :: rest).map V.int) ((0 : Nat) : Int) = some (V.int x) from L2.atI_nat rfl), _, rfl, T, _, 1, _, rfl, rfl, sqt hT4, (show atI ((x :: y :: rest).map V.int) ((1 : Nat) : Int) = some (V.int y) from L2.atI_nat rfl), (show 3 ≤ sizeLine by decide), fun T2 hT2 => ?_⟩
        have nd2 : [x, y].Nodup := (List.Sublist.nodup (List.Sublist.cons₂ x (List.Sublist.cons₂ y (List.nil_sublist rest))) S_nd)
        exact k (.ref T2) (.below x y) _ ⟨trivial, (show 2 ≤ 8 by decide), ⟨nd2, (show 2 ≤ 100 by decide), trivial⟩, (fun z => nomatch z), trivial, fun c hc => S_rg c (by
          rcases List.mem_cons.mp hc with z | z
          · rw [z]; exact List.mem_cons_self ..
          · rw [List.mem_singleton.mp z]; exact List.mem_cons_of_mem _ (List.mem_cons_self ..))⟩ (hs4.same (same_new hT2)) (rnH.trans (rn_same (same_new hT2))) ⟨T2, rfl, upd_same⟩
    -- runs
    · refine ⟨_, rfl, rfl, _, rfl, ifF (by decide) ?_⟩
      refine ⟨_, rfl, rfl, _, rfl, ifF (by decide) ?_⟩
      refine ⟨_, rfl, rfl, _, rfl, ifF (by decide) (ifF rfl ?_)⟩
      refine ⟨_, rfl, rfl, _, rfl, ifF (by decide) ?_⟩
      refine ⟨_, rfl, rfl, _, rfl, ifF (by decide) ?_⟩
      refine ⟨_, rfl, rfl, _, rfl, ifF (by decide) ?_⟩
      refine ⟨_, rfl, rfl, _, rfl, ifT (by decide) ?_⟩
      refine ⟨_, rfl, (show 0 ≤ sizeLine by decide), fun A1 h1 => ⟨(show 1 ≤ sizeLine by decide), fun A2 h2 => ⟨(show 1 ≤ sizeLine by decide), fun A3 h3 => ⟨(show 2 ≤ sizeLine by decide), fun A4 h4 => ⟨(show 4 ≤ sizeLine by decide), fun L hL => ?_⟩⟩⟩⟩⟩
      have s1 := same_new (o := .tup []) h1
      have s2 := same_new (o := .tup [.int 1]) h2
      have s3 := same_new (o := .tup [.int 2]) h3
      have s4 := same_new (o := .tup [.int 1, .int 1]) h4
      have s5 := same_new (o := .lst [.ref A1, .ref A2, .ref A3, .ref A4]) hL
      have sA := Same.tr (Same.tr (Same.tr (Same.tr s1 s2) s3) s4) s5
      have q1 := s5 _ _ (s4 _ _ (s3 _ _ (s2 _ _ (upd_same (H := H4) (a := A1) (o := .tup [])))))
      have q2 := s5 _ _ (s4 _ _ (s3 _ _ (upd_same (a := A2) (o := .tup [.int 1]))))
      have q3 := s5 _ _ (s4 _ _ (upd_same (a := A3) (o := .tup [.int 2])))
      have q4 := s5 _ _ (upd_same (a := A4) (o := .tup [.int 1, .int 1]))
      have nL := (hs4.same (Same.tr (Same.tr (Same.tr s1 s2) s3) s4)).none hL
      have hL' : upd _ L (HO.lst [.ref A1, .ref A2, .ref A3, .ref A4]) L = some (.lst [.ref A1, .ref A2, .ref A3, .ref A4]) := upd_same (H := upd (upd (upd (upd H4 A1 (.tup [])) A2 (.tup [.int 1])) A3 (.tup [.int 2])) A4 (.tup [.int 1, .int 1]))
      have hs5 := hs4.same sA
      generalize upd _ L (HO.lst [.ref A1, .ref A2, .ref A3, .ref A4]) = H5 at sA q1 q2 q3 q4 hL' hs5 ⊢
      refine ⟨_, rfl, d, cs, 4, rfl, hs5, by decide, fun r6 H6 _ e6 hs6 rn6 => ?_⟩
      have rb := e6 (by decide)
      obtain ⟨b, ls, hat, hb, hnum⟩ : ∃ (b : Addr) (ls : List Int), atI ([.ref A1, .ref A2, .ref A3, .ref A4] : List V) r6 = some (.ref b) ∧ H5 b = some (.tup (ls.map V.int)) ∧ ls.length ≤ 8 ∧ ∀ v ∈ ls, Few v := by
        have c4 : r6 = 0 ∨ r6 = 1 ∨ r6 = 2 ∨ r6 = 3 := by omega
        rcases c4 with rfl | rfl | rfl | rfl
        · exact ⟨A1, [], rfl, q1, by decide, by decide⟩
        · exact ⟨A2, [1], rfl, q2, by decide, by decide⟩
        · exact ⟨A3, [2], rfl, q3, by decide, by decide⟩
        · exact ⟨A4, [1, 1], rfl, q4, by decide, by decide⟩
      have ib : IH H6 (.ref b) ls := IH.kt (Rn.kt hs5 rn6) ⟨b, rfl, hb⟩
      refine ⟨L, _, r6, _, rfl, rfl, sql (rn6 _ _ nL.1 nL.2 hL'), hat, (show 3 ≤ sizeLine by decide), fun T2 hT2 => ?_⟩
      have rnA : Rn d cs H4 H6 := (rn_same sA).trans rn6
      exact fin (.ref T2) (.runs S ls) _ rfl hnum trivial trivial (hs6.same (same_new hT2)) (rnA.trans (rn_same (same_new hT2))) ⟨T2, .ref T, .ref b, rfl, upd_same, (iS.kt (rnA.kt hs4)).kt (kt_same (same_new hT2)), ib.kt (kt_same (same_new hT2))⟩
    · refine ⟨_, rfl, rfl, _, rfl, ifF (by decide) ?_⟩
      refine ⟨_, rfl, rfl, _, rfl, ifF (by decide) ?_⟩
      refine ⟨_, rfl, rfl, _, rfl, ifF (by decide) (ifF rfl ?_)⟩
      refine ⟨_, rfl, rfl, _, rfl, ifF (by decide) ?_⟩
      refine ⟨_, rfl, rfl, _, rfl, ifF (by decide) ?_⟩
      refine ⟨_, rfl, rfl, _, rfl, ifF (by decide) ?_⟩
      refine ⟨_, rfl, rfl, _, rfl, ifF (by decide) ?_⟩
      have ne0 : HT.sIx (S.map V.int).length 0 (some 1) = 1 := by
        have l1 : 1 ≤ (S.map V.int).length := by rw [List.length_map]; exact S1
        rw [show (some (1 : Int)) = some ((1 : Nat) : Int) from rfl, HT.sIx_nat]
        omega
      refine ⟨_, rfl, _, rfl, 1, rfl, T, _, rfl, sqt hT4, fun e => absurd e.1 (by rw [ne0]; decide), fun _ A hA => ?_⟩
      have ec : cutV (S.map V.int) (some 1) none = (S.drop 1).map V.int := by
        unfold cutV
        rw [ne0, List.map_drop]
        refine List.take_of_length_le ?_
        rw [List.length_drop]
        simp [HT.sIx]
      rw [ec]
      have sA := same_new (o := .tup ((S.drop 1).map V.int)) hA
      have hA5 : upd H4 A (.tup ((S.drop 1).map V.int)) A = some (.tup ((S.drop 1).map V.int)) := upd_same
      have hT5 := sA _ _ hT4
      have hs5 := hs4.same sA
      have rn5 : Rn d cs H4 (upd H4 A (.tup ((S.drop 1).map V.int))) := rn_same sA
      generalize upd H4 A (.tup ((S.drop 1).map V.int)) = H5 at hA5 hT5 hs5 rn5 ⊢
      refine ⟨T, A, _, _, rfl, sqt hT5, sqt hA5, fun L hL => ?_⟩
      have nL := hs5.none hL
      have nA := hs5.ne hA5
      have nT5 := hs5.ne hT5
      refine lc_it (walk_zip1 (xs := S.map V.int) (ys := (S.drop 1).map V.int) (n := S.length - 1) (by simp)) (fun i H' => ∃ tvs : List V, H' L = some (.lst tvs) ∧ (∀ x ∈ tvs, ∃ (t : Addr) (p q : Int), x = V.ref t ∧ H' t = some (.tup [.int p, .int q]) ∧ Few p ∧ Few q) ∧ tvs.length ≤ i ∧ SrcAt H' d cs ∧ Rn d cs H5 H')
        ⟨[], upd_same, (fun x hx => by cases hx), Nat.le_refl _, hs5.upd nL.1 nL.2, rn_same (same_new hL)⟩ (fun i H' _ h => ?_) (fun i x H' H'' hi h y => ?_) (fun H' h => ?_)
      · obtain ⟨_, _, _, _, _, rn'⟩ := h
        exact ⟨sqt (rn' _ _ nT5.1 nT5.2 hT5), sqt (rn' _ _ nA.1 nA.2 hA5)⟩
      · obtain ⟨T1, e1, e2, rfl, hT1, rfl, h1, h2⟩ := y
        obtain ⟨tvs, hLv, each, tl, hs', rn'⟩ := h
        obtain ⟨c1, hc1, rfl⟩ := at_ints h1
        obtain ⟨c2, hc2, rfl⟩ := at_ints h2
        have s1 := same_new (o := .tup [V.int c1, V.int c2]) hT1
        have hs6 := hs'.same s1
        have hLv6 := s1 _ _ hLv
        have hT6 : upd H' T1 (.tup [V.int c1, V.int c2]) T1 = some (.tup [V.int c1, V.int c2]) := upd_same
        have each6 : ∀ x ∈ tvs, ∃ (t : Addr) (p q : Int), x = V.ref t ∧ upd H' T1 (.tup [V.int c1, V.int c2]) t = some (.tup [.int p, .int q]) ∧ Few p ∧ Few q := fun x hx => by
          obtain ⟨t, p, q, e, z, fz⟩ := each x hx
          exact ⟨t, p, q, e, s1 _ _ z, fz⟩
        have rn6 : Rn d cs H5 (upd H' T1 (.tup [V.int c1, V.int c2])) := rn'.trans (rn_same s1)
        generalize upd H' T1 (.tup [V.int c1, V.int c2]) = H6 at hs6 hLv6 hT6 each6 rn6 ⊢
        have nT1 := hs6.ne hT6
        refine ⟨rfl, _, rfl, d, cs, 4, rfl, hs6, by decide, fun r8 H7 _ _ hs7 rn7 => ⟨_, _, rfl, rfl, _, rfl, ?_⟩⟩
        have hLv7 := rn7 _ _ nL.1 nL.2 hLv6
        have hT7 := rn7 _ _ nT1.1 nT1.2 hT6
        have each7 : ∀ x ∈ tvs, ∃ (t : Addr) (p q : Int), x = V.ref t ∧ H7 t = some (.tup [.int p, .int q]) ∧ Few p ∧ Few q := fun x hx => by
          obtain ⟨t, p, q, e, z, fz⟩ := each6 x hx
          have nt := hs6.ne z
          exact ⟨t, p, q, e, rn7 _ _ nt.1 nt.2 z, fz⟩
        by_cases g : r8 > 0
        · refine ifT (decide_eq_true g) ?_
          refine ⟨_, rfl, T1, [c1, c2], rfl, sqt hT7, fun ns' p pm _ hp => ⟨p, _, rfl, .inl ⟨sql upd_same, fun l' hl' => ?_⟩⟩⟩
          obtain ⟨u1, u2, rfl⟩ : ∃ u1 u2, ns' = [u1, u2] := by
            have := pm.length_eq
            match ns', this with
            | [u1, u2], _ => exact ⟨u1, u2, rfl⟩
          have fu : ∀ v ∈ [u1, u2], Few v := fun v hv => by
            have h1 := pm.mem_iff.mp hv
            rcases List.mem_cons.mp h1 with z | z
            · rw [z]
              have := S_rg c1 (List.mem_of_getElem? hc1)
              exact ⟨by omega, by omega⟩
            · rw [List.mem_singleton.mp z]
              have := S_rg c2 (List.drop_subset _ _ (List.mem_of_getElem? hc2))
              exact ⟨by omega, by omega⟩
          have s2 : Same H7 (upd (upd H7 p (.lst ([u1, u2].map V.int))) l' (.tup ([u1, u2].map V.int))) := fun b o e => upd_at hl' (upd_at hp e)
          have hl8 : upd (upd H7 p (.lst ([u1, u2].map V.int))) l' (.tup ([u1, u2].map V.int)) l' = some (.tup [.int u1, .int u2]) := upd_same
          have hs8 := hs7.same s2
          have hLv8 := s2 _ _ hLv7
          have each8 : ∀ x ∈ tvs, ∃ (t : Addr) (p q : Int), x = V.ref t ∧ upd (upd H7 _ (.lst ([u1, u2].map V.int))) l' (.tup ([u1, u2].map V.int)) t = some (.tup [.int p, .int q]) ∧ Few p ∧ Few q := fun x hx => by
            obtain ⟨t, p, q, e, z, fz⟩ := each7 x hx
            exact ⟨t, p, q, e, s2 _ _ z, fz⟩
          have rn8 : Rn d cs H5 (upd (upd H7 p (.lst ([u1, u2].map V.int))) l' (.tup ([u1, u2].map V.int))) := (rn6.trans rn7).trans (rn_same s2)
          generalize upd (upd H7 p (.lst ([u1, u2].map V.int))) l' (.tup ([u1, u2].map V.int)) = H8 at hl8 hs8 hLv8 each8 rn8 ⊢
          have keepT : ∀ {t : Addr} {p q : Int}, H8 t = some (.tup [.int p, .int q]) → upd H8 L (.lst (tvs ++ [.ref l'])) t = some (.tup [.int p, .int q]) := fun {t p q} e => by
            rw [upd_ne (ne_of e hLv8 fun z => by cases z)]
            exact e
          refine ⟨_, hLv8, by rw [sizeLine_eq]; omega, tvs ++ [.ref l'], upd_same, fun x hx => ?_, by rw [List.length_append]; show tvs.length + 1 ≤ _; omega, hs8.upd nL.1 nL.2, fun b o n1 n2 e => ?_⟩
          · rcases List.mem_append.mp hx with z | z
            · obtain ⟨t, p, q, e, w, fz⟩ := each8 x z
              exact ⟨t, p, q, e, keepT w, fz⟩
            · exact ⟨l', u1, u2, List.mem_singleton.mp z, keepT hl8, fu _ (List.mem_cons_self ..), fu _ (List.mem_cons_of_mem _ (List.mem_cons_self ..))⟩
          · rw [upd_ne (fun z => by rw [z, hL] at e; cases e)]
            exact rn8 b o n1 n2 e
        · exact ifF (decide_eq_false g) ⟨tvs, hLv7, each7, by omega, hs7, rn6.trans rn7⟩
      · obtain ⟨tvs, hLv, each, tl, hs', rn'⟩ := h
        refine ⟨_, rfl, _, rfl, L, tvs, rfl, sql hLv, (fun x hx => let ⟨t, p, q, e, z, _⟩ := each x hx; ⟨t, p, q, e, z⟩), fun ys p pm hp => ⟨p, _, rfl, .inl ⟨sql upd_same, fun T9 hT9 => ⟨(show 2 ≤ sizeLine by decide), fun T2 hT2 => ⟨(show 4 ≤ sizeLine by decide), fun T3 hT3 => ?_⟩⟩⟩⟩⟩
        have s2 : Same H' (upd (upd (upd (upd H' p (.lst ys)) T9 (.tup ys)) T2 (.tup [.int 1, .int 2])) T3 (.tup [.str "joined", .ref T, .ref T9, .ref T2])) := fun b o e => upd_at hT3 (upd_at hT2 (upd_at hT9 (upd_at hp e)))
        obtain ⟨ties, pt, ptl, pfw⟩ := pairs_of (fun x hx => each x (pm.mem_iff.mp hx))
        have rnA := rn5.trans rn'
        exact fin (.ref T3) (.joined S ties [1, 2]) _ rfl ⟨⟨by have := pm.length_eq; omega, pfw⟩, by show 2 ≤ 8; decide, by decide⟩ (by show ties.length ≤ 100; have := pm.length_eq; omega) trivial (hs'.same s2) (rnA.trans (rn_same s2)) ⟨T3, .ref T, .ref T9, .ref T2, rfl, upd_same, (iS.kt (rnA.kt hs4)).kt (kt_same s2), ⟨T9, ys, rfl, upd_at hT3 (upd_at hT2 upd_same), paired_map (paired_mono (fun _ _ z => IH.kt (kt_same s2) z) pt)⟩, ⟨T2, rfl, upd_at hT3 upd_same⟩⟩
end
end G9

set_option Elab.async false
set_option linter.all false
set_option maxRecDepth 100000
set_option maxHeartbeats 4000000
/-! part_of, common_part -/
namespace G9
open PySem PySem.Spec PyProof.Rows L2 GX
/-- a row's pairs at some cells -/
def pairsAt (row ks : List Int) : List (Int × Int) := ks.map fun c => (c, row.getD c.toNat 0)
def spPartOf : Sp := fun vs H Q _ => ∃ (v : V) (row : List Int) (l : Addr) (cs : List Int), vs = [v, .ref l] ∧ IH H v row ∧ H l = some (.lst (cs.map V.int)) ∧ cs.length < 64 ∧ (∀ c ∈ cs, 0 ≤ c ∧ c < (row.length : Int)) ∧ ∀ (w : V) (ks : List Int) (H' : Hp), Same H H' → ks.Pairwise (· < ·) → (∀ c, c ∈ ks ↔ c ∈ cs) → RowsH H' w ((pairsAt row ks).map tie2) → Q w H'
def spCommon (pT : Addr) : Sp := fun vs H Q _ => ∃ u p, vs = [u] ∧ PzH H u p ∧ PzOk p ∧ GxR.TabG H pT ∧ (∀ H', Kb H H' → answersOf p = [] → Q .non H') ∧
  ∀ (w : V) (ks row : List Int) (rest : List (List Int)) (H' : Hp), Kb H H' → answersOf p = row :: rest → ks.Pairwise (· < ·) → (∀ c, c ∈ ks ↔ ∃ j : Nat, j < row.length ∧ isFree p row j = false ∧ c = (j : Int)) → RowsH H' w ((pairsAt row ks).map tie2) → (∃ a, w = .ref a) → Q w H'
section
variable {P : Program} {w : World} {K : PySem.W.Frag} {mg : Str → Option Value} {base : Heap} {f f1 f2 f3 : Addr} {fd fd1 fd2 fd3 : FuncData} {pT : Addr}
theorem ok_partOf (B : Bl mg) (D : Df K mg "part_of" sPartOf ["values", "cells"] f fd) : FnOk P w K mg base CX0 1 f fd ["values", "cells"] spPartOf := by
  refine D.F.ok scPartOf (fun vs H Q E h => ?_) (fun cdv A outer s H vs Q E hr h => ?_)
  · obtain ⟨v, row, l, cs, rfl, _⟩ := h
    rfl
  · obtain ⟨v, row, l, cs, rfl, hv, hl, c64, hc, k⟩ := h
    refine ⟨_, pss_one (ps_ret (pe_callTy call_tuple_of (by rfl) B.tuple PyProof.Rows.boot_tuple (pa_cons
      (pe_lc (own := [("cell", 2)]) rfl scPartOf.nd (pi_list (pe_callB (cr_sortedSet rfl) (by rfl) B.sorted PyProof.Rows.boot_sorted (pa_cons (pe_callTy (cr_setL rfl) (by rfl) B.sset PyProof.Rows.boot_set (pa_cons (pv 1) pa_nil)) pa_nil))) (blkOk_by (N := ["values", "cells", "cell"]) (sc := defScope sPartOf) (by decide +kernel))
        (fun _ _ _ _ _ => pg_name (i := 2) scPartOf.nd rfl (.inl rfl)) (fun _ _ _ _ _ => pts_nil) (fun _ _ _ _ _ => pe_tup (pa_cons (pv 2) (pa_cons (pe_ix (ixT K) (pv 0) (pv 2) (fun _ _ => rfl)) pa_nil)))) pa_nil))), ?_⟩
    obtain ⟨va, rfl, hva⟩ := hv
    refine ⟨_, rfl, l, cs, rfl, sql hl, by omega, fun S n hS hn => ?_⟩
    refine ⟨S, _, n, rfl, upd_same, by omega, fun ks L0 lt mem len hL0 => ?_⟩
    have mem' : ∀ c, c ∈ ks ↔ c ∈ cs := fun c => by rw [mem c, decide_eq_true_iff]
    have s1 : Same H (upd (upd H S (SetO (cxOf CX0 P w K mg base ["values", "cells", "cell"] "part_of" (defScope sPartOf) f cdv A outer s H E).nox.w S (fun j => decide (j ∈ cs)) n)) L0 (.lst (ks.map V.int))) := fun b o e => upd_at hL0 (upd_at hS e)
    have hks : upd (upd H S (SetO (cxOf CX0 P w K mg base ["values", "cells", "cell"] "part_of" (defScope sPartOf) f cdv A outer s H E).nox.w S (fun j => decide (j ∈ cs)) n)) L0 (.lst (ks.map V.int)) L0 = some (.lst (ks.map V.int)) := upd_same
    refine ⟨L0, rfl, ⟨_, sql upd_same⟩, fun L hL => ?_⟩
    generalize upd (upd H S (SetO (cxOf CX0 P w K mg base ["values", "cells", "cell"] "part_of" (defScope sPartOf) f cdv A outer s H E).nox.w S (fun j => decide (j ∈ cs)) n)) L0 (.lst (ks.map V.int)) = H1 at s1 hks hL
    have n0L : L0 ≠ L := ne_of_none hks hL
    have kl : ks.length < 64 := by omega
    refine lc_it (walk_list (K := K) (xs := ks.map V.int)) (fun m H3 => ∃ acc, H3 L = some (.lst acc) ∧ Paired (IH H3) acc ((pairsAt row (ks.take m)).map tie2) ∧ ∀ b o, b ≠ L → H1 b = some o → H3 b = some o) ⟨[], upd_same, .nil, fun b o hb e => by rw [upd_ne hb]; exact e⟩ (fun m H3 _ h => ?_) (fun m z H3 H4 hm h y => ?_) (fun H3 h => ?_)
    · obtain ⟨_, _, _, kp⟩ := h
      exact sql (kp _ _ n0L hks)
    · obtain ⟨rfl, hz⟩ := y
      obtain ⟨acc, hA, pA, kp⟩ := h
      obtain ⟨c, hc0, rfl⟩ := at_ints hz
      have hcm := List.mem_of_getElem? hc0
      have hva4 : H4 va = some (.tup (row.map V.int)) := kp _ _ (ne_of_none (s1 _ _ hva) hL) (s1 _ _ hva)
      have al := pA.length
      unfold pairsAt at al
      rw [List.length_map, List.length_map, List.length_take] at al
      refine ⟨rfl, _, rfl, _, rfl, _, rfl, va, _, c, _, rfl, rfl, sqt hva4, pick_at (cs := ks) (fun c hm => hc c ((mem' c).mp hm)) hcm, (show 2 ≤ sizeLine by decide), fun T hT => ?_⟩
      have hA4 := upd_at (o := .tup [.int c, .int (row.getD c.toNat 0)]) hT hA
      refine ⟨acc, hA4, by rw [sizeLine_eq]; omega, acc ++ [.ref T], upd_same, ?_, fun b o hb e => by rw [upd_ne hb]; exact upd_at hT (kp b o hb e)⟩
      unfold pairsAt
      rw [List.take_add_one, hc0, List.map_append, List.map_append]
      exact paired_app (paired_mono (fun _ _ q => (q.kt (kt_same (same_new hT))).kt (ktL hA4)) pA) (paired_one ⟨T, rfl, ktL hA4 _ _ upd_same⟩)
    obtain ⟨acc, hA, pA, kp⟩ := h
    rw [List.length_map, List.take_length] at pA
    refine ⟨L, acc, rfl, .inl ⟨sql hA, fun T hT => ?_⟩⟩
    have s3 : Same H1 H3 := fun b o e => kp b o (fun z => by rw [z, hL] at e; cases e) e
    exact k _ ks _ (Same.tr s1 (Same.tr s3 (same_new hT))) lt mem' ⟨T, acc, rfl, upd_same, paired_mono (fun _ _ q => q.kt (kt_same (same_new hT))) pA⟩
theorem ok_common (B : Bl mg) (D : Df K mg "common_part" sCommon ["puzzle"] f fd) (D1 : Df K mg "first_answer" sFirst ["puzzle"] f1 fd1) (G1 : FnOk P w K mg base CX0 14 f1 fd1 ["puzzle"] (spFirst pT)) (D2 : Df K mg "free_cells" sFree ["puzzle", "answer"] f2 fd2) (G2 : FnOk P w K mg base CX0 14 f2 fd2 ["puzzle", "answer"] (spFree pT))
    (D3 : Df K mg "part_of" sPartOf ["values", "cells"] f3 fd3) (G3 : FnOk P w K mg base CX0 1 f3 fd3 ["values", "cells"] spPartOf) : FnOk P w K mg base CX0 16 f fd ["puzzle"] (spCommon pT) := by
  refine D.F.ok scCommon (fun vs H Q E h => ?_) (fun cdv A outer s H vs Q E hr h => ?_)
  · obtain ⟨u, p, rfl, _⟩ := h
    rfl
  · obtain ⟨u, p, rfl, hp, ok, hT, kn, k⟩ := h
    have hu := hr.units
    refine ⟨_, pss_cons (ps_set (i := 1) scCommon.nd rfl (.inl rfl) (pe_call G1 (hr.mono (by decide)) (by rfl) D1.g D1.F.kp D1.b .nil pass0 (pa_cons (pv 0) pa_nil)))
      (pss_cons (ps_if (pt_cmp (pc_isN (pv 1))) (pss_one (ps_ret pe_non)) pss_nil)
      (pss_cons (ps_set (i := 2) scCommon.nd rfl (.inr rfl) (pe_call G2 (hr.mono (by decide)) (by rfl) D2.g D2.F.kp D2.b .nil pass0 (pa_cons (pv 0) (pa_cons (pv 1) pa_nil))))
      (pss_one (ps_ret (pe_call G3 (hr.mono (by decide)) (by rfl) D3.g D3.F.kp D3.b .nil pass0 (pa_cons (pv 1) (pa_cons
        (pe_lc (own := [("c", 3)]) rfl scCommon.nd (pi_range1 (by rfl) B.range (pa_cons (pe_callB call_len_seq (by rfl) B.len PySem.boot_len (pa_cons (pv 1) pa_nil)) pa_nil)) (blkOk_by (N := ["puzzle", "least", "free", "c"]) (sc := defScope sCommon) (by decide +kernel))
          (fun _ _ _ _ _ => pg_name (i := 3) scCommon.nd rfl (.inl rfl)) (fun _ _ _ _ _ => pts_one (pt_cmpR (notInDD K hu) (pv 3) (pv 2) (by rfl))) (fun _ _ _ _ _ => pv 3)) pa_nil))))))), ?_⟩
    refine ⟨_, rfl, u, p, rfl, hp, ok, hT, fun w1 H1 k1 h1 => ?_⟩
    cases e : answersOf p with
    | nil =>
      rw [e] at h1
      have h1 : w1 = .non := h1
      subst h1
      exact ⟨_, rfl, _, rfl, ifT (by decide) (kn H1 k1 e)⟩
    | cons row rest =>
      rw [e] at h1
      have h1 : IH H1 w1 row := h1
      obtain ⟨ra, rfl, hra⟩ := h1
      have rl : row.length = p.doms.length := ans_len (by rw [e]; exact List.mem_cons_self ..)
      have n8 := ok.n8
      refine ⟨_, rfl, _, rfl, ifF (decide_eq_false fun z => by cases z) ?_⟩
      refine ⟨_, rfl, _, rfl, u, p, .ref ra, row, rfl, hp.kt (kt_kb k1), ok, ⟨ra, rfl, hra⟩, rl, k1.2 _ hT, fun w2 H2 k2 h2 => ?_⟩
      obtain ⟨fa, rfl, hfa⟩ := h2
      have hra2 := kt_kb k2 _ _ hra
      refine ⟨_, rfl, _, rfl, ra, _, rfl, .inr (sqt hra2), _, rfl, by rw [List.length_map]; omega, by rw [List.length_map]; omega, fun L hL => ?_⟩
      rw [List.length_map]
      refine lc_it (walk_range (lo := 0) (n := ((row.length : Nat) : Int).toNat)) (fun m H3 => H3 = upd H2 L (.lst ((nI ((List.range m).filter fun c => !isFree p row c)).map V.int))) rfl (fun m H3 _ h => trivial) (fun m x H3 H4 hm h y => ?_) (fun H3 h => ?_)
      · obtain ⟨rfl, rfl⟩ := y
        subst h
        have ml : m < row.length := by rw [Int.toNat_natCast] at hm; exact hm
        have fm : (0 + ((m : Nat) : Int)) ∈ nI (freeOf p row) ↔ isFree p row m = true := by
          unfold nI freeOf
          simp only [List.mem_map, List.mem_filter, List.mem_range]
          constructor
          · rintro ⟨j, ⟨_, hj⟩, ej⟩
            have : j = m := by omega
            rw [← this]; exact hj
          · exact fun hj => ⟨m, ⟨ml, hj⟩, by omega⟩
        refine ⟨rfl, _, rfl, _, rfl, .int _, (nI (freeOf p row)).map .int, .int _, .inl (IH.dp ⟨fa, rfl, upd_at hL hfa⟩), cmp_int _, canAll_ints _, _, rfl, ?_⟩
        rw [GX.any_ints]
        have al : (((nI ((List.range m).filter fun c => !isFree p row c))).map V.int).length ≤ m := by
          unfold nI
          rw [List.length_map, List.length_map]
          exact Nat.le_trans (List.length_filter_le _ _) (by rw [List.length_range]; exact Nat.le_refl _)
        by_cases h : isFree p row m = true
        · refine ifF (by rw [decide_eq_true (fm.mpr h)]; rfl) ?_
          rw [List.range_succ, List.filter_append]
          simp [h]
        · refine ifT (by rw [decide_eq_false (fun z => h (fm.mp z))]; rfl) ⟨_, rfl, _, upd_same, by rw [sizeLine_eq]; omega, ?_⟩
          rw [upd_upd, List.range_succ, List.filter_append]
          unfold nI
          simp [h]
      · rw [Int.toNat_natCast] at h
        subst h
        refine ⟨.ref ra, row, L, nI ((List.range row.length).filter fun c => !isFree p row c), rfl, ⟨ra, rfl, upd_at hL hra2⟩, upd_same, ?_, fun c hc => ?_, fun w9 ks H9 s9 lt mem hw => ?_⟩
        · unfold nI
          rw [List.length_map]
          have := List.length_filter_le (fun c => !isFree p row c) (List.range row.length)
          rw [List.length_range] at this
          omega
        · unfold nI at hc
          obtain ⟨j, hj, rfl⟩ := List.mem_map.mp hc
          have := List.mem_range.mp (List.mem_filter.mp hj).1
          omega
        · refine k w9 ks row rest H9 (k1.trans (k2.trans (kb_same (Same.tr (same_new hL) s9)))) e lt (fun c => ?_) hw (let ⟨a, _, ea, _⟩ := hw; ⟨a, ea⟩)
          rw [mem c]
          unfold nI
          simp only [List.mem_map, List.mem_filter, List.mem_range, Bool.not_eq_true']
          constructor
          · rintro ⟨j, ⟨h1, h2⟩, rfl⟩
            exact ⟨j, h1, h2, rfl⟩
          · rintro ⟨j, h1, h2, rfl⟩
            exact ⟨j, ⟨h1, h2⟩, rfl⟩
end
end G9

set_option Elab.async false
set_option linter.all false
set_option maxRecDepth 100000
set_option maxHeartbeats 4000000
/-! answers of puzzles that are changed -/
namespace G9
open PySem PySem.Spec PyProof.Rows L2 GX
theorem ans_add (p : Puz) (r : Rul) : answersOf (addRules p [r]) = (answersOf p).filter fun row => fitsB r (pick row (Rul.cells r)) := by
  unfold answersOf
  rw [List.filter_filter]
  refine List.filter_congr fun row _ => ?_
  unfold isAns allFit addRules
  rw [List.map_append, List.all_append]
  simp [Bool.and_comm]
theorem ans_drop (p : Puz) {j : Nat} {r : Rul} (h : p.rules[j]? = some r) : (answersOf (dropRule p j)).filter (fun row => fitsB r (pick row (Rul.cells r))) = answersOf p := by
  have hj := (List.getElem?_eq_some_iff.mp h).1
  have e : p.rules = p.rules.take j ++ r :: p.rules.drop (j + 1) := by
    conv => lhs; rw [← List.take_append_drop j p.rules]
    rw [List.drop_eq_getElem_cons hj, (List.getElem?_eq_some_iff.mp h).2]
  unfold answersOf
  rw [List.filter_filter]
  refine List.filter_congr fun row _ => ?_
  unfold isAns allFit dropRule
  conv => rhs; rw [e]
  simp only [List.map_append, List.map_cons, List.all_append, List.all_cons, id]
  cases (List.map (fun r => fitsB r (pick row (Rul.cells r))) (p.rules.take j)).all id <;> cases fitsB r (pick row (Rul.cells r)) <;> simp
/-- rows of domains that keep some of their values -/
theorem rows_filter (P : Nat → Int → Bool) (g : Nat → List Int → List Int) : ∀ (n : Nat) (ds : List (List Int)), ds.length = n → (∀ (c : Nat) (d : List Int), ds[c]? = some d → g c d = d.filter (P c)) →
    rowsOf (idxMap g 0 ds) = (rowsOf ds).filter fun row => (List.range n).all fun c => P c (row.getD c 0)
  | 0, [], _, _ => by simp [rowsOf, idxMap]
  | n + 1, ds, h, hg => by
    have ne : ds ≠ [] := fun z => by rw [z] at h; cases h
    have e := List.dropLast_concat_getLast ne
    have hl : ds.dropLast.length = n := by rw [List.length_dropLast, h]; rfl
    have last : ds[n]? = some (ds.getLast ne) := by
      rw [List.getLast_eq_getElem, ← List.getElem?_eq_getElem]
      congr 1
      omega
    have ih := rows_filter P g n ds.dropLast hl fun c d hc => hg c d (by
      rw [List.getElem?_dropLast] at hc
      split at hc
      · exact hc
      · cases hc)
    have gl := hg n _ last
    generalize ds.getLast ne = d at *
    generalize ds.dropLast = es at *
    subst e
    rw [idxMap_snoc, rowsOf_snoc, rowsOf_snoc, ih, hl, Nat.zero_add, gl]
    have step : ∀ (A : List (List Int)), (∀ q ∈ A, q.length = n) → grow (A.filter fun row => (List.range n).all fun c => P c (row.getD c 0)) (d.filter (P n)) = (grow A d).filter fun row => (List.range (n + 1)).all fun c => P c (row.getD c 0) := by
      intro A
      induction A with
      | nil => intro _; rfl
      | cons a A ihA =>
        intro hA
        have al := hA a (List.mem_cons_self ..)
        have ihA := ihA fun q hq => hA q (List.mem_cons_of_mem _ hq)
        have eg : ∀ (B : List (List Int)) (b dd : List Int), grow (b :: B) dd = dd.map (fun v => b ++ [v]) ++ grow B dd := fun _ _ _ => rfl
        have one : (d.map fun v => a ++ [v]).filter (fun row => (List.range (n + 1)).all fun c => P c (row.getD c 0)) = if ((List.range n).all fun c => P c (a.getD c 0)) = true then (d.filter (P n)).map (fun v => a ++ [v]) else [] := by
          have test : ∀ v, ((List.range (n + 1)).all fun c => P c ((a ++ [v]).getD c 0)) = (((List.range n).all fun c => P c (a.getD c 0)) && P n v) := fun v => by
            rw [List.range_succ, List.all_append]
            congr 1
            · rw [Bool.eq_iff_iff, List.all_eq_true, List.all_eq_true]
              refine forall_congr' fun c => forall_congr' fun hc => ?_
              have hc := List.mem_range.mp hc
              rw [List.getD_eq_getElem?_getD, List.getD_eq_getElem?_getD, List.getElem?_append_left (by omega)]
            · have gd : (a ++ [v]).getD n 0 = v := by
                rw [List.getD_eq_getElem?_getD, ← al, List.getElem?_concat_length]
                rfl
              rw [List.all_cons, List.all_nil, gd, Bool.and_true]
          rw [List.filter_map]
          by_cases fa : ((List.range n).all fun c => P c (a.getD c 0)) = true
          · rw [if_pos fa]
            congr 1
            refine List.filter_congr fun v _ => ?_
            show ((List.range (n + 1)).all fun c => P c ((a ++ [v]).getD c 0)) = _
            rw [test, fa, Bool.true_and]
          · rw [if_neg fa]
            have : d.filter ((fun row => (List.range (n + 1)).all fun c => P c (row.getD c 0)) ∘ fun v => a ++ [v]) = [] := List.filter_eq_nil_iff.mpr fun v _ => by
              show ¬ ((List.range (n + 1)).all fun c => P c ((a ++ [v]).getD c 0)) = true
              rw [test, Bool.and_eq_true]
              exact fun z => fa z.1
            rw [this]
            rfl
        by_cases fa : ((List.range n).all fun c => P c (a.getD c 0)) = true
        · rw [List.filter_cons, if_pos fa, eg, eg, List.filter_append, ihA, one, if_pos fa]
        · rw [List.filter_cons, if_neg fa, eg, List.filter_append, ihA, one, if_neg fa, List.nil_append]
    exact step _ (rowsOf_each n es hl)
/-- values that keep to a part -/
def keeps (f : List (Int × Int)) (c : Nat) (v : Int) : Bool := match valOf f (c : Int) with
  | some x => decide (v = x)
  | none => true
theorem valOf_some {f : List (Int × Int)} {c v : Int} (h : valOf f c = some v) : (c, v) ∈ f := by
  unfold valOf at h
  cases e : f.find? (fun p => decide (p.1 = c)) with
  | none => rw [e] at h; cases h
  | some q =>
    rw [e] at h
    cases h
    have h1 := List.find?_some e
    have h2 := List.mem_of_find?_eq_some e
    have : q.1 = c := by simpa using h1
    rw [← this]
    exact h2
theorem valOf_mem {f : List (Int × Int)} (nd : (f.map (·.1)).Nodup) {q : Int × Int} (h : q ∈ f) : valOf f q.1 = some q.2 := by
  cases e : valOf f q.1 with
  | none =>
    unfold valOf at e
    cases e2 : f.find? (fun p => decide (p.1 = q.1)) with
    | none =>
      have := List.find?_eq_none.mp e2 q h
      simp at this
    | some z => rw [e2] at e; cases e
  | some v =>
    have h1 := valOf_some e
    -- two pairs of one cell are one
    have one : ∀ {l : List (Int × Int)}, (l.map (·.1)).Nodup → ∀ {a b : Int × Int}, a ∈ l → b ∈ l → a.1 = b.1 → a = b := by
      intro l
      induction l with
      | nil => intro _ a b ha; cases ha
      | cons z l ih =>
        intro nd a b ha hb e
        obtain ⟨n1, n2⟩ := List.nodup_cons.mp nd
        rcases List.mem_cons.mp ha with ea | ea <;> rcases List.mem_cons.mp hb with eb | eb
        · rw [ea, eb]
        · exact absurd (List.mem_map.mpr ⟨b, eb, by rw [← e, ea]⟩) n1
        · exact absurd (List.mem_map.mpr ⟨a, ea, by rw [e, eb]⟩) n1
        · exact ih n2 ea eb e
    have := one nd h h1 rfl
    rw [this]
theorem filter_one {d : List Int} (nd : d.Nodup) {x : Int} (h : x ∈ d) : d.filter (fun v => decide (v = x)) = [x] := by
  induction d with
  | nil => cases h
  | cons a d ih =>
    obtain ⟨n1, n2⟩ := List.nodup_cons.mp nd
    by_cases e : a = x
    · subst e
      rw [List.filter_cons, if_pos (by simp)]
      have : d.filter (fun v => decide (v = a)) = [] := List.filter_eq_nil_iff.mpr fun v hv => by
        simp only [decide_eq_true_eq]
        exact fun z => n1 (z ▸ hv)
      rw [this]
    · rw [List.filter_cons, if_neg (by simpa using e)]
      exact ih n2 ((List.mem_cons.mp h).resolve_left fun z => e z.symm)
theorem ans_cut {p : Puz} {f : List (Int × Int)} (pk : PartOk p f) (nd : ∀ e ∈ p.doms, e.Nodup) : answersOf (cutP p f) = withOf p f := by
  have hr := rows_filter (keeps f) (cutD f) _ p.doms rfl fun c d hc => by
    unfold cutD keeps
    cases e : valOf f (c : Int) with
    | none => exact (List.filter_eq_self.mpr fun _ _ => rfl).symm
    | some v =>
      have hv := pk.val _ (valOf_some e)
      have gd : p.doms.getD ((c : Int)).toNat [] = d := by rw [Int.toNat_natCast, List.getD_eq_getElem?_getD, hc]; rfl
      rw [gd] at hv
      exact (filter_one (nd d (List.mem_of_getElem? hc)) hv).symm
  unfold withOf answersOf
  show (rowsOf (idxMap (cutD f) 0 p.doms)).filter _ = _
  rw [hr, List.filter_filter, List.filter_filter]
  refine List.filter_congr fun row hrow => ?_
  have rl := rowsOf_each _ p.doms rfl row hrow
  show (isAns (cutP p f) row && _) = (holds f row && isAns p row)
  have e1 : isAns (cutP p f) row = isAns p row := rfl
  have e2 : ((List.range p.doms.length).all fun c => keeps f c (row.getD c 0)) = holds f row := by
    rw [Bool.eq_iff_iff]
    unfold holds
    rw [List.all_eq_true, List.all_eq_true]
    constructor
    · intro h q hq
      have cr := pk.cell q hq
      have := h q.1.toNat (List.mem_range.mpr (by omega))
      unfold keeps at this
      rw [Int.toNat_of_nonneg cr.1, valOf_mem pk.nd hq] at this
      exact this
    · intro h c hc
      unfold keeps
      cases e : valOf f (c : Int) with
      | none => rfl
      | some v =>
        have := h _ (valOf_some e)
        exact this
  rw [e1, e2, Bool.and_comm]
theorem ans_nar {p : Puz} (kept : List (List Int)) : answersOf (narP p kept) = (answersOf p).filter fun row => (List.range p.doms.length).all fun c => decide (row.getD c 0 ∈ kept.getD c []) := by
  have hr := rows_filter (fun c v => decide (v ∈ kept.getD c [])) (nar1 kept) _ p.doms rfl fun c d hc => rfl
  unfold answersOf
  show (rowsOf (idxMap (nar1 kept) 0 p.doms)).filter _ = _
  rw [hr, List.filter_filter, List.filter_filter]
  refine List.filter_congr fun row hrow => ?_
  have e1 : isAns (narP p kept) row = isAns p row := rfl
  rw [e1, Bool.and_comm]
end G9

set_option Elab.async false
set_option linter.all false
set_option maxRecDepth 100000
set_option maxHeartbeats 4000000
/-! answers of puzzles beside one another -/
namespace G9
open PySem PySem.Spec PyProof.Rows L2 GX
def cross (X Y : List (List Int)) : List (List Int) := X.flatMap fun a => Y.map fun b => a ++ b
theorem cross_cons (a : List Int) (X Y : List (List Int)) : cross (a :: X) Y = Y.map (fun b => a ++ b) ++ cross X Y := rfl
theorem grow_app (A B : List (List Int)) (d : List Int) : grow (A ++ B) d = grow A d ++ grow B d := by
  unfold grow
  rw [List.flatMap_append]
theorem grow_map (a d : List Int) : ∀ Y : List (List Int), grow (Y.map fun b => a ++ b) d = (grow Y d).map fun b => a ++ b
  | [] => rfl
  | b :: Y => by
    have e : ∀ (B : List (List Int)) (b : List Int), grow (b :: B) d = d.map (fun v => b ++ [v]) ++ grow B d := fun _ _ => rfl
    rw [List.map_cons, e, e, grow_map a d Y, List.map_append, List.map_map]
    congr 1
    refine List.map_congr_left fun v _ => ?_
    simp
theorem grow_cross (d : List Int) (Y : List (List Int)) : ∀ X : List (List Int), grow (cross X Y) d = cross X (grow Y d)
  | [] => rfl
  | a :: X => by rw [cross_cons, cross_cons, grow_app, grow_map, grow_cross d Y X]
theorem cross_one (X : List (List Int)) : cross X [[]] = X := by
  induction X with
  | nil => rfl
  | cons a X ih => rw [cross_cons, ih]; simp
theorem rows_app (A : List (List Int)) : ∀ (n : Nat) (B : List (List Int)), B.length = n → rowsOf (A ++ B) = cross (rowsOf A) (rowsOf B)
  | 0, [], _ => by
    rw [List.append_nil]
    exact (cross_one _).symm
  | n + 1, B, h => by
    have ne : B ≠ [] := fun z => by rw [z] at h; cases h
    have e := List.dropLast_concat_getLast ne
    have hl : B.dropLast.length = n := by rw [List.length_dropLast, h]; rfl
    rw [← e, ← List.append_assoc, rowsOf_snoc, rowsOf_snoc, rows_app A n _ hl, grow_cross]
theorem cross_filter (f g h : List Int → Bool) (Y : List (List Int)) : ∀ (X : List (List Int)), (∀ a ∈ X, ∀ b ∈ Y, h (a ++ b) = (f a && g b)) → (cross X Y).filter h = cross (X.filter f) (Y.filter g)
  | [], _ => rfl
  | a :: X, H => by
    have ih := cross_filter f g h Y X fun a' ha => H a' (List.mem_cons_of_mem _ ha)
    have Ha := H a (List.mem_cons_self ..)
    rw [cross_cons, List.filter_append, ih, List.filter_map, List.filter_cons]
    by_cases fa : f a = true
    · rw [if_pos fa, cross_cons]
      congr 2
      refine List.filter_congr fun b hb => ?_
      show h (a ++ b) = _
      rw [Ha b hb, fa, Bool.true_and]
    · rw [if_neg fa]
      have : Y.filter (h ∘ fun b => a ++ b) = [] := List.filter_eq_nil_iff.mpr fun b hb => by
        show ¬ h (a ++ b) = true
        rw [Ha b hb, Bool.and_eq_true]
        exact fun z => fa z.1
      rw [this]
      rfl
theorem cross_len (X Y : List (List Int)) : (cross X Y).length = X.length * Y.length := by
  induction X with
  | nil => simp [cross]
  | cons a X ih => rw [cross_cons, List.length_append, ih, List.length_map, List.length_cons, Nat.succ_mul, Nat.add_comm]
/-! rules that are moved -/
theorem marked_move (n : Int) : ∀ (cs vals vs : List Int), markedOf (cs.map (· + n)) vals vs = (markedOf cs vals vs).map (· + n)
  | [], vals, vs => by simp [markedOf]
  | c :: cs, [], vs => by simp [markedOf]
  | c :: cs, v :: vals, vs => by
    have ih := marked_move n cs vals vs
    unfold markedOf at ih ⊢
    rw [List.map_cons, List.zip_cons_cons, List.zip_cons_cons, List.filter_cons, List.filter_cons]
    by_cases h : v ∈ vs
    · rw [if_pos (by simpa using h), if_pos (by simpa using h), List.map_cons, List.map_cons, List.map_cons, ih]
    · rw [if_neg (by simpa using h), if_neg (by simpa using h), ih]
theorem conn_move {M : List Int} {T : List (Int × Int)} {s : Int} (n : Int) {x : Int} (h : Conn M T s x) : Conn (M.map (· + n)) (T.map fun p => (p.1 + n, p.2 + n)) (s + n) (x + n) := by
  induction h with
  | start hs => exact .start (List.mem_map.mpr ⟨s, hs, rfl⟩)
  | step _ hy ha ih =>
    refine .step ih (List.mem_map.mpr ⟨_, hy, rfl⟩) ?_
    rcases ha with z | z
    · exact .inl (List.mem_map.mpr ⟨_, z, rfl⟩)
    · exact .inr (List.mem_map.mpr ⟨_, z, rfl⟩)
theorem back_map (n : Int) : ∀ M : List Int, (M.map (· + n)).map (· + (-n)) = M
  | [] => rfl
  | a :: M => by
    rw [List.map_cons, List.map_cons, back_map n M]
    congr 1
    omega
theorem back_map2 (n : Int) : ∀ T : List (Int × Int), (T.map fun p => (p.1 + n, p.2 + n)).map (fun p => (p.1 + (-n), p.2 + (-n))) = T
  | [] => rfl
  | a :: T => by
    rw [List.map_cons, List.map_cons, back_map2 n T]
    congr 1
    refine Prod.ext ?_ ?_
    · show a.1 + n + -n = a.1
      omega
    · show a.2 + n + -n = a.2
      omega
theorem joined_move1 (n : Int) {M : List Int} {T : List (Int × Int)} (h : Joined M T) : Joined (M.map (· + n)) (T.map fun p => (p.1 + n, p.2 + n)) := by
  intro s r e m hm
  cases M with
  | nil => cases e
  | cons a M =>
    rw [List.map_cons] at e
    cases e
    obtain ⟨x, hx, rfl⟩ := List.mem_map.mp hm
    exact conn_move n (h a M rfl x hx)
theorem joined_move (n : Int) (M : List Int) (T : List (Int × Int)) : joinedB (M.map (· + n)) (T.map fun p => (p.1 + n, p.2 + n)) = joinedB M T := by
  by_cases h : Joined M T
  · rw [joinedB_yes h, joinedB_yes (joined_move1 n h)]
  · rw [joinedB_no h]
    refine joinedB_no fun z => h ?_
    have := joined_move1 (-n) z
    rw [back_map, back_map2] at this
    exact this
theorem fits_move (n : Int) (r : Rul) (vals : List Int) : fitsB (moveR n r) vals = fitsB r vals := by
  cases r with
  | joined cs ties vs =>
    simp only [fitsB, moveR]
    rw [marked_move, joined_move]
  | _ => rfl
theorem pick_behind {a b cs : List Int} (h : ∀ c ∈ cs, 0 ≤ c) : pick (a ++ b) (cs.map (· + (a.length : Int))) = pick b cs := by
  unfold pick
  rw [List.map_map]
  refine List.map_congr_left fun c hc => ?_
  have h0 := h c hc
  show (a ++ b).getD (c + (a.length : Int)).toNat 0 = b.getD c.toNat 0
  have e : (c + (a.length : Int)).toNat = a.length + c.toNat := by omega
  rw [e, List.getD_eq_getElem?_getD, List.getD_eq_getElem?_getD, List.getElem?_append_right (by omega), Nat.add_sub_cancel_left]
theorem pick_ahead2 {a b cs : List Int} (h : ∀ c ∈ cs, 0 ≤ c ∧ c < (a.length : Int)) : pick (a ++ b) cs = pick a cs := by
  unfold pick
  refine List.map_congr_left fun c hc => ?_
  obtain ⟨h0, h1⟩ := h c hc
  rw [List.getD_eq_getElem?_getD, List.getD_eq_getElem?_getD, List.getElem?_append_left (by omega)]
theorem ans_beside {p q : Puz} (okp : PzOk p) (okq : PzOk q) : answersOf (besideP p q) = cross (answersOf p) (answersOf q) := by
  unfold answersOf
  show (rowsOf (p.doms ++ q.doms)).filter _ = _
  rw [rows_app _ _ _ rfl]
  refine cross_filter _ _ _ _ _ fun a ha b hb => ?_
  have al := rowsOf_each _ p.doms rfl a ha
  unfold isAns allFit besideP
  rw [List.map_append, List.all_append, List.map_map]
  congr 1
  · congr 1
    refine List.map_congr_left fun r hr => ?_
    rw [pick_ahead2 fun c hc => by rw [al]; exact okp.cell r hr c hc]
  · congr 1
    refine List.map_congr_left fun r hr => ?_
    show fitsB (moveR (p.doms.length : Int) r) (pick (a ++ b) (Rul.cells (moveR (p.doms.length : Int) r))) = _
    rw [fits_move, cells_move, ← al, pick_behind fun c hc => (okq.cell r hr c hc).1]
theorem ok_besideP {p q : Puz} (okp : PzOk p) (okq : PzOk q) (h : p.doms.length + q.doms.length ≤ 8) (hr : p.rules.length + q.rules.length ≤ 100) : PzOk (besideP p q) where
  n8 := by show (p.doms ++ q.doms).length ≤ 8; rw [List.length_append]; exact h
  d4 := fun d hd => (List.mem_append.mp hd).elim (okp.d4 d) (okq.d4 d)
  r100 := by show (p.rules ++ q.rules.map _).length ≤ 100; rw [List.length_append, List.length_map]; exact hr
  small := fun r hr => by
    rcases List.mem_append.mp hr with z | z
    · exact okp.small r z
    · obtain ⟨r0, h0, rfl⟩ := List.mem_map.mp z
      obtain ⟨s1, s2, s3⟩ := okq.small r0 h0
      refine ⟨?_, ?_, ?_⟩
      · rw [cells_move]
        exact List.Pairwise.map _ (fun a b h z => h (by have z : a + (p.doms.length : Int) = b + (p.doms.length : Int) := z; omega)) s1
      · rw [cells_move, List.length_map]
        exact s2
      · cases r0 with
        | joined cs ties vs =>
          show (ties.map _).length ≤ 100
          rw [List.length_map]
          exact s3
        | _ => trivial
  tab := fun r hr => by
    rcases List.mem_append.mp hr with z | z
    · exact okp.tab r z
    · obtain ⟨r0, h0, rfl⟩ := List.mem_map.mp z
      have := okq.tab r0 h0
      cases r0 <;> exact this
  some := fun r hr => by
    rcases List.mem_append.mp hr with z | z
    · exact okp.some r z
    · obtain ⟨r0, h0, rfl⟩ := List.mem_map.mp z
      rw [cells_move]
      exact fun e => okq.some r0 h0 (List.map_eq_nil_iff.mp e)
  cell := fun r hr c hc => by
    have tot : ((besideP p q).doms.length : Int) = (p.doms.length : Int) + (q.doms.length : Int) := by
      show ((p.doms ++ q.doms).length : Int) = _
      rw [List.length_append]
      omega
    rw [tot]
    rcases List.mem_append.mp hr with z | z
    · have := okp.cell r z c hc
      omega
    · obtain ⟨r0, h0, rfl⟩ := List.mem_map.mp z
      rw [cells_move] at hc
      obtain ⟨c0, hc0, rfl⟩ := List.mem_map.mp hc
      have := okq.cell r0 h0 c0 hc0
      omega
end G9

set_option Elab.async false
set_option linter.all false
set_option maxRecDepth 100000
set_option maxHeartbeats 4000000
/-! what is free, what is in all answers, what is forced -/
namespace G9
open PySem PySem.Spec PyProof.Rows L2 GX
theorem forced_iff (p : Puz) (f : List (Int × Int)) : decide ((withOf p f).length = (answersOf p).length) = decide (withOf p f = answersOf p) := by
  by_cases h : withOf p f = answersOf p
  · rw [decide_eq_true h, h]
    exact decide_eq_true rfl
  · rw [decide_eq_false h]
    refine decide_eq_false fun z => h ?_
    unfold withOf at z ⊢
    exact List.filter_eq_self.mpr (List.length_filter_eq_length_iff.mp z)
theorem with_common {p : Puz} {row : List Int} {rest : List (List Int)} {ks : List Int} (h : answersOf p = row :: rest) (mem : ∀ c, c ∈ ks ↔ ∃ j : Nat, j < row.length ∧ isFree p row j = false ∧ c = (j : Int)) : withOf p (pairsAt row ks) = answersOf p := by
  unfold withOf
  refine List.filter_eq_self.mpr fun o ho => ?_
  unfold holds pairsAt
  rw [List.all_map, List.all_eq_true]
  intro c hc
  obtain ⟨j, hj, hf, rfl⟩ := (mem c).mp hc
  show decide (o.getD ((j : Int)).toNat 0 = row.getD ((j : Int)).toNat 0) = true
  rw [Int.toNat_natCast]
  refine decide_eq_true ?_
  unfold isFree at hf
  rw [List.any_eq_false] at hf
  have := hf o ho
  simpa using this
theorem free_same {p : Puz} {a b : List Int} (ha : a ∈ answersOf p) (hb : b ∈ answersOf p) (c : Nat) : isFree p a c = isFree p b c := by
  have one : ∀ {a b : List Int}, a ∈ answersOf p → b ∈ answersOf p → isFree p a c = true → isFree p b c = true := fun {a b} ha hb h => by
    unfold isFree at h ⊢
    rw [List.any_eq_true] at h ⊢
    obtain ⟨o, ho, hd⟩ := h
    have hd : o.getD c 0 ≠ a.getD c 0 := by simpa using hd
    by_cases e : o.getD c 0 = b.getD c 0
    · exact ⟨a, ha, decide_eq_true fun z => hd (by rw [e, z])⟩
    · exact ⟨o, ho, decide_eq_true e⟩
  rw [Bool.eq_iff_iff]
  exact ⟨one ha hb, one hb ha⟩
theorem sorted_one : ∀ {l m : List Int}, l.Perm m → l.Pairwise (· ≤ ·) → m.Pairwise (· ≤ ·) → l = m
  | [], m, h, _, _ => (List.Perm.nil_eq h)
  | a :: l, m, h, hl, hm => by
    cases m with
    | nil => exact absurd h.symm.nil_eq (by simp)
    | cons b m =>
      obtain ⟨l1, l2⟩ := List.pairwise_cons.mp hl
      obtain ⟨m1, m2⟩ := List.pairwise_cons.mp hm
      have e : a = b := by
        have ha : a ∈ b :: m := h.mem_iff.mp (List.mem_cons_self ..)
        have hb : b ∈ a :: l := h.mem_iff.mpr (List.mem_cons_self ..)
        rcases List.mem_cons.mp ha with z | z
        · exact z
        · rcases List.mem_cons.mp hb with y | y
          · exact y.symm
          · have := m1 a z
            have := l1 b y
            omega
      subst e
      rw [sorted_one (List.perm_cons a |>.mp h) l2 m2]
theorem range_le (n : Nat) : (nI (List.range n)).Pairwise (· ≤ ·) := by
  unfold nI
  exact List.Pairwise.map _ (fun a b h => by omega) (List.pairwise_lt_range (n := n))
theorem free_rest {p : Puz} {row r0 : List Int} {rest : List (List Int)} {ks : List Int} (h : answersOf p = r0 :: rest) (hr : row ∈ answersOf p) (lt : ks.Pairwise (· < ·)) (mem : ∀ c, c ∈ ks ↔ ∃ j : Nat, j < r0.length ∧ isFree p r0 j = false ∧ c = (j : Int)) {ns : List Int} (pm : ns.Perm (nI (freeOf p row) ++ ks)) (le : ns.Pairwise (· ≤ ·)) : ns = nI (List.range row.length) := by
  refine sorted_one (pm.trans ?_) le (range_le _)
  have h0 : r0 ∈ answersOf p := by rw [h]; exact List.mem_cons_self ..
  have el : r0.length = row.length := (ans_len h0).trans (ans_len hr).symm
  have inj : ∀ l : List Nat, l.Nodup → (nI l).Nodup := fun l hl => by
    unfold nI
    exact List.Pairwise.map _ (fun a b h z => h (by omega)) hl
  have n1 : (nI (freeOf p row)).Nodup := inj _ (List.Pairwise.filter _ List.nodup_range)
  have n2 : ks.Nodup := lt.imp fun h z => by omega
  have m1 : ∀ c, c ∈ nI (freeOf p row) ↔ ∃ j : Nat, j < row.length ∧ isFree p row j = true ∧ c = (j : Int) := fun c => by
    unfold nI freeOf
    simp only [List.mem_map, List.mem_filter, List.mem_range]
    constructor
    · rintro ⟨j, ⟨a, b⟩, rfl⟩
      exact ⟨j, a, b, rfl⟩
    · rintro ⟨j, a, b, rfl⟩
      exact ⟨j, ⟨a, b⟩, rfl⟩
  have nd : (nI (freeOf p row) ++ ks).Nodup := by
    rw [List.nodup_append]
    refine ⟨n1, n2, fun a ha b hb e => ?_⟩
    obtain ⟨j, _, f1, rfl⟩ := (m1 a).mp ha
    obtain ⟨j2, _, f2, rfl⟩ := (mem b).mp hb
    have : j = j2 := by omega
    subst this
    rw [free_same hr h0, f2] at f1
    cases f1
  refine (List.perm_ext_iff_of_nodup nd (inj _ List.nodup_range)).mpr fun c => ?_
  rw [List.mem_append, m1, mem]
  unfold nI
  simp only [List.mem_map, List.mem_range]
  constructor
  · rintro (⟨j, a, _, rfl⟩ | ⟨j, a, _, rfl⟩)
    · exact ⟨j, a, rfl⟩
    · exact ⟨j, by omega, rfl⟩
  · rintro ⟨j, a, rfl⟩
    cases e : isFree p row j with
    | true => exact .inl ⟨j, a, e, rfl⟩
    | false => exact .inr ⟨j, by omega, by rw [free_same h0 hr]; exact e, rfl⟩
end G9

set_option Elab.async false
set_option linter.all false
set_option maxRecDepth 100000
set_option maxHeartbeats 8000000
/-! what the law's body rests on -/
namespace G9
open PySem PySem.Spec PyProof.Rows L2 GX
/-- the source and the table of codes -/
structure LI (d cs pT : Addr) (H : Hp) : Prop where
  src : SrcAt H d cs
  tab : GxR.TabG H pT
/-- tuples stay, and lists but the source's -/
structure LX (cs : Addr) (H H' : Hp) : Prop where
  kt : Kt H H'
  ls : ∀ b xs, b ≠ cs → H b = some (.lst xs) → H' b = some (.lst xs)
theorem LX.refl (cs : Addr) (H : Hp) : LX cs H H := ⟨.refl H, fun _ _ _ e => e⟩
theorem LX.trans {cs : Addr} {A B C : Hp} (h : LX cs A B) (g : LX cs B C) : LX cs A C := ⟨h.kt.trans g.kt, fun b xs n e => g.ls b xs n (h.ls b xs n e)⟩
theorem lx_same {cs : Addr} {H H' : Hp} (s : Same H H') : LX cs H H' := ⟨kt_same s, fun b xs _ e => s b _ e⟩
theorem lx_kb {cs : Addr} {H H' : Hp} (s : Kb H H') : LX cs H H' := ⟨kt_kb s, fun b xs _ e => s.1 b _ (fun ps z => by cases z) e⟩
section
variable {d cs pT : Addr} {H H' : Hp}
theorem LI.same (L : LI d cs pT H) (s : Same H H') : LI d cs pT H' := ⟨L.src.same s, (kb_same s).2 _ L.tab⟩
theorem LI.kb (L : LI d cs pT H) (s : Kb H H') : LI d cs pT H' := ⟨L.src.kb s, s.2 _ L.tab⟩
theorem LI.rn (L : LI d cs pT H) (hs : SrcAt H' d cs) (rn : Rn d cs H H') : LI d cs pT H' := by
  obtain ⟨ps, e, t⟩ := L.tab
  obtain ⟨zs, l, m, u, hd, hcs, _⟩ := L.src
  exact ⟨hs, ps, rn _ _ (ne_of e hd fun z => by cases z) (ne_of e hcs fun z => by cases z) e, t⟩
theorem LI.lx (L : LI d cs pT H) (rn : Rn d cs H H') : LX cs H H' := by
  refine ⟨rn.kt L.src, fun b xs n e => ?_⟩
  obtain ⟨zs, l, m, u, hd, hcs, _⟩ := L.src
  exact rn b _ (ne_of e hd fun z => by cases z) n e
end
/-- a list of rows, not the source's -/
structure LA (cs : Addr) (H : Hp) (l : Addr) (rows : List (List Int)) : Prop where
  ne : l ≠ cs
  rows : LRows H (.ref l) rows
theorem LA.lx {cs : Addr} {H H' : Hp} {l : Addr} {rows : List (List Int)} (h : LA cs H l rows) (k : LX cs H H') : LA cs H' l rows := by
  obtain ⟨a, vs, e, q, p⟩ := h.rows
  cases e
  exact ⟨h.ne, l, vs, rfl, k.ls _ _ h.ne q, paired_mono (fun _ _ => IH.kt k.kt) p⟩
theorem LA.at {cs : Addr} {H : Hp} {l : Addr} {rows : List (List Int)} (h : LA cs H l rows) : ∃ vs, H l = some (.lst vs) ∧ Paired (IH H) vs rows := by
  obtain ⟨a, vs, e, q, p⟩ := h.rows
  cases e
  exact ⟨vs, q, p⟩
/-- a comprehension's list at D, as it comes -/
abbrev LcB (J : It) (g : TG) (tt : TT) (te : TE) (vs : List Nat) (σ : L2.St) (H1 : Hp) (D : Addr) (Qd : Hp → Prop) : Prop := ∃ W : Nat → Nat → Hp → Prop, (∃ m, W 0 m (upd H1 D (.lst []))) ∧ (∀ i m H, W i m H → (J.stop i H ∧ Qd H) ∨ (J.go i H ∧ (∃ Nx : Hp → Prop, (∀ H', Nx H' → ∃ m', m' < m ∧ W (i + 1) m' H') ∧ (∀ x H', J.yld i H x H' → g x (wipe σ vs) H' (fun σ2 H2 => wipe σ2 vs = wipe σ vs ∧ tt σ2 H2 (fun b H3 => if b = true then te σ2 H3 (fun y H4 => ∃ acc, H4 D = some (.lst acc) ∧ acc.length < sizeLine ∧ Nx (upd H4 D (.lst (acc ++ [y])))) else Nx H3))))))
/-- [x for x in xs if ..] over rows -/
theorem lc_filt {J : It} {n i : Nat} {G : Hp → Prop} {σ : L2.St} {own : List Nat} {tt : TT} {H1 : Hp} {L : Addr} {Qd : Hp → Prop} {vs : List V} {rows : List (List Int)} {Pred : List Int → Bool} (w : Walk J n G (YAt vs)) (hL : H1 L = none) (hn : n = vs.length) (hG : ∀ H', Same H1 H' → G H') (pv : Paired (IH H1) vs rows) (small : rows.length ≤ 65536)
    (k : ∀ (H3 : Hp) (acc : List V), Same H1 H3 → H3 L = some (.lst acc) → Paired (IH H3) acc (rows.filter Pred) → Qd H3)
    (hw : ∀ x : V, wipe ((wipe σ own).set i (some x)) own = wipe σ own) (hv : ∀ x : V, ((wipe σ own).set i (some x))[i]? = some (some x))
    (ht : ∀ (m : Nat) (x : V) (row : List Int) (H3 : Hp) (C : Bool → Hp → Prop), rows[m]? = some row → Same H1 H3 → IH H3 x row → (∀ H4, Same H3 H4 → C (Pred row) H4) → tt ((wipe σ own).set i (some x)) H3 C) :
    LcB J (gName i) tt (tVar i) own σ H1 L Qd := by
  have vl := pv.length
  have smN : ∀ {B : Hp}, (∀ b o, b ≠ L → H1 b = some o → B b = some o) → Same H1 B := fun hA b o e => hA b o (fun z => by rw [z, hL] at e; cases e) e
  refine lc_it w (fun m H3 => ∃ acc, H3 L = some (.lst acc) ∧ Paired (IH H3) acc ((rows.take m).filter Pred) ∧ ∀ b o, b ≠ L → H1 b = some o → H3 b = some o) ⟨[], upd_same, .nil, fun b o hb e => by rw [upd_ne hb]; exact e⟩ (fun m H3 _ h => ?_) (fun m x H3 H4 hm h y => ?_) (fun H3 h => ?_)
  · obtain ⟨_, _, _, kp⟩ := h
    exact hG _ (smN kp)
  · obtain ⟨rfl, hx⟩ := y
    obtain ⟨acc, hA, pA, kp⟩ := h
    have s4 := smN kp
    obtain ⟨row, hr, ir⟩ := paired_at pv hx
    have ir4 := ir.kt (kt_same s4)
    have al : acc.length ≤ rows.length := by
      rw [pA.length]
      exact Nat.le_trans (List.length_filter_le _ _) (by rw [List.length_take]; exact Nat.min_le_right _ _)
    have tk : rows.take (m + 1) = rows.take m ++ [row] := by rw [List.take_add_one, hr]; rfl
    refine ⟨hw x, ht m x row H4 _ hr s4 ir4 fun H5 s5 => ?_⟩
    have hA5 := s5 _ _ hA
    have pA5 := paired_mono (fun _ _ q => IH.kt (kt_same s5) q) pA
    by_cases h : Pred row = true
    · rw [if_pos h]
      refine ⟨x, hv x, acc, hA5, by rw [sizeLine_eq]; omega, acc ++ [x], upd_same, ?_, fun b o hb e => ?_⟩
      · rw [tk, List.filter_append]
        have : [row].filter Pred = [row] := by simp [h]
        rw [this]
        exact paired_app (paired_mono (fun _ _ q => q.kt (ktL hA5)) pA5) (paired_one ((ir4.kt (kt_same s5)).kt (ktL hA5)))
      · rw [upd_ne hb]
        exact s5 _ _ (kp b o hb e)
    · have h' : Pred row = false := by simpa using h
      rw [if_neg h]
      refine ⟨acc, hA5, ?_, fun b o hb e => s5 _ _ (kp b o hb e)⟩
      rw [tk, List.filter_append]
      have : [row].filter Pred = [] := by simp [h']
      rw [this, List.append_nil]
      exact pA5
  · obtain ⟨acc, hA, pA, kp⟩ := h
    rw [hn, vl, List.take_length] at pA
    exact k H3 acc (smN kp) hA pA
theorem ok_add {p : Puz} {r : Rul} (ok : PzOk p) (okr : RuleOk p.doms.length r) (h : p.rules.length ≤ 50) : PzOk (addRules p [r]) where
  n8 := ok.n8
  d4 := ok.d4
  r100 := by
    show (p.rules ++ [r]).length ≤ 100
    rw [List.length_append]
    show p.rules.length + 1 ≤ 100
    omega
  small := fun x hx => (List.mem_append.mp hx).elim (ok.small x) fun z => by rw [List.mem_singleton.mp z]; exact okr.small
  tab := fun x hx => (List.mem_append.mp hx).elim (ok.tab x) fun z => by rw [List.mem_singleton.mp z]; exact okr.tab
  some := fun x hx => (List.mem_append.mp hx).elim (ok.some x) fun z => by rw [List.mem_singleton.mp z]; exact okr.some
  cell := fun x hx => (List.mem_append.mp hx).elim (ok.cell x) fun z => by rw [List.mem_singleton.mp z]; exact okr.cell
theorem ok_drop {p : Puz} (ok : PzOk p) (j : Nat) : PzOk (dropRule p j) := by
  have sub : ∀ x ∈ (dropRule p j).rules, x ∈ p.rules := fun x hx => (List.mem_append.mp hx).elim (fun z => List.take_subset _ _ z) fun z => List.drop_subset _ _ z
  refine ⟨ok.n8, ok.d4, ?_, fun x hx => ok.small x (sub x hx), fun x hx => ok.tab x (sub x hx), fun x hx => ok.some x (sub x hx), fun x hx => ok.cell x (sub x hx)⟩
  have := ok.r100
  show (p.rules.take j ++ p.rules.drop (j + 1)).length ≤ 100
  rw [List.length_append, List.length_take, List.length_drop]
  omega
theorem dupV {R F : V → Hp → Prop} {G : Prop} (h : (∀ v H, F v H → R v H) → G) (r : ∀ v H, F v H → R v H) : G := h r
theorem all_at (row : List Int) (lots : List (List Int)) (n : Nat) : (((List.range n).map fun c => decide (row.getD c 0 ∈ lots.getD c [])).all id) = (List.range n).all fun c => decide (row.getD c 0 ∈ lots.getD c []) := by
  rw [List.all_map]
  rfl
theorem dupH {R F : Hp → Prop} {G : Prop} (h : (∀ H, F H → R H) → G) (r : ∀ H, F H → R H) : G := h r
theorem inc_len : ∀ (ks : List Int) (a n : Int), ks.Pairwise (· < ·) → (∀ c ∈ ks, a ≤ c ∧ c < n) → a ≤ n → (ks.length : Int) ≤ n - a
  | [], a, n, _, _, h => by
    show ((0 : Nat) : Int) ≤ n - a
    omega
  | c :: t, a, n, pw, rg, _ => by
    obtain ⟨h1, h2⟩ := List.pairwise_cons.mp pw
    obtain ⟨c1, c2⟩ := rg c (List.mem_cons_self ..)
    have := inc_len t (c + 1) n h2 (fun x hx => ⟨by have := h1 x hx; omega, (rg x (List.mem_cons_of_mem _ hx)).2⟩) (by omega)
    rw [List.length_cons]
    omega
/-- two rows put together -/
theorem cat_two {K : PySem.W.Frag} {H : Hp} {x y : V} {r s : List Int} (hx : IH H x r) (hy : IH H y s) (hl : r.length + s.length ≤ 1000) {Q : VK} (k : ∀ w H', Same H H' → IH H' w (r ++ s) → Q w H') : rCatA K x y H Q := by
  obtain ⟨a, rfl, ha⟩ := hx
  obtain ⟨b, rfl, hb⟩ := hy
  refine ⟨a, b, _, _, rfl, rfl, sqt ha, sqt hb, by rw [List.length_map, List.length_map, sizeLine_eq]; omega, fun e => ?_, fun e1 e2 => ?_, fun e1 _ p hp => ?_⟩
  · have : r = [] := List.map_eq_nil_iff.mp e
    subst this
    exact k _ _ (same_refl H) ⟨b, rfl, hb⟩
  · have : s = [] := List.map_eq_nil_iff.mp e2
    subst this
    rw [List.append_nil] at k
    exact k _ _ (same_refl H) ⟨a, rfl, ha⟩
  · exact k _ _ (same_new hp) ⟨p, rfl, by rw [upd_same, List.map_append]⟩
end G9

set_option Elab.async false
set_option linter.all false
set_option maxRecDepth 100000
set_option maxHeartbeats 4000000
/-! small data: what repr asks of it -/
namespace G9
open PySem PySem.Spec PyProof.Rows L2 GX
structure Sm (d : PyData) (k w : Nat) : Prop where
  sh : d.showable = true
  hd : d.hasDict = false
  dp : d.depth ≤ k
  ls : d.leavesShort 11 = true
  wt : d.weight ≤ w
structure SmA (ds : List PyData) (k w : Nat) : Prop where
  sh : PyData.showableAll ds = true
  hd : PyData.hasDictAll ds = false
  dp : PyData.depthAll ds ≤ k
  ls : PyData.leavesShortAll 11 ds = true
  wt : PyData.weightAll ds ≤ w
theorem SmA.nil {k w : Nat} : SmA [] k w := ⟨rfl, rfl, Nat.zero_le _, rfl, Nat.zero_le _⟩
theorem SmA.cons {d : PyData} {ds : List PyData} {k w v : Nat} (h : Sm d k w) (g : SmA ds k v) : SmA (d :: ds) k (w + v + 2) := by
  refine ⟨?_, ?_, ?_, ?_, ?_⟩
  · simp only [PyData.showableAll, h.sh, g.sh, Bool.and_self]
  · simp only [PyData.hasDictAll, h.hd, g.hd, Bool.or_self]
  · simp only [PyData.depthAll]
    exact Nat.max_le.mpr ⟨h.dp, g.dp⟩
  · simp only [PyData.leavesShortAll, h.ls, g.ls, Bool.and_self]
  · have := h.wt
    have := g.wt
    simp only [PyData.weightAll]
    omega
theorem SmA.mono {ds : List PyData} {k w j v : Nat} (h : SmA ds k w) (a : k ≤ j) (b : w ≤ v) : SmA ds j v := ⟨h.sh, h.hd, Nat.le_trans h.dp a, h.ls, Nat.le_trans h.wt b⟩
theorem Sm.mono {d : PyData} {k w j v : Nat} (h : Sm d k w) (a : k ≤ j) (b : w ≤ v) : Sm d j v := ⟨h.sh, h.hd, Nat.le_trans h.dp a, h.ls, Nat.le_trans h.wt b⟩
theorem SmA.list {ds : List PyData} {k w : Nat} (h : SmA ds k w) : Sm (.list ds) (k + 1) (w + 4) := by
  refine ⟨?_, ?_, ?_, ?_, ?_⟩
  · simp only [PyData.showable, h.sh]
  · simp only [PyData.hasDict, h.hd]
  · have := h.dp
    simp only [PyData.depth]
    omega
  · simp only [PyData.leavesShort, h.ls]
  · have := h.wt
    simp only [PyData.weight]
    omega
theorem SmA.tuple {ds : List PyData} {k w : Nat} (h : SmA ds k w) : Sm (.tuple ds) (k + 1) (w + 4) := by
  refine ⟨?_, ?_, ?_, ?_, ?_⟩
  · simp only [PyData.showable, h.sh]
  · simp only [PyData.hasDict, h.hd]
  · have := h.dp
    simp only [PyData.depth]
    omega
  · simp only [PyData.leavesShort, h.ls]
  · have := h.wt
    simp only [PyData.weight]
    omega
theorem sm_int {v : Int} (h : 0 ≤ v) (h2 : v < 1000000000) (k : Nat) : Sm (.int v) k 30 := by
  have hl : v.natAbs.log2 < 30 := by
    by_cases h0 : v.natAbs = 0
    · rw [h0]
      decide
    · exact (Nat.log2_lt h0).mpr (by omega)
  refine ⟨?_, rfl, Nat.zero_le _, ?_, ?_⟩
  · simp only [PyData.showable, decide_eq_true_eq]
    omega
  · simp only [PyData.leavesShort, PyData.shown]
    have := int_text_length_le10 (a := v) (k := 10) (by decide) (by omega)
    exact decide_eq_true (by rw [PySem.ofString_length]; exact this)
  · simp only [PyData.weight]
    split <;> omega
theorem sm_none (k : Nat) : Sm .none k 30 := ⟨rfl, rfl, Nat.zero_le _, rfl, by simp [PyData.weight]⟩
theorem sm_bool (b : Bool) (k : Nat) : Sm (.bool b) k 30 := ⟨rfl, rfl, Nat.zero_le _, rfl, by simp [PyData.weight]⟩
theorem sm_str (x : Str) (k : Nat) (h : PyData.leavesShort 11 (.str x) = true) (w : PyData.weight (.str x) ≤ 30) : Sm (.str x) k 30 := ⟨rfl, rfl, Nat.zero_le _, h, w⟩
theorem Sm.fits {d : PyData} {k w : Nat} (h : Sm d k w) (hk : k ≤ 60) (hw : w ≤ 2 ^ 20) : d.showable = true ∧ d.hasDict = false ∧ d.depth ≤ 60 ∧ d.shown.length ≤ sizeLine :=
  ⟨h.sh, h.hd, Nat.le_trans h.dp hk, PyData.shown_fits (B := 11) (by decide) (by decide) h.ls (Nat.le_trans h.wt hw)⟩
theorem smA_ints : ∀ {ns : List Int} (k : Nat), (∀ v ∈ ns, Few v) → SmA (ns.map .int) k (32 * ns.length)
  | [], k, _ => .nil
  | v :: ns, k, h => by
    obtain ⟨h1, h2⟩ := h v (List.mem_cons_self ..)
    exact (SmA.cons (sm_int h1 (by omega) k) (smA_ints k fun x hx => h x (List.mem_cons_of_mem _ hx))).mono (Nat.le_refl _) (by rw [List.length_cons]; omega)
theorem sm_dI {ns : List Int} (h : ∀ v ∈ ns, Few v) (hl : ns.length ≤ 8) (k : Nat) : Sm (dI ns) (k + 1) 260 := by
  have := (smA_ints k h).tuple
  exact Sm.mono (d := .tuple (ns.map .int)) this (Nat.le_refl _) (by omega)
theorem smA_rows : ∀ {rows : List (List Int)} (k : Nat), (∀ r ∈ rows, r.length ≤ 8 ∧ ∀ v ∈ r, Few v) → SmA (rows.map dI) (k + 1) (262 * rows.length)
  | [], k, _ => .nil
  | r :: rows, k, h => by
    obtain ⟨h1, h2⟩ := h r (List.mem_cons_self ..)
    exact (SmA.cons (sm_dI h2 h1 k) (smA_rows k fun x hx => h x (List.mem_cons_of_mem _ hx))).mono (Nat.le_refl _) (by rw [List.length_cons]; omega)
theorem sm_rows {rows : List (List Int)} (h : ∀ r ∈ rows, r.length ≤ 8 ∧ ∀ v ∈ r, Few v) (k : Nat) : Sm (dRows rows) (k + 2) (262 * rows.length + 4) := Sm.mono (d := .tuple (rows.map dI)) (smA_rows k h).tuple (Nat.le_refl _) (Nat.le_refl _)
end G9

set_option Elab.async false
set_option linter.all false
set_option maxRecDepth 100000
set_option maxHeartbeats 8000000
/-! is_whole, _stands_in, first_broken, settled, answer_values -/
namespace G9
open PySem PySem.Spec PyProof.Rows L2 GX
/-- what may stand in a tuple that is judged -/
inductive Mb (H : Hp) : V → Prop
  | int (i : Int) : Mb H (.int i)
  | bl (b : Bool) : Mb H (.bl b)
  | non : Mb H .non
  | str (x : Str) : Mb H (.str x)
  | tup {a : Addr} {xs : List V} (e : H a = some (.tup xs)) : Mb H (.ref a)
theorem Mb.kt {H H' : Hp} (k : Kt H H') {v : V} (h : Mb H v) : Mb H' v := by
  cases h with
  | int i => exact .int i
  | bl b => exact .bl b
  | non => exact .non
  | str x => exact .str x
  | tup e => exact .tup (k _ _ e)
def isI : V → Bool
  | .int _ => true
  | _ => false
def toI : V → Int
  | .int i => i
  | _ => 0
def spWhole : Sp := fun vs H Q _ => ∃ v, vs = [v] ∧ Mb H v ∧ Q (.bl (isI v)) H
def spStands : Sp := fun vs H Q _ => ∃ u dom v, vs = [u, .int v] ∧ IH H u dom ∧ Q (.bl (decide (v ∈ dom))) H
/-- the first cell whose domain has not its value -/
def badCell (p : Puz) (ns : List Int) : Option Nat := (List.range p.doms.length).find? fun c => !decide (ns.getD c 0 ∈ p.doms.getD c [])
noncomputable def badRule (p : Puz) (ns : List Int) : Option Nat := (List.range p.rules.length).find? fun j => !((p.rules[j]?.map fun r => fitsB r (pick ns (Rul.cells r))).getD true)
noncomputable def brokenD (p : Puz) (ns : List Int) : PyData := match badCell p ns with
  | some c => .tuple [.str "cell", .int ((c : Nat) : Int)]
  | none => match badRule p ns with
    | some j => .tuple [.str "rule", .int ((j : Nat) : Int)]
    | none => .none
def spBroken (K : PySem.W.Frag) : Sp := fun vs H Q _ => ∃ u p v ns, vs = [u, v] ∧ PzH H u p ∧ PzOk p ∧ IH H v ns ∧ ns.length = p.doms.length ∧ ∀ w H', Same H H' → Dp K H' w (brokenD p ns) → Q w H'
theorem find_at {f : Nat → Bool} {n i : Nat} (h : i < n) (bad : f i = true) (good : ∀ j < i, f j = false) : (List.range n).find? f = some i := by
  rw [List.find?_range_eq_some]
  exact ⟨bad, List.mem_range.mpr h, fun j hj => by rw [good j hj]; rfl⟩
theorem find_no {f : Nat → Bool} {n : Nat} (good : ∀ j < n, f j = false) : (List.range n).find? f = none := by
  rw [List.find?_eq_none]
  intro j hj
  rw [good j (List.mem_range.mp hj)]
  exact Bool.false_ne_true
section
variable {P : Program} {w : World} {K : PySem.W.Frag} {mg : Str → Option Value} {base : Heap} {f f1 f2 f3 : Addr} {fd fd1 fd2 fd3 : FuncData} {pT : Addr}
theorem ok_whole (B : Bl mg) (D : Df K mg "is_whole" sIsWhole ["value"] f fd) : FnOk P w K mg base CX0 1 f fd ["value"] spWhole := by
  refine D.F.ok scIsWhole (fun vs H Q E h => ?_) (fun cdv A outer s H vs Q E hr h => ?_)
  · obtain ⟨v, rfl, _⟩ := h
    rfl
  · obtain ⟨v, rfl, hv, k⟩ := h
    refine ⟨_, pss_one (ps_ret (pe_and (pe_callB call_isi (by rfl) B.isi PyProof.Rows.boot_isinstance (pa_cons (pv 0) (pa_cons (pe_bltn (v := .ty "int") (by rfl) B.int PyProof.Rows.boot_int rfl) pa_nil)))
      (pe_one (pe_not (pe_callB call_isi (by rfl) B.isi PyProof.Rows.boot_isinstance (pa_cons (pv 0) (pa_cons (pe_bltn (v := .ty "bool") (by rfl) B.bool PyProof.Rows.boot_bool rfl) pa_nil))))))), ?_⟩
    cases hv with
    | int i => exact ⟨_, rfl, _, _, _, _, true, rfl, .ty _, .base (.int _), kit_ty (by decide +kernel), _, rfl, ifT rfl ⟨_, rfl, _, _, _, _, false, rfl, .ty _, .base (.int _), kit_ty (by decide +kernel), _, rfl, k⟩⟩
    | bl b => exact ⟨_, rfl, _, _, _, _, true, rfl, .ty _, .base (.bl _), kit_ty (by decide +kernel), _, rfl, ifT rfl ⟨_, rfl, _, _, _, _, true, rfl, .ty _, .base (.bl _), kit_ty (by decide +kernel), _, rfl, k⟩⟩
    | non => exact ⟨_, rfl, _, _, _, _, false, rfl, .ty _, .base .non, kit_ty (by decide +kernel), _, rfl, ifF rfl k⟩
    | str x => exact ⟨_, rfl, _, _, _, _, false, rfl, .ty _, .base (.str _), kit_ty (by decide +kernel), _, rfl, ifF rfl k⟩
    | tup e => exact ⟨_, rfl, _, _, _, _, false, rfl, .ty _, .base (.tup e), kit_ty (by decide +kernel), _, rfl, ifF rfl k⟩
theorem ok_stands (D : Df K mg "_stands_in" sStands ["domain", "value"] f fd) (D1 : Df K mg "is_whole" sIsWhole ["value"] f1 fd1) (G1 : FnOk P w K mg base CX0 1 f1 fd1 ["value"] spWhole) : FnOk P w K mg base CX0 3 f fd ["domain", "value"] spStands := by
  refine D.F.ok scStands (fun vs H Q E h => ?_) (fun cdv A outer s H vs Q E hr h => ?_)
  · obtain ⟨u, dom, v, rfl, _⟩ := h
    rfl
  · obtain ⟨u, dom, v, rfl, hd, k⟩ := h
    have hu := hr.units
    refine ⟨_, pss_one (ps_ret (pe_and (pe_call G1 (hr.mono (by decide)) (by rfl) D1.g D1.F.kp D1.b .nil pass0 (pa_cons (pv 1) pa_nil)) (pe_one (pe_cmpR (inDD K hu) (pv 1) (pv 0) (by rfl))))), ?_⟩
    refine ⟨_, rfl, _, rfl, .int v, _, rfl, ifT rfl ⟨_, rfl, _, rfl, .int v, dom.map .int, .int v, .inl hd.dp, cmp_int v, canAll_ints dom, ?_⟩⟩
    rw [GX.any_ints]
    exact k
theorem ok_broken (B : Bl mg) (D : Df K mg "first_broken" sBroken ["puzzle", "values"] f fd) (D1 : Df K mg "_stands_in" sStands ["domain", "value"] f1 fd1) (G1 : FnOk P w K mg base CX0 3 f1 fd1 ["domain", "value"] spStands)
    (D2 : Df K mg "fits" sFits ["rule", "values"] f2 fd2) (G2 : FnOk P w K mg base CX0 5 f2 fd2 ["rule", "values"] spFits) (D3 : Df K mg "values_under" sUnder ["rule", "values"] f3 fd3) (G3 : FnOk P w K mg base CX0 3 f3 fd3 ["rule", "values"] spUnder) : FnOk P w K mg base CX0 7 f fd ["puzzle", "values"] (spBroken K) := by
  refine D.F.ok scBroken (fun vs H Q E h => ?_) (fun cdv A outer s H vs Q E hr h => ?_)
  · obtain ⟨u, p, v, ns, rfl, _⟩ := h
    rfl
  · obtain ⟨u, p, v, ns, rfl, hp, ok, hv, hl, k⟩ := h
    have hu := hr.units
    refine ⟨_, pss_cons (ps_asg (pv 0) (pg_tupK K (n := 2) rfl (pgs_cons (pg_name (i := 2) scBroken.nd rfl (.inl rfl)) (pgs_cons (pg_name (i := 3) scBroken.nd rfl (.inl rfl)) pgs_nil))))
      (pss_cons (ps_for PassesOwn.never rfl (pi_enumT (by rfl) B.enumerate (pa_cons (pv 2) pa_nil)) (pg_tupK K (n := 2) rfl (pgs_cons (pg_name (i := 4) scBroken.nd rfl (.inl rfl)) (pgs_cons (pg_name (i := 5) scBroken.nd rfl (.inl rfl)) pgs_nil)))
        (pss_one (ps_if (pt_not (pt_val (pe_call G1 (hr.mono (by decide)) (by rfl) D1.g D1.F.kp D1.b .nil pass0 (pa_cons (pv 5) (pa_cons (pe_ix ix_tup (pv 1) (pv 4) (fun _ _ => rfl)) pa_nil))))) (pss_one (ps_ret (pe_tup (pa_cons pe_str (pa_cons (pv 4) pa_nil))))) pss_nil)))
      (pss_cons (ps_for PassesOwn.never rfl (pi_enumT (by rfl) B.enumerate (pa_cons (pv 3) pa_nil)) (pg_tupK K (n := 2) rfl (pgs_cons (pg_name (i := 6) scBroken.nd rfl (.inl rfl)) (pgs_cons (pg_name (i := 7) scBroken.nd rfl (.inl rfl)) pgs_nil)))
        (pss_one (ps_if (pt_not (pt_val (pe_call G2 (hr.mono (by decide)) (by rfl) D2.g D2.F.kp D2.b .nil pass0 (pa_cons (pv 7) (pa_cons (pe_call G3 (hr.mono (by decide)) (by rfl) D3.g D3.F.kp D3.b .nil pass0 (pa_cons (pv 7) (pa_cons (pv 1) pa_nil))) pa_nil))))) (pss_one (ps_ret (pe_tup (pa_cons pe_str (pa_cons (pv 6) pa_nil))))) pss_nil)))
      (pss_one (ps_ret pe_non)))), ?_⟩
    obtain ⟨a, x, y, rfl, ha, hx, hy⟩ := hp
    obtain ⟨xa, xvs, rfl, hxa, px⟩ := hx
    obtain ⟨ya, rvs, rfl, hya, py⟩ := hy
    obtain ⟨va, rfl, hva⟩ := hv
    have xl := px.length
    have yl := py.length
    refine ⟨_, rfl, a, _, rfl, sqt ha, rfl, _, _, rfl, _, _, rfl, rfl, ?_⟩
    refine ⟨_, rfl, xa, xvs, rfl, sqt hxa, ?_⟩
    refine for_it (walk_enumT (K := K) (a := xa) (xs := xvs)) (fun i σ H' => ∃ o4 o5 o6 o7, σ = [some (.ref a), some (.ref va), some (.ref xa), some (.ref ya), o4, o5, o6, o7] ∧ (∀ c < i, ns.getD c 0 ∈ p.doms.getD c []) ∧ Same H H')
      ⟨none, none, none, none, rfl, (fun c hc => absurd hc (Nat.not_lt_zero c)), same_refl H⟩ (fun i σ H' _ h => ?_) (fun i z σ H' H'' hi h yy => ?_) (fun σ H' h => ?_)
    · obtain ⟨_, _, _, _, _, _, s⟩ := h
      exact sqt (s _ _ hxa)
    · obtain ⟨o4, o5, o6, o7, rfl, good, s⟩ := h
      obtain ⟨T, e1, e2, rfl, hT, rfl, h1, h2⟩ := yy
      cases h1
      obtain ⟨dom, hdom, idom⟩ := paired_at px h2
      have sT := same_new (o := .tup [V.int ((i : Nat) : Int), e2]) hT
      have s2 := Same.tr s sT
      have il := (List.getElem?_eq_some_iff.mp hdom).1
      have inl : i < ns.length := by omega
      have hat : atI (ns.map V.int) ((i : Nat) : Int) = some (V.int (ns.getD i 0)) := by
        refine L2.atI_nat ?_
        rw [List.getElem?_map, List.getElem?_eq_getElem inl, List.getD_eq_getElem?_getD, List.getElem?_eq_getElem inl]
        rfl
      have tk1 : ∀ c < i + 1, c < i ∨ c = i := fun c hc => by omega
      refine ⟨T, _, rfl, sqt upd_same, rfl, _, _, rfl, _, _, rfl, rfl, _, rfl, _, rfl, _, rfl, va, _, ((i : Nat) : Int), _, rfl, rfl, sqt (s2 _ _ hva), hat, e2, dom, ns.getD i 0, rfl, idom.kt (kt_same s2), _, rfl, ?_⟩
      have gd : p.doms.getD i [] = dom := by rw [List.getD_eq_getElem?_getD, hdom]; rfl
      by_cases g : ns.getD i 0 ∈ dom
      · refine ifF (by rw [decide_eq_true g]; rfl) ?_
        refine ⟨_, _, o6, o7, rfl, fun c hc => ?_, s2⟩
        rcases tk1 c hc with z | z
        · exact good c z
        · rw [z, gd]
          exact g
      · refine ifT (by rw [decide_eq_false g]; rfl) ?_
        refine ⟨_, rfl, (show 2 ≤ sizeLine by decide), fun T2 hT2 => k _ _ (Same.tr s2 (same_new hT2)) ?_⟩
        have e : badCell p ns = some i := find_at (by omega) (by rw [gd, decide_eq_false g]; rfl) fun j hj => by rw [decide_eq_true (good j hj)]; rfl
        unfold brokenD
        rw [e]
        exact .tup (sqt upd_same) (.cons (.str _) (.cons (.int _) .nil))
    · obtain ⟨o4, o5, o6, o7, rfl, good, s⟩ := h
      have e0 : badCell p ns = none := find_no fun c hc => by rw [decide_eq_true (good c (by omega))]; rfl
      refine ⟨_, rfl, ya, rvs, rfl, sqt (s _ _ hya), ?_⟩
      refine for_it (walk_enumT (K := K) (a := ya) (xs := rvs)) (fun i σ H' => ∃ o4 o5 o6 o7, σ = [some (.ref a), some (.ref va), some (.ref xa), some (.ref ya), o4, o5, o6, o7] ∧ (∀ c < i, ((p.rules[c]?.map fun r => fitsB r (pick ns (Rul.cells r))).getD true) = true) ∧ Same H H')
        ⟨o4, o5, o6, o7, rfl, (fun c hc => absurd hc (Nat.not_lt_zero c)), s⟩ (fun i σ H' _ h => ?_) (fun i z σ H' H'' hi h yy => ?_) (fun σ H' h => ?_)
      · obtain ⟨_, _, _, _, _, _, s⟩ := h
        exact sqt (s _ _ hya)
      · obtain ⟨o4, o5, o6, o7, rfl, goodr, s⟩ := h
        obtain ⟨T, e1, e2, rfl, hT, rfl, h1, h2⟩ := yy
        cases h1
        obtain ⟨r, hr1, ir⟩ := paired_at py h2
        have hrm := List.mem_of_getElem? hr1
        have sT := same_new (o := .tup [V.int ((i : Nat) : Int), e2]) hT
        have s2 := Same.tr s sT
        have il := (List.getElem?_eq_some_iff.mp hr1).1
        have cr : ∀ c ∈ Rul.cells r, 0 ≤ c ∧ c < (ns.length : Int) := fun c hc => by
          have := ok.cell r hrm c hc
          omega
        have c100 := (ok.small r hrm).2.1
        refine ⟨T, _, rfl, sqt upd_same, rfl, _, _, rfl, _, _, rfl, rfl, _, rfl, _, rfl, _, rfl, e2, r, .ref va, ns, rfl, ir.kt (kt_same s2), ⟨va, rfl, s2 _ _ hva⟩, cr, by omega, fun w5 H5 s5 i5 => ⟨e2, r, w5, pick ns (Rul.cells r), rfl, (ir.kt (kt_same s2)).kt (kt_same s5), i5, pick_len _ _, ok.small r hrm, fun H6 s6 => ⟨_, rfl, ?_⟩⟩⟩
        have sZ := Same.tr (Same.tr s2 s5) s6
        have gd : ((p.rules[i]?.map fun r => fitsB r (pick ns (Rul.cells r))).getD true) = fitsB r (pick ns (Rul.cells r)) := by rw [hr1]; rfl
        have tk1 : ∀ c < i + 1, c < i ∨ c = i := fun c hc => by omega
        by_cases g : fitsB r (pick ns (Rul.cells r)) = true
        · refine ifF (by rw [g]; rfl) ?_
          refine ⟨o4, o5, _, _, rfl, fun c hc => ?_, sZ⟩
          rcases tk1 c hc with z | z
          · exact goodr c z
          · rw [z, gd]
            exact g
        · have g' : fitsB r (pick ns (Rul.cells r)) = false := by simpa using g
          refine ifT (by rw [g']; rfl) ?_
          refine ⟨_, rfl, (show 2 ≤ sizeLine by decide), fun T2 hT2 => k _ _ (Same.tr sZ (same_new hT2)) ?_⟩
          have e : badRule p ns = some i := find_at (by omega) (by rw [gd, g']; rfl) fun j hj => by rw [goodr j hj]; rfl
          unfold brokenD
          rw [e0, e]
          exact .tup (sqt upd_same) (.cons (.str _) (.cons (.int _) .nil))
      · obtain ⟨o4, o5, o6, o7, rfl, goodr, s⟩ := h
        have e : badRule p ns = none := find_no fun c hc => by rw [goodr c (by omega)]; rfl
        refine k _ _ s ?_
        unfold brokenD
        rw [e0, e]
        exact .non
end
end G9

set_option Elab.async false
set_option linter.all false
set_option maxRecDepth 100000
set_option maxHeartbeats 4000000
/-! the law's any_order, of any things -/
namespace G9
open PySem PySem.Spec PyProof.Rows L2 GX
def spOrderV : Sp := fun vs H Q _ => ∃ (d cs la : Addr) (xs : List V), vs = [.ref d, .ref la] ∧ SrcAt H d cs ∧ H la = some (.lst xs) ∧ xs.length ≤ 100000 ∧ ∀ (l : Addr) (xs' : List V) (H' : Hp), xs'.Perm xs → SrcAt H' d cs → Rn d cs H H' → H l = none → H' l = some (.lst xs') → Q (.ref l) H'
section
variable {P : Program} {w : World} {K : PySem.W.Frag} {mg : Str → Option Value} {base : Heap} {f fP : Addr} {fd dP : FuncData}
theorem ok_orderV (B : Bl mg) (D : Df K mg "_law_any_order" sOrder ["_law_source", "_law_things"] f fd) (DP : Df K mg "_law_pick" sPick ["_law_source", "_law_most"] fP dP) (GP : FnOk P w K mg base CX0 1 fP dP ["_law_source", "_law_most"] spPick) : FnOk P w K mg base CX0 3 f fd ["_law_source", "_law_things"] spOrderV := by
  refine D.F.ok scOrder (fun vs H Q E h => ?_) (fun cdv A outer s H vs Q E hr h => ?_)
  · obtain ⟨d, cs, la, xs, rfl, _⟩ := h
    rfl
  · obtain ⟨d, cs, ta, xs, rfl, hs, hta, hn, k⟩ := h
    refine ⟨_, pss_cons (ps_set (i := 2) scOrder.nd rfl (.inr rfl) (pe_callTy call_list_of (by rfl) B.list PyProof.Rows.boot_list (pa_cons (pv 1) pa_nil)))
      (pss_one (ps_ret (pe_lc (own := [("_law_lap", 3)]) rfl scOrder.nd (pi_range1 (by rfl) B.range (pa_cons (pe_callB call_len_seq (by rfl) B.len PySem.boot_len (pa_cons (pv 2) pa_nil)) pa_nil)) (blkOk_by (N := ["_law_source", "_law_things", "_law_others", "_law_lap"]) (sc := defScope sOrder) (by decide +kernel))
        (fun _ _ _ _ _ => pg_name (i := 3) scOrder.nd rfl (.inl rfl)) (fun _ _ _ _ _ => pts_nil)
        (fun _ _ _ _ _ => (show PE _ _ (tBM K "list" rPopAt _ _) from pe_bm PySem.F.plainAttrs_list PySem.F.slot_list_pop PySem.F.type_list_pop mt_popAt (pv 2) (pa_cons (pe_call GP (hr.mono (by decide)) (by rfl) DP.g DP.F.kp DP.b .nil pass0 (pa_cons (pv 0) (pa_cons (pe_callB (lenK K) (by rfl) B.len PySem.boot_len (pa_cons (pv 2) pa_nil)) pa_nil))) pa_nil)))))), ?_⟩
    refine ⟨_, rfl, ta, _, rfl, .inl (sql hta), fun ot hot => ?_⟩
    have n1 := hs.none hot
    refine ⟨_, rfl, ot, _, rfl, .inl (sql upd_same), _, rfl, by omega, by omega, fun L hL => ?_⟩
    have hs1 : SrcAt (upd H ot (.lst xs)) d cs := hs.upd n1.1 n1.2
    have n2 := hs1.none hL
    have n3 : ot ≠ L := ne_of_none upd_same hL
    have hLH : H L = none := none_under hL
    refine lc_it (walk_range (lo := 0) (n := ((xs.length : Nat) : Int).toNat)) (fun i H' => ∃ done rest : List V, H' ot = some (.lst rest) ∧ H' L = some (.lst done) ∧ (done ++ rest).Perm xs ∧ rest.length + i = xs.length ∧ SrcAt H' d cs ∧ Rn d cs H H')
      ⟨[], xs, upd_at hL upd_same, upd_same, .refl _, rfl, hs1.upd n2.1 n2.2, fun b o _ _ e => upd_at hL (upd_at hot e)⟩ (fun i H' _ h => trivial) (fun i x H' H'' hi h y => ?_) (fun H' h => ?_)
    · obtain ⟨done, rest, hO, hLd, pm, rl, hs', rn⟩ := h
      obtain ⟨rfl, rfl⟩ := y
      have ilt : i < xs.length := by rw [Int.toNat_natCast] at hi; exact hi
      have dl : done.length ≤ xs.length := by
        have := pm.length_eq
        rw [List.length_append] at this
        omega
      refine ⟨rfl, _, rfl, .inl ⟨rfl, _, sql hO⟩, _, rfl, _, rfl, ot, _, rfl, .inl (sql hO), d, cs, _, rfl, hs', by omega, fun r H1 r0 r1 hs2 rn2 => ?_⟩
      have rb : 0 ≤ r ∧ r < (rest.length : Int) := by
        by_cases h2 : (rest.length : Int) < 2
        · have := r0 h2
          omega
        · exact r1 (by omega)
      have hO1 : H1 ot = some (.lst rest) := rn2 _ _ n1.1 n1.2 hO
      have hL1 : H1 L = some (.lst done) := rn2 _ _ n2.1 n2.2 hLd
      have rlt : r.toNat < rest.length := by omega
      refine ⟨ot, _, r, r.toNat, rest[r.toNat]'rlt, rfl, rfl, hO1, by omega, by omega, seqIndex_of rb.1 rb.2, List.getElem?_eq_getElem rlt, ?_⟩
      have hL2 : upd H1 ot (.lst (rest.eraseIdx r.toNat)) L = some (.lst done) := by rw [upd_ne n3.symm]; exact hL1
      refine ⟨_, hL2, by rw [sizeLine_eq]; omega, done ++ [rest[r.toNat]'rlt], rest.eraseIdx r.toNat, ?_, upd_same, ?_, ?_, (hs2.upd n1.1 n1.2).upd n2.1 n2.2, fun b o h1 h2 e => ?_⟩
      · rw [upd_ne n3, upd_same]
      · refine .trans ?_ pm
        rw [List.append_assoc]
        exact .append_left _ (erase_perm rlt)
      · rw [List.length_eraseIdx_of_lt rlt]
        omega
      · rw [upd_ne (fun z => by rw [z, hLH] at e; cases e), upd_ne (fun z => by rw [z, hot] at e; cases e)]
        exact rn2 b o h1 h2 (rn b o h1 h2 e)
    · obtain ⟨done, rest, hO, hLd, pm, rl, hs', rn⟩ := h
      rw [Int.toNat_natCast] at rl
      have : rest = [] := List.eq_nil_of_length_eq_zero (by omega)
      subst this
      rw [List.append_nil] at pm
      exact k L done H' pm hs' rn hLH hLd
end
end G9

set_option Elab.async false
set_option linter.all false
set_option maxRecDepth 100000
set_option maxHeartbeats 8000000
/-! settled, answer_values, judge_answer -/
namespace G9
open PySem PySem.Spec PyProof.Rows L2 GX
theorem nd_len : ∀ {l m : List Int}, l.Nodup → (∀ x ∈ l, x ∈ m) → l.length ≤ m.length
  | [], _, _, _ => Nat.zero_le _
  | a :: l, m, nd, h => by
    obtain ⟨h1, h2⟩ := List.nodup_cons.mp nd
    have ha := h a (List.mem_cons_self ..)
    have := nd_len (l := l) (m := m.erase a) h2 fun x hx => (List.mem_erase_of_ne (fun (e : x = a) => h1 (by rw [← e]; exact hx))).mpr (h x (List.mem_cons_of_mem _ hx))
    rw [List.length_erase_of_mem ha] at this
    have := List.length_pos_of_mem ha
    rw [List.length_cons]
    omega
/-- set(l), l a list of ints: as many members as there are unlike ones -/
theorem cr_setN {X : Cx} (hc : X.calm = true) : CallR X (.type "set") (fun xs H Q => ∃ (l : Addr) (ns : List Int), xs = [V.ref l] ∧ SqL X.K H l (ns.map V.int) ∧ ns.length ≤ 1000 ∧ ∀ (a : Addr) (c : Nat), H a = none → (∀ ms : List Int, (∀ v ∈ ns, v ∈ ms) → c ≤ ms.length) → Q (.ref a) (upd H a (SetO X.w a (fun j => decide (j ∈ ns)) c))) := by
  intro pins s σ H xs us Q I r h
  obtain ⟨l, ns, rfl, hs, hl, q⟩ := h
  obtain ⟨its, rv, pl, hz⟩ := I.list hs
  rw [Vals.ref1 r]
  refine set_of_list ns (I.ok.hd hc) pl.isList (by simpa using RZ.intsAre_vals rv) (by unfold scanBound; omega) fun h' tk c R hc2 k => ?_
  refine ⟨.ref s.heap.objs.size, _, I.laid (t' := tk) k (Nat.le_refl _) (setO_new R), rfl, q _ c (I.hok.fresh (Nat.le_refl _)) fun ms hm => ?_⟩
  obtain ⟨o, es, ep, t, _, _, _, _, nd, mem, _, _, sz, _⟩ := R
  have e : (es.toList.map keyOf).length = c := by rw [List.length_map, Array.length_toList, sz]
  rw [← e]
  exact nd_len nd fun x hx => hm x (of_decide_eq_true ((mem x).mpr hx))
theorem rowsOf_three : ∀ (n : Nat) (ds : List (List Int)), ds.length = n → (∀ d ∈ ds, d.length ≤ 3) → (rowsOf ds).length ≤ 3 ^ n
  | 0, [], _, _ => Nat.le_refl _
  | n + 1, ds, h, hd => by
    have ne : ds ≠ [] := fun z => by rw [z] at h; cases h
    have e := List.dropLast_concat_getLast ne
    have hl : ds.dropLast.length = n := by rw [List.length_dropLast, h]; rfl
    rw [← e, rowsOf_snoc]
    have i1 := rowsOf_three n _ hl fun d hd' => hd d (List.dropLast_subset _ hd')
    have i2 := hd _ (List.getLast_mem ne)
    rw [grow_len]
    exact Nat.mul_le_mul i1 i2
theorem rowsOf_in : ∀ (n : Nat) (ds : List (List Int)), ds.length = n → (∀ e ∈ ds, e.length ≤ 3 ∧ ∀ v ∈ e, 0 ≤ v ∧ v < 4) → ∀ r ∈ rowsOf ds, ∀ v ∈ r, 0 ≤ v ∧ v < 4
  | 0, [], _, _, r, hr, v, hv => by
    have : r = [] := by simpa [rowsOf] using hr
    rw [this] at hv
    cases hv
  | n + 1, ds, h, hd, r, hr, v, hv => by
    have ne : ds ≠ [] := fun z => by rw [z] at h; cases h
    have e := List.dropLast_concat_getLast ne
    have hl : ds.dropLast.length = n := by rw [List.length_dropLast, h]; rfl
    rw [← e, rowsOf_snoc] at hr
    obtain ⟨q, hq, x, hx, rfl⟩ := mem_grow.mp hr
    rcases List.mem_append.mp hv with z | z
    · exact rowsOf_in n _ hl (fun e he => hd e (List.dropLast_subset _ he)) q hq v z
    · rw [List.mem_singleton.mp z]
      exact (hd _ (List.getLast_mem ne)).2 x hx
def spSettled (pT : Addr) : Sp := fun vs H Q _ => ∃ u p, vs = [u] ∧ PzH H u p ∧ PzOk p ∧ GxR.TabG H pT ∧ ∀ w H', Kb H H' → RowsH H' w ((answersOf p).take 2) → Q w H'
def spAnsVals (pT : Addr) : Sp := fun vs H Q _ => ∃ u p c, vs = [u, .int c] ∧ PzH H u p ∧ PzOk p ∧ (∀ e ∈ p.doms, e.length ≤ 3 ∧ ∀ v ∈ e, 0 ≤ v ∧ v < 4) ∧ p.doms.length ≤ 6 ∧ 0 ≤ c ∧ c < (p.doms.length : Int) ∧ GxR.TabG H pT ∧ ∀ (w : V) (ks : List Int) (H' : Hp), Kb H H' → ks.Pairwise (· < ·) → (∀ v, v ∈ ks ↔ ∃ row ∈ answersOf p, row.getD c.toNat 0 = v) → IH H' w ks → Q w H'
theorem cut_rows {K : PySem.W.Frag} {H : Hp} {x : V} {rows : List (List Int)} (hx : RowsH H x rows) {Q : VK} (k : ∀ w H', Same H H' → RowsH H' w (rows.take 2) → Q w H') : rSlA K x none (some 2) H Q := by
  obtain ⟨a, vs, rfl, ha, pa⟩ := hx
  have l1 := pa.length
  refine ⟨a, vs, rfl, sqt ha, fun e => ?_, fun e p hp => ?_⟩
  · have e2 : min 2 vs.length = vs.length := by
      have := e.2
      rw [show (some (2 : Int)) = some ((2 : Nat) : Int) from rfl, HT.sIx_nat] at this
      exact this
    refine k _ _ (same_refl H) ⟨a, vs, rfl, ha, ?_⟩
    rw [List.take_of_length_le (by omega)]
    exact pa
  · refine k _ _ (same_new hp) ⟨p, _, rfl, upd_same, ?_⟩
    have z := paired_sub 0 2 pa
    rw [List.drop_zero, List.drop_zero] at z
    have ec : cutV vs none (some 2) = vs.take 2 := by
      unfold cutV
      rw [show (some (2 : Int)) = some ((2 : Nat) : Int) from rfl, HT.sIx_nat]
      show (vs.drop 0).take (min 2 vs.length - 0) = _
      rw [List.drop_zero, Nat.sub_zero]
      by_cases h : 2 ≤ vs.length
      · rw [Nat.min_eq_left h]
      · rw [Nat.min_eq_right (by omega), List.take_of_length_le (Nat.le_refl _), List.take_of_length_le (by omega)]
    rw [ec]
    exact paired_mono (fun _ _ => IH.kt (kt_same (same_new hp))) z
section
variable {P : Program} {w : World} {K : PySem.W.Frag} {mg : Str → Option Value} {base : Heap} {f f1 f2 f3 : Addr} {fd fd1 fd2 fd3 : FuncData} {pT : Addr}
theorem ok_settled (D : Df K mg "settled" sSettled ["puzzle"] f fd) (D1 : Df K mg "answers" sAnswers ["puzzle"] f1 fd1) (G1 : FnOk P w K mg base CX0 12 f1 fd1 ["puzzle"] (spAnswers pT)) : FnOk P w K mg base CX0 14 f fd ["puzzle"] (spSettled pT) := by
  refine D.F.ok scSettled (fun vs H Q E h => ?_) (fun cdv A outer s H vs Q E hr h => ?_)
  · obtain ⟨u, p, rfl, _⟩ := h
    rfl
  · obtain ⟨u, p, rfl, hp, ok, hT, k⟩ := h
    refine ⟨_, pss_one (ps_ret (pe_slice (slA K) (pe_call G1 (hr.mono (by decide)) (by rfl) D1.g D1.F.kp D1.b .nil pass0 (pa_cons (pv 0) pa_nil)) po_none (po_some pe_int))), ?_⟩
    refine ⟨_, rfl, u, p, rfl, hp, ok, hT, fun w1 H1 kb h1 => ⟨2, rfl, cut_rows h1 fun w2 H2 s2 h2 => k w2 H2 (kb.trans (kb_same s2)) h2⟩⟩
theorem ok_ansVals (B : Bl mg) (D : Df K mg "answer_values" sAnsVals ["puzzle", "c"] f fd) (D1 : Df K mg "answers" sAnswers ["puzzle"] f1 fd1) (G1 : FnOk P w K mg base CX0 12 f1 fd1 ["puzzle"] (spAnswers pT)) : FnOk P w K mg base CX0 14 f fd ["puzzle", "c"] (spAnsVals pT) := by
  refine D.F.ok scAnsVals (fun vs H Q E h => ?_) (fun cdv A outer s H vs Q E hr h => ?_)
  · obtain ⟨u, p, c, rfl, _⟩ := h
    rfl
  · obtain ⟨u, p, c, rfl, hp, ok, hd, n6, c0, c1, hT, k⟩ := h
    refine ⟨_, pss_one (ps_ret (pe_callTy call_tuple_of (by rfl) B.tuple PyProof.Rows.boot_tuple (pa_cons (pe_callB (cr_sortedSet rfl) (by rfl) B.sorted PyProof.Rows.boot_sorted (pa_cons (pe_callTy (cr_setN rfl) (by rfl) B.sset PyProof.Rows.boot_set (pa_cons
      (pe_lc (own := [("values", 2)]) rfl scAnsVals.nd (pi_tup (pe_call G1 (hr.mono (by decide)) (by rfl) D1.g D1.F.kp D1.b .nil pass0 (pa_cons (pv 0) pa_nil))) (blkOk_by (N := ["puzzle", "c", "values"]) (sc := defScope sAnsVals) (by decide +kernel)) (fun _ _ _ _ _ => pg_name (i := 2) scAnsVals.nd rfl (.inl rfl)) (fun _ _ _ _ _ => pts_nil)
        (fun _ _ _ _ _ => pe_ix (ixT K) (pv 2) (pv 1) (fun _ _ => rfl))) pa_nil)) pa_nil)) pa_nil))), ?_⟩
    refine ⟨_, rfl, u, p, rfl, hp, ok, hT, fun w1 H1 kb h1 => ?_⟩
    obtain ⟨ra, rvs, rfl, hra, prv⟩ := h1
    have rvl := prv.length
    have len : (answersOf p).length ≤ 729 := by
      refine Nat.le_trans (List.length_filter_le _ _) (Nat.le_trans (rowsOf_three _ _ rfl fun e he => (hd e he).1) ?_)
      exact Nat.le_trans (Nat.pow_le_pow_right (by decide) n6) (by decide)
    refine ⟨ra, rfl, ⟨_, sqt hra⟩, fun L hL => ?_⟩
    refine lc_it (walk_tup (xs := rvs)) (fun i H' => H' = upd H1 L (.lst ((((answersOf p).take i).map fun row => row.getD c.toNat 0).map V.int))) rfl (fun i H' _ h => ?_) (fun i x H' H'' hi h y => ?_) (fun H' h => ?_)
    · subst h
      exact sqt (upd_at hL hra)
    · obtain ⟨rfl, hx⟩ := y
      subst h
      obtain ⟨row, hrow, ir⟩ := paired_at prv hx
      obtain ⟨rwa, rfl, hrwa⟩ := ir
      have rl := ans_len (List.mem_of_getElem? hrow)
      refine ⟨rfl, _, rfl, _, rfl, rwa, _, c, _, rfl, rfl, sqt (upd_at hL hrwa), pick_at (vals := row) (cs := [c]) (fun z hz => by rw [List.mem_singleton.mp hz, rl]; exact ⟨c0, c1⟩) (List.mem_singleton.mpr rfl), _, upd_same, ?_, ?_⟩
      · rw [List.length_map, List.length_map, List.length_take, sizeLine_eq]
        omega
      · rw [upd_upd, List.take_add_one, hrow, List.map_append, List.map_append]
        rfl
    · rw [rvl, List.take_length] at h
      subst h
      refine ⟨L, _, rfl, sql upd_same, by rw [List.length_map]; omega, fun S n hS hn => ?_⟩
      have n64 : n < 64 := by
        have := hn [0, 1, 2, 3] fun v hv => by
          obtain ⟨row, hrow, rfl⟩ := List.mem_map.mp hv
          have := rowsOf_in _ _ rfl hd row (List.mem_filter.mp hrow).1 (row.getD c.toNat 0) (by
            have rl := ans_len hrow
            rw [List.getD_eq_getElem?_getD, List.getElem?_eq_getElem (by omega : c.toNat < row.length)]
            exact List.getElem_mem _)
          have c4 : row.getD c.toNat 0 = 0 ∨ row.getD c.toNat 0 = 1 ∨ row.getD c.toNat 0 = 2 ∨ row.getD c.toNat 0 = 3 := by omega
          rcases c4 with e | e | e | e <;> rw [e] <;> decide
        exact Nat.lt_of_le_of_lt this (by decide)
      refine ⟨S, _, n, rfl, upd_same, n64, fun ks L0 lt mem kl hL0 => ?_⟩
      refine ⟨L0, _, rfl, .inl ⟨sql upd_same, fun T hT => ?_⟩⟩
      refine k (.ref T) ks _ (kb.trans (kb_same fun b o e => upd_at hT (upd_at hL0 (upd_at hS (upd_at hL e))))) lt (fun v => ?_) ⟨T, rfl, upd_same⟩
      rw [mem v, decide_eq_true_iff, List.mem_map]
end
end G9

set_option Elab.async false
set_option linter.all false
set_option maxRecDepth 100000
set_option maxHeartbeats 8000000
/-! judge_answer, and the law's fault -/
namespace G9
open PySem PySem.Spec PyProof.Rows L2 GX
/-- no tuple -/
def NotTup (H : Hp) (v : V) : Prop := v = .non ∨ (∃ x, v = .str x) ∨ (∃ (a : Addr) (xs : List V), v = .ref a ∧ H a = some (.lst xs)) ∨ ∃ (a : Addr) (kvs : List (Key × V)), v = .ref a ∧ H a = some (.dK kvs)
def JV (H : Hp) (v : V) : Option (List V) → Prop
  | none => NotTup H v
  | some xs => ∃ a, v = .ref a ∧ H a = some (.tup xs) ∧ xs.length ≤ 100 ∧ ∀ x ∈ xs, Mb H x
def formD : PyData := .tuple [.str "form"]
noncomputable def judgeD (p : Puz) : Option (List V) → PyData
  | none => formD
  | some xs => if xs.length = p.doms.length ∧ xs.all isI = true then brokenD p (xs.map toI) else formD
theorem ints_back : ∀ {xs : List V}, xs.all isI = true → (xs.map toI).map V.int = xs
  | [], _ => rfl
  | x :: xs, h => by
    rw [List.all_cons, Bool.and_eq_true] at h
    rw [List.map_cons, List.map_cons, ints_back h.2]
    cases x with
    | int i => rfl
    | _ => exact absurd h.1 Bool.false_ne_true
theorem ndG1 : (["member"] : List Str).Nodup := by decide
theorem isiK (K : PySem.W.Frag) {X : Cx} (h : X.K = K := by rfl) : CallR X (.builtin "isinstance") (rIsi K) := h ▸ call_isi
def spJudge (K : PySem.W.Frag) (pJ : Addr) : Sp := fun vs H Q _ => ∃ u p v jv, vs = [u, v] ∧ PzH H u p ∧ PzOk p ∧ GxR.TabG H pJ ∧ JV H v jv ∧ ∀ w H', Kb H H' → Dp K H' w (judgeD p jv) → Q w H'
def spFault (K : PySem.W.Frag) : Sp := fun vs H Q _ => ∃ u p v jv, vs = [u, v] ∧ PzH H u p ∧ PzOk p ∧ JV H v jv ∧ ∀ w H', Same H H' → Dp K H' w (judgeD p jv) → Q w H'
section
variable {P : Program} {w : World} {K : PySem.W.Frag} {mg : Str → Option Value} {base : Heap} {f f1 f2 f3 : Addr} {fd fd1 fd2 fd3 : FuncData}
theorem ok_judge {c pJ : Addr} (B : Bl mg) (TB : GxR.TabB base mg c pJ) (F : FunC K "judge_answer" "judge_answer" sJudge f c fd) (D1 : Df K mg "is_whole" sIsWhole ["value"] f1 fd1) (G1 : FnOk P w K mg base CX0 1 f1 fd1 ["value"] spWhole)
    (D2 : Df K mg "first_broken" sBroken ["puzzle", "values"] f2 fd2) (G2 : FnOk P w K mg base CX0 7 f2 fd2 ["puzzle", "values"] (spBroken K)) : FnOk P w K mg base CX0 10 f fd ["puzzle", "value"] (spJudge K pJ) := by
  refine F.ok scJudge (fun vs H Q E h => ?_) (fun A outer s H vs Q E hr h => ?_)
  · obtain ⟨u, p, v, jv, rfl, _⟩ := h
    rfl
  · obtain ⟨u, p, v, jv, rfl, hp, ok, hT, hv, k⟩ := h
    refine ⟨_, pss_cons (ps_if (pw_or (pt_not (pt_val (pe_callB call_isi (by rfl) B.isi PyProof.Rows.boot_isinstance (pa_cons (pv 1) (pa_cons (pe_bltn (v := .ty "tuple") (by rfl) B.tuple PyProof.Rows.boot_tuple rfl) pa_nil)))))
        (pw_or1 (pt_cmpR op_ne (pe_callB call_len_seq (by rfl) B.len PySem.boot_len (pa_cons (pv 1) pa_nil)) (pe_callB call_len_seq (by rfl) B.len PySem.boot_len (pa_cons (pe_ix ix_tup (pv 0) pe_int (fun _ _ => rfl)) pa_nil)) (nomark _)))).pt (pss_one (ps_ret (pe_tup (pa_cons pe_str pa_nil)))) pss_nil)
      (pss_cons (ps_if (pt_not (pt_val (pe_allG (k := 8) (c := c) (P := pJ) (N := ["member"]) (caps := [none]) hr (by rfl) B.all TB rfl ?S ?CP (pi_tup (pv 1))
          (fun _ _ _ _ _ => pg_name (i := 0) ndG1 rfl (.inl rfl)) (fun _ _ _ _ _ => pe_call G1 (gA_room (hr.mono (by decide))) (by rfl) D1.g D1.F.kp D1.b .nil pass0 (pa_cons (pv 0) pa_nil)) (fun _ => rfl)))) (pss_one (ps_ret (pe_tup (pa_cons pe_str pa_nil)))) pss_nil)
      (pss_one (ps_ret (pe_call G2 (hr.mono (by decide)) (by rfl) D2.g D2.F.kp D2.b .nil pass0 (pa_cons (pv 0) (pa_cons (pv 1) pa_nil)))))), ?_⟩
    case S =>
      refine ⟨rfl, rfl, fun y hy => ?_, rfl, fun y hy hf => ?_⟩
      · repeat (rcases List.mem_cons.mp hy with z | hy; · rw [z]; exact fun q => by cases q)
        cases hy
      · repeat (rcases List.mem_cons.mp hy with z | hy; · rw [z] at hf; cases hf)
        cases hy
    case CP =>
      refine ⟨rfl, fun i k x h1 h2 => ?_⟩
      match i, h1 with
      | 0, h1 => cases h1
    obtain ⟨a, x, y, rfl, ha, hx, hy⟩ := id hp
    obtain ⟨xa, xvs, rfl, hxa, px⟩ := hx
    have xl := px.length
    cases jv with
    | none =>
      have out : ∀ T, H T = none → Q (.ref T) (upd H T (.tup [.str "form"])) := fun T hT => k _ _ (kb_same (same_new hT)) (.tup (sqt upd_same) (.cons (.str _) .nil))
      rcases (show NotTup H v from hv) with rfl | ⟨x, rfl⟩ | ⟨a, xs, rfl, e⟩ | ⟨a, kvs, rfl, e⟩
      · exact ⟨_, rfl, _, _, _, _, false, rfl, .ty _, .base .non, kit_ty (by decide +kernel), _, rfl, ifT rfl ⟨(show 1 ≤ sizeLine by decide), out⟩⟩
      · exact ⟨_, rfl, _, _, _, _, false, rfl, .ty _, .base (.str _), kit_ty (by decide +kernel), _, rfl, ifT rfl ⟨(show 1 ≤ sizeLine by decide), out⟩⟩
      · exact ⟨_, rfl, _, _, _, _, false, rfl, .ty _, .base (.lst e), kit_ty (by decide +kernel), _, rfl, ifT rfl ⟨(show 1 ≤ sizeLine by decide), out⟩⟩
      · exact ⟨_, rfl, _, _, _, _, false, rfl, .ty _, .base (.dK e), kit_ty (by decide +kernel), _, rfl, ifT rfl ⟨(show 1 ≤ sizeLine by decide), out⟩⟩
    | some xs =>
      obtain ⟨va, rfl, hva, l100, mb⟩ := hv
      refine ⟨_, rfl, _, _, _, _, true, rfl, .ty _, .base (.tup hva), kit_ty (by decide +kernel), _, rfl, ifF rfl ?_⟩
      refine ⟨_, rfl, va, _, rfl, .inr (sqt hva), _, rfl, a, _, 0, _, rfl, rfl, sqt ha, rfl, xa, _, rfl, .inr (sqt hxa), rfl, _, rfl, ?_⟩
      by_cases hl : xs.length = p.doms.length
      · refine ifF (by rw [xl, hl]; simp) ?_
        refine ⟨_, rfl, va, rfl, ⟨_, sqt hva⟩, hT, fun H3 tb => ?_⟩
        have k3 : Kb H H3 := kb_tab hT tb
        have nt : ∀ {b o}, H b = some o → (∀ ps, o ≠ .tbl ps) → ∀ {H'}, Kb H H' → H' b = some o := fun e n H' kb => kb.1 _ _ n e
        refine ⟨xs.length, fun i σ' H' => ∃ o0, σ' = [o0] ∧ Kb H H', atOr xs isI true, ⟨none, rfl, k3⟩, fun i σ' H' hi hW => ?_, fun σ' H' hW => ?_, fun i σ' H' hi hW => ?_⟩
        · obtain ⟨o0, rfl, kb⟩ := hW
          have hva' : H' va = some (.tup xs) := kb.1 _ _ (fun ps z => by cases z) hva
          refine ⟨⟨xs, xs[i]'(by omega), sqt hva', List.getElem?_eq_getElem _⟩, fun x H'' y => ?_⟩
          obtain ⟨rfl, hx⟩ := y
          have hx' := hx xs (sqt hva')
          refine ⟨_, rfl, x, rfl, (mb x (List.mem_of_getElem? hx')).kt (kt_kb kb), ?_, _, rfl, kb⟩
          exact congrArg V.bl (atOr_at (g := isI) (z := true) hx').symm
        · obtain ⟨o0, rfl, kb⟩ := hW
          exact ⟨xs, sqt (kb.1 _ _ (fun ps z => by cases z) hva), Nat.le_refl _⟩
        · obtain ⟨o0, rfl, kb⟩ := hW
          have e : ((List.range xs.length).map (atOr xs isI true)).all id = xs.all isI := by
            rw [range_map, List.all_map]
            rfl
          refine ⟨_, congrArg V.bl e, ?_⟩
          by_cases g : xs.all isI = true
          · refine ifF (by rw [g]; rfl) ?_
            have hb := ints_back g
            refine ⟨_, rfl, _, rfl, .ref a, p, .ref va, xs.map toI, rfl, hp.kt (kt_kb kb), ok, ⟨va, rfl, by rw [hb]; exact kb.1 _ _ (fun ps z => by cases z) hva⟩, by rw [List.length_map]; exact hl, fun w5 H5 s5 d5 => k w5 H5 (kb.trans (kb_same s5)) ?_⟩
            rw [show judgeD p (some xs) = brokenD p (xs.map toI) from if_pos ⟨hl, g⟩]
            exact d5
          · have g' : xs.all isI = false := by simpa using g
            refine ifT (by rw [g']; rfl) ?_
            refine ⟨(show 1 ≤ sizeLine by decide), fun T hT => k _ _ (kb.trans (kb_same (same_new hT))) ?_⟩
            rw [show judgeD p (some xs) = formD from if_neg fun z => g z.2]
            exact .tup (sqt upd_same) (.cons (.str _) .nil)
      · refine ifT (by rw [xl]; simp; omega) ?_
        refine ⟨(show 1 ≤ sizeLine by decide), fun T hT => k _ _ (kb_same (same_new hT)) ?_⟩
        rw [show judgeD p (some xs) = formD from if_neg fun z => hl z.1]
        exact .tup (sqt upd_same) (.cons (.str _) .nil)
theorem ok_fault (B : Bl mg) (D : Df K mg "_law_fault" sFault ["_law_puzzle", "_law_value"] f fd) (D1 : Df K mg "_law_fits" sLFits ["_law_rule", "_law_values"] f1 fd1) (G1 : FnOk P w K mg base CX0 3 f1 fd1 ["_law_rule", "_law_values"] spLFits)
    (D2 : Df K mg "_law_scope" sScope ["_law_rule"] f2 fd2) (G2 : FnOk P w K mg base CX0 1 f2 fd2 ["_law_rule"] spCellsOf) : FnOk P w K mg base CX0 5 f fd ["_law_puzzle", "_law_value"] (spFault K) := by
  refine D.F.ok scFault (fun vs H Q E h => ?_) (fun cdv A outer s H vs Q E hr h => ?_)
  · obtain ⟨u, p, v, jv, rfl, _⟩ := h
    rfl
  · obtain ⟨u, p, v, jv, rfl, hp, ok, hv, k⟩ := h
    have hu := hr.units
    refine ⟨_, pss_cons (ps_if (pw_or (pt_not (pt_val (pe_callB call_isi (by rfl) B.isi PyProof.Rows.boot_isinstance (pa_cons (pv 1) (pa_cons (pe_bltn (v := .ty "tuple") (by rfl) B.tuple PyProof.Rows.boot_tuple rfl) pa_nil)))))
        (pw_or1 (pt_cmpR op_ne (pe_callB call_len_seq (by rfl) B.len PySem.boot_len (pa_cons (pv 1) pa_nil)) (pe_callB call_len_seq (by rfl) B.len PySem.boot_len (pa_cons (pe_ix ix_tup (pv 0) pe_int (fun _ _ => rfl)) pa_nil)) (nomark _)))).pt (pss_one (ps_ret (pe_tup (pa_cons pe_str pa_nil)))) pss_nil)
      (pss_cons (ps_if (pt_not (pt_val (pe_callB (allK K rfl) (by rfl) B.all PyProof.Rows.boot_all (pa_cons (pe_lc (own := [("_law_one", 2)]) rfl scFault.nd (pi_tup (pv 1)) (blkOk_by (N := ["_law_puzzle", "_law_value", "_law_one", "_law_cell", "_law_lot", "_law_j", "_law_rule"]) (sc := defScope sFault) (by decide +kernel)) (fun _ _ _ _ _ => pg_name (i := 2) scFault.nd rfl (.inl rfl)) (fun _ _ _ _ _ => pts_nil)
          (fun _ _ _ _ _ => pe_and (pe_callB (isiK K) (by rfl) B.isi PyProof.Rows.boot_isinstance (pa_cons (pv 2) (pa_cons (pe_bltn (v := .ty "int") (by rfl) B.int PyProof.Rows.boot_int rfl) pa_nil))) (pe_one (pe_not (pe_callB (isiK K) (by rfl) B.isi PyProof.Rows.boot_isinstance (pa_cons (pv 2) (pa_cons (pe_bltn (v := .ty "bool") (by rfl) B.bool PyProof.Rows.boot_bool rfl) pa_nil))))))) pa_nil))))
        (pss_one (ps_ret (pe_tup (pa_cons pe_str pa_nil)))) pss_nil)
      (pss_cons (ps_for PassesOwn.never rfl (pi_enumT (by rfl) B.enumerate (pa_cons (pe_ix ix_tup (pv 0) pe_int (fun _ _ => rfl)) pa_nil)) (pg_tupK K (n := 2) rfl (pgs_cons (pg_name (i := 3) scFault.nd rfl (.inl rfl)) (pgs_cons (pg_name (i := 4) scFault.nd rfl (.inl rfl)) pgs_nil)))
        (pss_one (ps_if (pt_cmpR (notInDD K hu) (pe_ix ix_tup (pv 1) (pv 3) (fun _ _ => rfl)) (pv 4) (by rfl)) (pss_one (ps_ret (pe_tup (pa_cons pe_str (pa_cons (pv 3) pa_nil))))) pss_nil)))
      (pss_cons (ps_for PassesOwn.never rfl (pi_enumT (by rfl) B.enumerate (pa_cons (pe_ix ix_tup (pv 0) pe_int (fun _ _ => rfl)) pa_nil)) (pg_tupK K (n := 2) rfl (pgs_cons (pg_name (i := 5) scFault.nd rfl (.inl rfl)) (pgs_cons (pg_name (i := 6) scFault.nd rfl (.inl rfl)) pgs_nil)))
        (pss_one (ps_if (pt_not (pt_val (pe_call G1 (hr.mono (by decide)) (by rfl) D1.g D1.F.kp D1.b .nil pass0 (pa_cons (pv 6) (pa_cons (pe_lc (own := [("_law_cell", 3)]) rfl scFault.nd (pi_tup (pe_call G2 (hr.mono (by decide)) (by rfl) D2.g D2.F.kp D2.b .nil pass0 (pa_cons (pv 6) pa_nil)))
            (blkOk_by (N := ["_law_puzzle", "_law_value", "_law_one", "_law_cell", "_law_lot", "_law_j", "_law_rule"]) (sc := defScope sFault) (by decide +kernel)) (fun _ _ _ _ _ => pg_name (i := 3) scFault.nd rfl (.inl rfl)) (fun _ _ _ _ _ => pts_nil) (fun _ _ _ _ _ => pe_ix (ixT K) (pv 1) (pv 3) (fun _ _ => rfl))) pa_nil)))))
          (pss_one (ps_ret (pe_tup (pa_cons pe_str (pa_cons (pv 5) pa_nil))))) pss_nil)))
      (pss_one (ps_ret pe_non))))), ?_⟩
    obtain ⟨a, x, y, rfl, ha, hx, hy⟩ := id hp
    obtain ⟨xa, xvs, rfl, hxa, px⟩ := hx
    obtain ⟨ya, rvs, rfl, hya, py⟩ := hy
    have xl := px.length
    have yl := py.length
    cases jv with
    | none =>
      have out : ∀ T, H T = none → Q (.ref T) (upd H T (.tup [.str "form"])) := fun T hT => k _ _ (same_new hT) (.tup (sqt upd_same) (.cons (.str _) .nil))
      rcases (show NotTup H v from hv) with rfl | ⟨x, rfl⟩ | ⟨a, xs, rfl, e⟩ | ⟨a, kvs, rfl, e⟩
      · exact ⟨_, rfl, _, _, _, _, false, rfl, .ty _, .base .non, kit_ty (by decide +kernel), _, rfl, ifT rfl ⟨(show 1 ≤ sizeLine by decide), out⟩⟩
      · exact ⟨_, rfl, _, _, _, _, false, rfl, .ty _, .base (.str _), kit_ty (by decide +kernel), _, rfl, ifT rfl ⟨(show 1 ≤ sizeLine by decide), out⟩⟩
      · exact ⟨_, rfl, _, _, _, _, false, rfl, .ty _, .base (.lst e), kit_ty (by decide +kernel), _, rfl, ifT rfl ⟨(show 1 ≤ sizeLine by decide), out⟩⟩
      · exact ⟨_, rfl, _, _, _, _, false, rfl, .ty _, .base (.dK e), kit_ty (by decide +kernel), _, rfl, ifT rfl ⟨(show 1 ≤ sizeLine by decide), out⟩⟩
    | some xs =>
      obtain ⟨va, rfl, hva, l100, mb⟩ := hv
      refine ⟨_, rfl, _, _, _, _, true, rfl, .ty _, .base (.tup hva), kit_ty (by decide +kernel), _, rfl, ifF rfl ?_⟩
      refine ⟨_, rfl, va, _, rfl, .inr (sqt hva), _, rfl, a, _, 0, _, rfl, rfl, sqt ha, rfl, xa, _, rfl, .inr (sqt hxa), rfl, _, rfl, ?_⟩
      by_cases hl : xs.length = p.doms.length
      · refine ifF (by rw [xl, hl]; simp) ?_
        refine ⟨_, rfl, va, rfl, ⟨_, sqt hva⟩, fun L hL => ?_⟩
        refine lc_it (walk_tup (xs := xs)) (fun i H' => H' = upd H L (.lst (((xs.take i).map isI).map V.bl))) rfl (fun i H' _ h => ?_) (fun i x H' H'' hi h y => ?_) (fun H' h => ?_)
        · subst h
          exact sqt (upd_at hL hva)
        · obtain ⟨rfl, hx⟩ := y
          subst h
          have tk : (xs.take (i + 1)).map isI = (xs.take i).map isI ++ [isI x] := by rw [List.take_add_one, hx, List.map_append]; rfl
          have fin : ∃ acc, upd H L (.lst (((xs.take i).map isI).map V.bl)) L = some (.lst acc) ∧ acc.length < sizeLine ∧ upd (upd H L (.lst (((xs.take i).map isI).map V.bl))) L (.lst (acc ++ [V.bl (isI x)])) = upd H L (.lst (((xs.take (i + 1)).map isI).map V.bl)) := by
            refine ⟨_, upd_same, by rw [List.length_map, List.length_map, List.length_take, sizeLine_eq]; omega, ?_⟩
            rw [upd_upd, tk, List.map_append]
            rfl
          have mx := mb x (List.mem_of_getElem? hx)
          cases mx with
          | int i => exact ⟨rfl, _, rfl, _, _, _, _, true, rfl, .ty _, .base (.int _), kit_ty (by decide +kernel), _, rfl, ifT rfl ⟨_, rfl, _, _, _, _, false, rfl, .ty _, .base (.int _), kit_ty (by decide +kernel), _, rfl, fin⟩⟩
          | bl b => exact ⟨rfl, _, rfl, _, _, _, _, true, rfl, .ty _, .base (.bl _), kit_ty (by decide +kernel), _, rfl, ifT rfl ⟨_, rfl, _, _, _, _, true, rfl, .ty _, .base (.bl _), kit_ty (by decide +kernel), _, rfl, fin⟩⟩
          | non => exact ⟨rfl, _, rfl, _, _, _, _, false, rfl, .ty _, .base .non, kit_ty (by decide +kernel), _, rfl, ifF rfl fin⟩
          | str x => exact ⟨rfl, _, rfl, _, _, _, _, false, rfl, .ty _, .base (.str _), kit_ty (by decide +kernel), _, rfl, ifF rfl fin⟩
          | tup e => exact ⟨rfl, _, rfl, _, _, _, _, false, rfl, .ty _, .base (.tup (upd_at hL e)), kit_ty (by decide +kernel), _, rfl, ifF rfl fin⟩
        rw [List.take_length] at h
        subst h
        have sL := same_new (o := .lst ((xs.map isI).map V.bl)) hL
        refine ⟨L, _, rfl, sql upd_same, _, rfl, ?_⟩
        have e : ((xs.map isI).all id) = xs.all isI := by
          rw [List.all_map]
          rfl
        by_cases g : xs.all isI = true
        · refine ifF (by rw [e, g]; rfl) ?_
          have hb := ints_back g
          have eD : judgeD p (some xs) = brokenD p (xs.map toI) := if_pos ⟨hl, g⟩
          rw [eD] at k
          have hl2 : (xs.map toI).length = p.doms.length := by rw [List.length_map]; exact hl
          rw [← hb] at hva
          generalize xs.map toI = ns at k hva hl2
          generalize upd H L (.lst ((xs.map isI).map V.bl)) = H1 at sL ⊢
          clear hb g e eD mb hl
          refine ⟨_, rfl, a, _, 0, _, rfl, rfl, sqt (sL _ _ ha), rfl, xa, xvs, rfl, sqt (sL _ _ hxa), ?_⟩
          refine for_it (walk_enumT (K := K) (a := xa) (xs := xvs)) (fun i σ H' => ∃ o2 o3 o4 o5 o6, σ = [some (.ref a), some (.ref va), o2, o3, o4, o5, o6] ∧ (∀ c < i, ns.getD c 0 ∈ p.doms.getD c []) ∧ Same H H')
            ⟨none, none, none, none, none, rfl, (fun c hc => absurd hc (Nat.not_lt_zero c)), sL⟩ (fun i σ H' _ h => ?_) (fun i z σ H' H'' hi h yy => ?_) (fun σ H' h => ?_)
          · obtain ⟨_, _, _, _, _, _, _, s⟩ := h
            exact sqt (s _ _ hxa)
          · obtain ⟨o2, o3, o4, o5, o6, rfl, good, s⟩ := h
            obtain ⟨T, e1, e2, rfl, hT, rfl, h1, h2⟩ := yy
            cases h1
            obtain ⟨dom, hdom, idom⟩ := paired_at px h2
            have sT := same_new (o := .tup [V.int ((i : Nat) : Int), e2]) hT
            have s2 := Same.tr s sT
            have il := (List.getElem?_eq_some_iff.mp hdom).1
            have inl : i < ns.length := by omega
            have hat : atI (ns.map V.int) ((i : Nat) : Int) = some (V.int (ns.getD i 0)) := by
              refine L2.atI_nat ?_
              rw [List.getElem?_map, List.getElem?_eq_getElem inl, List.getD_eq_getElem?_getD, List.getElem?_eq_getElem inl]
              rfl
            have tk1 : ∀ c < i + 1, c < i ∨ c = i := fun c hc => by omega
            have gd : p.doms.getD i [] = dom := by rw [List.getD_eq_getElem?_getD, hdom]; rfl
            refine ⟨T, _, rfl, sqt upd_same, rfl, _, _, rfl, _, _, rfl, rfl, ?_⟩
            refine ⟨_, rfl, _, rfl, va, _, ((i : Nat) : Int), _, rfl, rfl, sqt (s2 _ _ hva), hat, _, rfl, .int (ns.getD i 0), dom.map .int, .int _, .inl (idom.kt (kt_same s2)).dp, cmp_int _, canAll_ints dom, _, rfl, ?_⟩
            rw [GX.any_ints]
            by_cases g : ns.getD i 0 ∈ dom
            · refine ifF (by rw [decide_eq_true g]; rfl) ?_
              refine ⟨_, _, _, _, _, rfl, fun c hc => ?_, s2⟩
              rcases tk1 c hc with z | z
              · exact good c z
              · rw [z, gd]
                exact g
            · refine ifT (by rw [decide_eq_false g]; rfl) ?_
              refine ⟨_, rfl, (show 2 ≤ sizeLine by decide), fun T2 hT2 => k _ _ (Same.tr s2 (same_new hT2)) ?_⟩
              have e : badCell p ns = some i := find_at (by omega) (by rw [gd, decide_eq_false g]; rfl) fun j hj => by rw [decide_eq_true (good j hj)]; rfl
              unfold brokenD
              rw [e]
              exact .tup (sqt upd_same) (.cons (.str _) (.cons (.int _) .nil))
          · obtain ⟨o2, o3, o4, o5, o6, rfl, good, s⟩ := h
            have e0 : badCell p ns = none := find_no fun c hc => by rw [decide_eq_true (good c (by omega))]; rfl
            refine ⟨_, rfl, a, _, 1, _, rfl, rfl, sqt (s _ _ ha), rfl, ya, rvs, rfl, sqt (s _ _ hya), ?_⟩
            refine for_it (walk_enumT (K := K) (a := ya) (xs := rvs)) (fun i σ H' => ∃ o2 o3 o4 o5 o6, σ = [some (.ref a), some (.ref va), o2, o3, o4, o5, o6] ∧ (∀ c < i, ((p.rules[c]?.map fun r => fitsB r (pick ns (Rul.cells r))).getD true) = true) ∧ Same H H')
              ⟨o2, o3, o4, o5, o6, rfl, (fun c hc => absurd hc (Nat.not_lt_zero c)), s⟩ (fun i σ H' _ h => ?_) (fun i z σ H' H'' hi h yy => ?_) (fun σ H' h => ?_)
            · obtain ⟨_, _, _, _, _, _, _, s⟩ := h
              exact sqt (s _ _ hya)
            · obtain ⟨o2, o3, o4, o5, o6, rfl, goodr, s⟩ := h
              obtain ⟨T, e1, e2, rfl, hT, rfl, h1, h2⟩ := yy
              cases h1
              obtain ⟨r, hr1, ir⟩ := paired_at py h2
              have hrm := List.mem_of_getElem? hr1
              have sT := same_new (o := .tup [V.int ((i : Nat) : Int), e2]) hT
              have s2 := Same.tr s sT
              have il := (List.getElem?_eq_some_iff.mp hr1).1
              have cr : ∀ c ∈ Rul.cells r, 0 ≤ c ∧ c < (ns.length : Int) := fun c hc => by
                have := ok.cell r hrm c hc
                omega
              have c100 := (ok.small r hrm).2.1
              refine ⟨T, _, rfl, sqt upd_same, rfl, _, _, rfl, _, _, rfl, rfl, ?_⟩
              refine ⟨_, rfl, _, rfl, e2, r, rfl, ir.kt (kt_same s2), fun w5 H5 s5 hw5 => ?_⟩
              obtain ⟨ca, rfl, hca⟩ := hw5
              refine ⟨ca, rfl, ⟨_, sqt hca⟩, fun M hM => ?_⟩
              refine lc_it (walk_tup (xs := (Rul.cells r).map V.int)) (fun m H6 => H6 = upd H5 M (.lst ((pick ns ((Rul.cells r).take m)).map V.int))) rfl (fun m H6 _ h => ?_) (fun m x H6 H7 hm h y => ?_) (fun H6 h => ?_)
              · subst h
                exact sqt (upd_at hM hca)
              · obtain ⟨rfl, hx6⟩ := y
                obtain ⟨c, hc6, rfl⟩ := at_ints hx6
                subst h
                refine ⟨rfl, _, rfl, _, rfl, va, _, c, _, rfl, rfl, sqt (upd_at hM (s5 _ _ (s2 _ _ hva))), pick_at cr (List.mem_of_getElem? hc6), _, upd_same, ?_, ?_⟩
                · rw [List.length_map, pick_len, List.length_take, sizeLine_eq]
                  omega
                · rw [upd_upd, pick_take hc6, List.map_append]
                  rfl
              · rw [List.length_map, List.take_length] at h
                subst h
                have s6 := Same.tr s5 (same_new (o := .lst ((pick ns (Rul.cells r)).map V.int)) hM)
                refine ⟨e2, r, .ref M, pick ns (Rul.cells r), rfl, (ir.kt (kt_same s2)).kt (kt_same s6), ⟨M, rfl, upd_same⟩, pick_len _ _, ok.small r hrm, fun H7 s7 => ⟨_, rfl, ?_⟩⟩
                have sZ := Same.tr (Same.tr s2 s6) s7
                have gd : ((p.rules[i]?.map fun r => fitsB r (pick ns (Rul.cells r))).getD true) = fitsB r (pick ns (Rul.cells r)) := by rw [hr1]; rfl
                have tk1 : ∀ c < i + 1, c < i ∨ c = i := fun c hc => by omega
                by_cases g : fitsB r (pick ns (Rul.cells r)) = true
                · refine ifF (by rw [g]; rfl) ?_
                  refine ⟨_, _, _, _, _, rfl, fun c hc => ?_, sZ⟩
                  rcases tk1 c hc with z | z
                  · exact goodr c z
                  · rw [z, gd]
                    exact g
                · have g' : fitsB r (pick ns (Rul.cells r)) = false := by simpa using g
                  refine ifT (by rw [g']; rfl) ?_
                  refine ⟨_, rfl, (show 2 ≤ sizeLine by decide), fun T2 hT2 => k _ _ (Same.tr sZ (same_new hT2)) ?_⟩
                  have e : badRule p ns = some i := find_at (by omega) (by rw [gd, g']; rfl) fun j hj => by rw [goodr j hj]; rfl
                  unfold brokenD
                  rw [e0, e]
                  exact .tup (sqt upd_same) (.cons (.str _) (.cons (.int _) .nil))
            · obtain ⟨o2, o3, o4, o5, o6, rfl, goodr, s⟩ := h
              have e : badRule p ns = none := find_no fun c hc => by rw [goodr c (by omega)]; rfl
              refine k _ _ s ?_
              unfold brokenD
              rw [e0, e]
              exact .non
        · have g' : xs.all isI = false := by simpa using g
          refine ifT (by rw [e, g']; rfl) ?_
          refine ⟨(show 1 ≤ sizeLine by decide), fun T hT => k _ _ (Same.tr sL (same_new hT)) ?_⟩
          rw [show judgeD p (some xs) = formD from if_neg fun z => g z.2]
          exact .tup (sqt upd_same) (.cons (.str _) .nil)
      · refine ifT (by rw [xl]; simp; omega) ?_
        refine ⟨(show 1 ≤ sizeLine by decide), fun T hT => k _ _ (same_new hT) ?_⟩
        rw [show judgeD p (some xs) = formD from if_neg fun z => hl z.1]
        exact .tup (sqt upd_same) (.cons (.str _) .nil)
end
end G9

set_option Elab.async false
set_option linter.all false
set_option maxRecDepth 100000
set_option maxHeartbeats 8000000
/-! the law's shifted rules -/
namespace G9
open PySem PySem.Spec PyProof.Rows L2 GX
section
variable {P : Program} {w : World} {K : PySem.W.Frag} {mg : Str → Option Value} {base : Heap} {f f1 f2 f3 : Addr} {fd fd1 fd2 fd3 : FuncData}
theorem ok_shift (B : Bl mg) (D : Df K mg "_law_shifted" sShift ["_law_rule", "_law_many"] f fd) : FnOk P w K mg base CX0 1 f fd ["_law_rule", "_law_many"] spMoved := by
  refine D.F.ok scShift (fun vs H Q E h => ?_) (fun cdv A outer s H vs Q E hr h => ?_)
  · obtain ⟨v, r, b, rfl, _⟩ := h
    rfl
  · obtain ⟨v, r, b, rfl, hru, sm, k⟩ := h
    refine ⟨_, pss_cons (ps_if (pt_cmpR op_eq (pe_ix ix_tup (pv 0) pe_int (fun _ _ => rfl)) pe_str (nomark _)) (pss_one (ps_ret (pe_tup (pa_cons (pe_ix ix_tup (pv 0) pe_int (fun _ _ => rfl)) (pa_cons (pe_op op_add (pe_ix ix_tup (pv 0) pe_int (fun _ _ => rfl)) (pv 1)) (pa_cons (pe_op op_add (pe_ix ix_tup (pv 0) pe_int (fun _ _ => rfl)) (pv 1)) pa_nil)))))) pss_nil)
      (pss_cons (ps_set (i := 2) scShift.nd rfl (.inl rfl) (pe_tup (pa_cons (pe_ix ix_tup (pv 0) pe_int (fun _ _ => rfl)) (pa_cons (pe_callTy call_tuple_of (by rfl) B.tuple PyProof.Rows.boot_tuple (pa_cons
          (pe_lc (own := [("_law_cell", 3)]) rfl scShift.nd (pi_tup (pe_ix ix_tup (pv 0) pe_int (fun _ _ => rfl))) (blkOk_by (N := ["_law_rule", "_law_many", "_law_late", "_law_cell", "_law_one", "_law_other"]) (sc := defScope sShift) (by decide +kernel)) (fun _ _ _ _ _ => pg_name (i := 3) scShift.nd rfl (.inl rfl)) (fun _ _ _ _ _ => pts_nil) (fun _ _ _ _ _ => pe_op op_add (pv 3) (pv 1))) pa_nil)) pa_nil))))
      (pss_cons (ps_if (pt_cmpR op_eq (pe_ix ix_tup (pv 0) pe_int (fun _ _ => rfl)) pe_str (nomark _)) (pss_one (ps_ret (pe_op (catA K) (pv 2) (pe_tup (pa_cons (pe_callTy call_tuple_of (by rfl) B.tuple PyProof.Rows.boot_tuple (pa_cons
          (pe_lc (own := [("_law_one", 4), ("_law_other", 5)]) rfl scShift.nd (pi_tup (pe_ix ix_tup (pv 0) pe_int (fun _ _ => rfl))) (blkOk_by (N := ["_law_rule", "_law_many", "_law_late", "_law_cell", "_law_one", "_law_other"]) (sc := defScope sShift) (by decide +kernel)) (fun _ _ _ _ _ => pg_tupK K (n := 2) rfl (pgs_cons (pg_name (i := 4) scShift.nd rfl (.inl rfl)) (pgs_cons (pg_name (i := 5) scShift.nd rfl (.inl rfl)) pgs_nil))) (fun _ _ _ _ _ => pts_nil)
            (fun _ _ _ _ _ => pe_tup (pa_cons (pe_op op_add (pv 4) (pv 1)) (pa_cons (pe_op op_add (pv 5) (pv 1)) pa_nil)))) pa_nil)) (pa_cons (pe_ix ix_tup (pv 0) pe_int (fun _ _ => rfl)) pa_nil)))))) pss_nil)
      (pss_one (ps_ret (pe_op (catA K) (pv 2) (pe_slice (slA K) (pv 0) (po_some pe_int) po_none)))))), ?_⟩
    obtain ⟨nd, l100, more⟩ := sm
    cases r with
    | below i j =>
      obtain ⟨a, rfl, q⟩ := hru
      refine ⟨_, rfl, a, _, 0, _, rfl, rfl, sqt q, rfl, rfl, _, rfl, ifT (by decide +kernel) ?_⟩
      refine ⟨_, rfl, a, _, 0, _, rfl, rfl, sqt q, rfl, _, rfl, a, _, 1, _, rfl, rfl, sqt q, rfl, _, rfl, _, _, rfl, rfl, _, rfl, a, _, 2, _, rfl, rfl, sqt q, rfl, _, rfl, _, _, rfl, rfl, (show 3 ≤ sizeLine by decide), fun T hT => ?_⟩
      exact k _ _ (same_new hT) ⟨T, rfl, upd_same⟩
    | unlike cs =>
      obtain ⟨a, x, rfl, q, i⟩ := hru
      refine ⟨_, rfl, a, _, 0, _, rfl, rfl, sqt q, rfl, rfl, _, rfl, ifF (by decide +kernel) ?_⟩
      obtain ⟨xa, rfl, hxa⟩ := i
      have c100 : cs.length ≤ 100 := l100
      refine ⟨_, rfl, a, _, 0, _, rfl, rfl, sqt q, rfl, _, rfl, a, _, 1, _, rfl, rfl, sqt q, rfl, xa, rfl, ⟨_, sqt hxa⟩, fun L hL => ?_⟩
      refine lc_it (walk_tup (xs := cs.map V.int)) (fun m H3 => H3 = upd H L (.lst (((cs.take m).map (· + b)).map V.int))) rfl (fun m H3 _ h => ?_) (fun m z H3 H4 hm h y => ?_) (fun H3 h => ?_)
      · subst h
        exact sqt (upd_at hL hxa)
      · obtain ⟨rfl, hz⟩ := y
        obtain ⟨c, hc, rfl⟩ := at_ints hz
        subst h
        refine ⟨rfl, _, rfl, _, rfl, c, b, rfl, rfl, _, upd_same, by rw [List.length_map, List.length_map, List.length_take, sizeLine_eq]; omega, ?_⟩
        rw [upd_upd, List.take_add_one, hc, List.map_append, List.map_append]
        rfl
      rw [List.length_map, List.take_length] at h
      subst h
      refine ⟨L, _, rfl, .inl ⟨sql upd_same, fun T hT => ⟨(show 2 ≤ sizeLine by decide), fun T1 hT1 => ?_⟩⟩⟩
      have sm1 : Same H (upd (upd (upd H L (.lst ((cs.map (· + b)).map V.int))) T (.tup ((cs.map (· + b)).map V.int))) T1 (.tup [.str "unlike", .ref T])) := fun b o e => upd_at hT1 (upd_at hT (upd_at hL e))
      have iT : IH (upd (upd (upd H L (.lst ((cs.map (· + b)).map V.int))) T (.tup ((cs.map (· + b)).map V.int))) T1 (.tup [.str "unlike", .ref T])) (.ref T) (cs.map (· + b)) := ⟨T, rfl, upd_at hT1 upd_same⟩
      have h1 : upd (upd (upd H L (.lst ((cs.map (· + b)).map V.int))) T (.tup ((cs.map (· + b)).map V.int))) T1 (.tup [.str "unlike", .ref T]) T1 = some (.tup [.str "unlike", .ref T]) := upd_same
      generalize upd (upd (upd H L (.lst ((cs.map (· + b)).map V.int))) T (.tup ((cs.map (· + b)).map V.int))) T1 (.tup [.str "unlike", .ref T]) = H1 at sm1 iT h1 ⊢
      refine ⟨_, rfl, a, _, 0, _, rfl, rfl, sqt (sm1 _ _ q), rfl, rfl, _, rfl, ifF (by decide +kernel) ?_⟩
      refine ⟨_, rfl, _, rfl, 2, rfl, ?_⟩
      dsimp only [tNoPart]
      refine tail_cat (sm1 _ _ q) h1 (by simp) fun t H2 s2 ht => ?_
      exact k _ _ (Same.tr sm1 s2) ⟨t, _, rfl, ht, iT.kt (kt_same s2)⟩
    | sum cs lo hi =>
      obtain ⟨a, x, rfl, q, i⟩ := hru
      refine ⟨_, rfl, a, _, 0, _, rfl, rfl, sqt q, rfl, rfl, _, rfl, ifF (by decide +kernel) ?_⟩
      obtain ⟨xa, rfl, hxa⟩ := i
      have c100 : cs.length ≤ 100 := l100
      refine ⟨_, rfl, a, _, 0, _, rfl, rfl, sqt q, rfl, _, rfl, a, _, 1, _, rfl, rfl, sqt q, rfl, xa, rfl, ⟨_, sqt hxa⟩, fun L hL => ?_⟩
      refine lc_it (walk_tup (xs := cs.map V.int)) (fun m H3 => H3 = upd H L (.lst (((cs.take m).map (· + b)).map V.int))) rfl (fun m H3 _ h => ?_) (fun m z H3 H4 hm h y => ?_) (fun H3 h => ?_)
      · subst h
        exact sqt (upd_at hL hxa)
      · obtain ⟨rfl, hz⟩ := y
        obtain ⟨c, hc, rfl⟩ := at_ints hz
        subst h
        refine ⟨rfl, _, rfl, _, rfl, c, b, rfl, rfl, _, upd_same, by rw [List.length_map, List.length_map, List.length_take, sizeLine_eq]; omega, ?_⟩
        rw [upd_upd, List.take_add_one, hc, List.map_append, List.map_append]
        rfl
      rw [List.length_map, List.take_length] at h
      subst h
      refine ⟨L, _, rfl, .inl ⟨sql upd_same, fun T hT => ⟨(show 2 ≤ sizeLine by decide), fun T1 hT1 => ?_⟩⟩⟩
      have sm1 : Same H (upd (upd (upd H L (.lst ((cs.map (· + b)).map V.int))) T (.tup ((cs.map (· + b)).map V.int))) T1 (.tup [.str "sum", .ref T])) := fun b o e => upd_at hT1 (upd_at hT (upd_at hL e))
      have iT : IH (upd (upd (upd H L (.lst ((cs.map (· + b)).map V.int))) T (.tup ((cs.map (· + b)).map V.int))) T1 (.tup [.str "sum", .ref T])) (.ref T) (cs.map (· + b)) := ⟨T, rfl, upd_at hT1 upd_same⟩
      have h1 : upd (upd (upd H L (.lst ((cs.map (· + b)).map V.int))) T (.tup ((cs.map (· + b)).map V.int))) T1 (.tup [.str "sum", .ref T]) T1 = some (.tup [.str "sum", .ref T]) := upd_same
      generalize upd (upd (upd H L (.lst ((cs.map (· + b)).map V.int))) T (.tup ((cs.map (· + b)).map V.int))) T1 (.tup [.str "sum", .ref T]) = H1 at sm1 iT h1 ⊢
      refine ⟨_, rfl, a, _, 0, _, rfl, rfl, sqt (sm1 _ _ q), rfl, rfl, _, rfl, ifF (by decide +kernel) ?_⟩
      refine ⟨_, rfl, _, rfl, 2, rfl, ?_⟩
      dsimp only [tNoPart]
      refine tail_cat (sm1 _ _ q) h1 (by simp) fun t H2 s2 ht => ?_
      exact k _ _ (Same.tr sm1 s2) ⟨t, _, rfl, ht, iT.kt (kt_same s2)⟩
    | table cs rows =>
      obtain ⟨a, x, y, rfl, q, i, j⟩ := hru
      refine ⟨_, rfl, a, _, 0, _, rfl, rfl, sqt q, rfl, rfl, _, rfl, ifF (by decide +kernel) ?_⟩
      obtain ⟨xa, rfl, hxa⟩ := i
      have c100 : cs.length ≤ 100 := l100
      refine ⟨_, rfl, a, _, 0, _, rfl, rfl, sqt q, rfl, _, rfl, a, _, 1, _, rfl, rfl, sqt q, rfl, xa, rfl, ⟨_, sqt hxa⟩, fun L hL => ?_⟩
      refine lc_it (walk_tup (xs := cs.map V.int)) (fun m H3 => H3 = upd H L (.lst (((cs.take m).map (· + b)).map V.int))) rfl (fun m H3 _ h => ?_) (fun m z H3 H4 hm h y => ?_) (fun H3 h => ?_)
      · subst h
        exact sqt (upd_at hL hxa)
      · obtain ⟨rfl, hz⟩ := y
        obtain ⟨c, hc, rfl⟩ := at_ints hz
        subst h
        refine ⟨rfl, _, rfl, _, rfl, c, b, rfl, rfl, _, upd_same, by rw [List.length_map, List.length_map, List.length_take, sizeLine_eq]; omega, ?_⟩
        rw [upd_upd, List.take_add_one, hc, List.map_append, List.map_append]
        rfl
      rw [List.length_map, List.take_length] at h
      subst h
      refine ⟨L, _, rfl, .inl ⟨sql upd_same, fun T hT => ⟨(show 2 ≤ sizeLine by decide), fun T1 hT1 => ?_⟩⟩⟩
      have sm1 : Same H (upd (upd (upd H L (.lst ((cs.map (· + b)).map V.int))) T (.tup ((cs.map (· + b)).map V.int))) T1 (.tup [.str "table", .ref T])) := fun b o e => upd_at hT1 (upd_at hT (upd_at hL e))
      have iT : IH (upd (upd (upd H L (.lst ((cs.map (· + b)).map V.int))) T (.tup ((cs.map (· + b)).map V.int))) T1 (.tup [.str "table", .ref T])) (.ref T) (cs.map (· + b)) := ⟨T, rfl, upd_at hT1 upd_same⟩
      have h1 : upd (upd (upd H L (.lst ((cs.map (· + b)).map V.int))) T (.tup ((cs.map (· + b)).map V.int))) T1 (.tup [.str "table", .ref T]) T1 = some (.tup [.str "table", .ref T]) := upd_same
      generalize upd (upd (upd H L (.lst ((cs.map (· + b)).map V.int))) T (.tup ((cs.map (· + b)).map V.int))) T1 (.tup [.str "table", .ref T]) = H1 at sm1 iT h1 ⊢
      refine ⟨_, rfl, a, _, 0, _, rfl, rfl, sqt (sm1 _ _ q), rfl, rfl, _, rfl, ifF (by decide +kernel) ?_⟩
      refine ⟨_, rfl, _, rfl, 2, rfl, ?_⟩
      dsimp only [tNoPart]
      refine tail_cat (sm1 _ _ q) h1 (by simp) fun t H2 s2 ht => ?_
      exact k _ _ (Same.tr sm1 s2) ⟨t, _, _, rfl, ht, iT.kt (kt_same s2), j.kt (kt_same (Same.tr sm1 s2))⟩
    | count cs vs lo hi =>
      obtain ⟨a, x, y, rfl, q, i, j⟩ := hru
      refine ⟨_, rfl, a, _, 0, _, rfl, rfl, sqt q, rfl, rfl, _, rfl, ifF (by decide +kernel) ?_⟩
      obtain ⟨xa, rfl, hxa⟩ := i
      have c100 : cs.length ≤ 100 := l100
      refine ⟨_, rfl, a, _, 0, _, rfl, rfl, sqt q, rfl, _, rfl, a, _, 1, _, rfl, rfl, sqt q, rfl, xa, rfl, ⟨_, sqt hxa⟩, fun L hL => ?_⟩
      refine lc_it (walk_tup (xs := cs.map V.int)) (fun m H3 => H3 = upd H L (.lst (((cs.take m).map (· + b)).map V.int))) rfl (fun m H3 _ h => ?_) (fun m z H3 H4 hm h y => ?_) (fun H3 h => ?_)
      · subst h
        exact sqt (upd_at hL hxa)
      · obtain ⟨rfl, hz⟩ := y
        obtain ⟨c, hc, rfl⟩ := at_ints hz
        subst h
        refine ⟨rfl, _, rfl, _, rfl, c, b, rfl, rfl, _, upd_same, by rw [List.length_map, List.length_map, List.length_take, sizeLine_eq]; omega, ?_⟩
        rw [upd_upd, List.take_add_one, hc, List.map_append, List.map_append]
        rfl
      rw [List.length_map, List.take_length] at h
      subst h
      refine ⟨L, _, rfl, .inl ⟨sql upd_same, fun T hT => ⟨(show 2 ≤ sizeLine by decide), fun T1 hT1 => ?_⟩⟩⟩
      have sm1 : Same H (upd (upd (upd H L (.lst ((cs.map (· + b)).map V.int))) T (.tup ((cs.map (· + b)).map V.int))) T1 (.tup [.str "count", .ref T])) := fun b o e => upd_at hT1 (upd_at hT (upd_at hL e))
      have iT : IH (upd (upd (upd H L (.lst ((cs.map (· + b)).map V.int))) T (.tup ((cs.map (· + b)).map V.int))) T1 (.tup [.str "count", .ref T])) (.ref T) (cs.map (· + b)) := ⟨T, rfl, upd_at hT1 upd_same⟩
      have h1 : upd (upd (upd H L (.lst ((cs.map (· + b)).map V.int))) T (.tup ((cs.map (· + b)).map V.int))) T1 (.tup [.str "count", .ref T]) T1 = some (.tup [.str "count", .ref T]) := upd_same
      generalize upd (upd (upd H L (.lst ((cs.map (· + b)).map V.int))) T (.tup ((cs.map (· + b)).map V.int))) T1 (.tup [.str "count", .ref T]) = H1 at sm1 iT h1 ⊢
      refine ⟨_, rfl, a, _, 0, _, rfl, rfl, sqt (sm1 _ _ q), rfl, rfl, _, rfl, ifF (by decide +kernel) ?_⟩
      refine ⟨_, rfl, _, rfl, 2, rfl, ?_⟩
      dsimp only [tNoPart]
      refine tail_cat (sm1 _ _ q) h1 (by simp) fun t H2 s2 ht => ?_
      exact k _ _ (Same.tr sm1 s2) ⟨t, _, _, rfl, ht, iT.kt (kt_same s2), j.kt (kt_same (Same.tr sm1 s2))⟩
    | runs cs ls =>
      obtain ⟨a, x, y, rfl, q, i, j⟩ := hru
      refine ⟨_, rfl, a, _, 0, _, rfl, rfl, sqt q, rfl, rfl, _, rfl, ifF (by decide +kernel) ?_⟩
      obtain ⟨xa, rfl, hxa⟩ := i
      have c100 : cs.length ≤ 100 := l100
      refine ⟨_, rfl, a, _, 0, _, rfl, rfl, sqt q, rfl, _, rfl, a, _, 1, _, rfl, rfl, sqt q, rfl, xa, rfl, ⟨_, sqt hxa⟩, fun L hL => ?_⟩
      refine lc_it (walk_tup (xs := cs.map V.int)) (fun m H3 => H3 = upd H L (.lst (((cs.take m).map (· + b)).map V.int))) rfl (fun m H3 _ h => ?_) (fun m z H3 H4 hm h y => ?_) (fun H3 h => ?_)
      · subst h
        exact sqt (upd_at hL hxa)
      · obtain ⟨rfl, hz⟩ := y
        obtain ⟨c, hc, rfl⟩ := at_ints hz
        subst h
        refine ⟨rfl, _, rfl, _, rfl, c, b, rfl, rfl, _, upd_same, by rw [List.length_map, List.length_map, List.length_take, sizeLine_eq]; omega, ?_⟩
        rw [upd_upd, List.take_add_one, hc, List.map_append, List.map_append]
        rfl
      rw [List.length_map, List.take_length] at h
      subst h
      refine ⟨L, _, rfl, .inl ⟨sql upd_same, fun T hT => ⟨(show 2 ≤ sizeLine by decide), fun T1 hT1 => ?_⟩⟩⟩
      have sm1 : Same H (upd (upd (upd H L (.lst ((cs.map (· + b)).map V.int))) T (.tup ((cs.map (· + b)).map V.int))) T1 (.tup [.str "runs", .ref T])) := fun b o e => upd_at hT1 (upd_at hT (upd_at hL e))
      have iT : IH (upd (upd (upd H L (.lst ((cs.map (· + b)).map V.int))) T (.tup ((cs.map (· + b)).map V.int))) T1 (.tup [.str "runs", .ref T])) (.ref T) (cs.map (· + b)) := ⟨T, rfl, upd_at hT1 upd_same⟩
      have h1 : upd (upd (upd H L (.lst ((cs.map (· + b)).map V.int))) T (.tup ((cs.map (· + b)).map V.int))) T1 (.tup [.str "runs", .ref T]) T1 = some (.tup [.str "runs", .ref T]) := upd_same
      generalize upd (upd (upd H L (.lst ((cs.map (· + b)).map V.int))) T (.tup ((cs.map (· + b)).map V.int))) T1 (.tup [.str "runs", .ref T]) = H1 at sm1 iT h1 ⊢
      refine ⟨_, rfl, a, _, 0, _, rfl, rfl, sqt (sm1 _ _ q), rfl, rfl, _, rfl, ifF (by decide +kernel) ?_⟩
      refine ⟨_, rfl, _, rfl, 2, rfl, ?_⟩
      dsimp only [tNoPart]
      refine tail_cat (sm1 _ _ q) h1 (by simp) fun t H2 s2 ht => ?_
      exact k _ _ (Same.tr sm1 s2) ⟨t, _, _, rfl, ht, iT.kt (kt_same s2), j.kt (kt_same (Same.tr sm1 s2))⟩
    | joined cs ties vs =>
      obtain ⟨a, x, y, z0, rfl, q, i, j, l⟩ := hru
      refine ⟨_, rfl, a, _, 0, _, rfl, rfl, sqt q, rfl, rfl, _, rfl, ifF (by decide +kernel) ?_⟩
      obtain ⟨xa, rfl, hxa⟩ := i
      have c100 : cs.length ≤ 100 := l100
      refine ⟨_, rfl, a, _, 0, _, rfl, rfl, sqt q, rfl, _, rfl, a, _, 1, _, rfl, rfl, sqt q, rfl, xa, rfl, ⟨_, sqt hxa⟩, fun L hL => ?_⟩
      refine lc_it (walk_tup (xs := cs.map V.int)) (fun m H3 => H3 = upd H L (.lst (((cs.take m).map (· + b)).map V.int))) rfl (fun m H3 _ h => ?_) (fun m z H3 H4 hm h y => ?_) (fun H3 h => ?_)
      · subst h
        exact sqt (upd_at hL hxa)
      · obtain ⟨rfl, hz⟩ := y
        obtain ⟨c, hc, rfl⟩ := at_ints hz
        subst h
        refine ⟨rfl, _, rfl, _, rfl, c, b, rfl, rfl, _, upd_same, by rw [List.length_map, List.length_map, List.length_take, sizeLine_eq]; omega, ?_⟩
        rw [upd_upd, List.take_add_one, hc, List.map_append, List.map_append]
        rfl
      rw [List.length_map, List.take_length] at h
      subst h
      refine ⟨L, _, rfl, .inl ⟨sql upd_same, fun T hT => ⟨(show 2 ≤ sizeLine by decide), fun T1 hT1 => ?_⟩⟩⟩
      have sm1 : Same H (upd (upd (upd H L (.lst ((cs.map (· + b)).map V.int))) T (.tup ((cs.map (· + b)).map V.int))) T1 (.tup [.str "joined", .ref T])) := fun b o e => upd_at hT1 (upd_at hT (upd_at hL e))
      have iT : IH (upd (upd (upd H L (.lst ((cs.map (· + b)).map V.int))) T (.tup ((cs.map (· + b)).map V.int))) T1 (.tup [.str "joined", .ref T])) (.ref T) (cs.map (· + b)) := ⟨T, rfl, upd_at hT1 upd_same⟩
      have h1 : upd (upd (upd H L (.lst ((cs.map (· + b)).map V.int))) T (.tup ((cs.map (· + b)).map V.int))) T1 (.tup [.str "joined", .ref T]) T1 = some (.tup [.str "joined", .ref T]) := upd_same
      generalize upd (upd (upd H L (.lst ((cs.map (· + b)).map V.int))) T (.tup ((cs.map (· + b)).map V.int))) T1 (.tup [.str "joined", .ref T]) = H1 at sm1 iT h1 ⊢
      obtain ⟨ya, yvs, rfl, hya, py⟩ := j
      have yl : yvs.length = ties.length := by have := py.length; rw [List.length_map] at this; exact this
      have t100 : ties.length ≤ 100 := more
      refine ⟨_, rfl, a, _, 0, _, rfl, rfl, sqt (sm1 _ _ q), rfl, rfl, _, rfl, ifT (by decide +kernel) ?_⟩
      refine ⟨_, rfl, _, rfl, a, _, 2, _, rfl, rfl, sqt (sm1 _ _ q), rfl, ya, rfl, ⟨_, sqt (sm1 _ _ hya)⟩, fun M hM => ?_⟩
      refine lc_it (walk_tup (xs := yvs)) (fun m H3 => ∃ acc, H3 M = some (.lst acc) ∧ Paired (IH H3) acc (((ties.take m).map fun p => (p.1 + b, p.2 + b)).map tie2) ∧ Same H1 H3) ⟨[], upd_same, .nil, same_new hM⟩ (fun m H3 _ h => ?_) (fun m z H3 H4 hm h y => ?_) (fun H3 h => ?_)
      · obtain ⟨_, _, _, s3⟩ := h
        exact sqt (s3 _ _ (sm1 _ _ hya))
      · obtain ⟨rfl, hz⟩ := y
        obtain ⟨acc, hA, pA, s3⟩ := h
        obtain ⟨r, hr1, ir⟩ := paired_at py hz
        obtain ⟨p0, hp0, rfl⟩ : ∃ p0, ties[m]? = some p0 ∧ r = tie2 p0 := by
          rw [List.getElem?_map] at hr1
          cases e : ties[m]? with
          | none => rw [e] at hr1; cases hr1
          | some q => rw [e] at hr1; exact ⟨q, rfl, (Option.some.inj hr1).symm⟩
        obtain ⟨tb, rfl, htb⟩ := ir
        have al := pA.length
        rw [List.length_map, List.length_map, List.length_take] at al
        refine ⟨tb, _, rfl, sqt (s3 _ _ (sm1 _ _ htb)), rfl, _, _, rfl, _, _, rfl, rfl, rfl, _, rfl, _, rfl, _, _, rfl, rfl, _, rfl, _, rfl, _, _, rfl, rfl, (show 2 ≤ sizeLine by decide), fun T5 hT5 => ?_⟩
        have hA5 := upd_at (o := .tup [.int (p0.1 + b), .int (p0.2 + b)]) hT5 hA
        refine ⟨acc, hA5, by rw [sizeLine_eq]; omega, acc ++ [.ref T5], upd_same, ?_, fun c o eb => ?_⟩
        · rw [List.take_add_one, hp0, List.map_append, List.map_append]
          exact paired_app (paired_mono (fun _ _ q => (q.kt (kt_same (same_new hT5))).kt (ktL hA5)) pA) (paired_one ⟨T5, rfl, ktL hA5 _ _ upd_same⟩)
        · rw [upd_ne (fun z => by rw [z, hM] at eb; cases eb)]
          exact upd_at hT5 (s3 _ _ eb)
      obtain ⟨acc, hA, pA, s3⟩ := h
      rw [yl, List.take_length] at pA
      refine ⟨M, acc, rfl, .inl ⟨sql hA, fun T6 hT6 => ?_⟩⟩
      have s6 := Same.tr s3 (same_new (o := .tup acc) hT6)
      refine ⟨_, rfl, a, _, 3, _, rfl, rfl, sqt (s6 _ _ (sm1 _ _ q)), rfl, (show 2 ≤ sizeLine by decide), fun T7 hT7 => ?_⟩
      have s7 := Same.tr s6 (same_new (o := .tup [.ref T6, z0]) hT7)
      refine ⟨T1, T7, [.str "joined", .ref T], [.ref T6, z0], rfl, rfl, sqt (s7 _ _ h1), sqt upd_same, (show 2 + 2 ≤ sizeLine by decide), (fun e => nomatch e), (fun _ e => nomatch e), fun _ _ T8 hT8 => ?_⟩
      have s8 := Same.tr s7 (same_new (o := .tup ([.str "joined", .ref T] ++ [.ref T6, z0])) hT8)
      exact k _ _ (Same.tr sm1 s8) ⟨T8, _, _, _, rfl, upd_same, iT.kt (kt_same s8), ⟨T6, acc, rfl, upd_at hT8 (upd_at hT7 upd_same), paired_mono (fun _ _ z => IH.kt (kt_same (fun b o e => upd_at hT8 (upd_at hT7 (upd_at hT6 e)))) z) pA⟩, l.kt (kt_same (Same.tr sm1 s8))⟩
end
end G9

set_option Elab.async false
set_option linter.all false
set_option maxRecDepth 100000
set_option maxHeartbeats 8000000
/-! what is in all, by the law -/
namespace G9
open PySem PySem.Spec PyProof.Rows L2 GX
/-- the cells at which all rows are as this one -/
def sameAt (rows : List (List Int)) (r0 : List Int) (c : Nat) : Bool := rows.all fun row => decide (row.getD c 0 = r0.getD c 0)
def sameOf (rows : List (List Int)) (r0 : List Int) : List Nat := (List.range r0.length).filter fun c => sameAt rows r0 c
theorem inc_eq : ∀ {l m : List Int}, l.Pairwise (· < ·) → m.Pairwise (· < ·) → (∀ x, x ∈ l ↔ x ∈ m) → l = m
  | [], [], _, _, _ => rfl
  | [], b :: m, _, _, h => absurd ((h b).mpr (List.mem_cons_self ..)) (by simp)
  | a :: l, [], _, _, h => absurd ((h a).mp (List.mem_cons_self ..)) (by simp)
  | a :: l, b :: m, hl, hm, h => by
    obtain ⟨l1, l2⟩ := List.pairwise_cons.mp hl
    obtain ⟨m1, m2⟩ := List.pairwise_cons.mp hm
    have e : a = b := by
      rcases List.mem_cons.mp ((h a).mp (List.mem_cons_self ..)) with z | z
      · exact z
      · rcases List.mem_cons.mp ((h b).mpr (List.mem_cons_self ..)) with y | y
        · exact y.symm
        · have := l1 b y
          have := m1 a z
          omega
    subst e
    rw [inc_eq l2 m2 fun x => ⟨fun hx => ?_, fun hx => ?_⟩]
    · rcases List.mem_cons.mp ((h x).mp (List.mem_cons_of_mem _ hx)) with z | z
      · have := l1 x hx
        omega
      · exact z
    · rcases List.mem_cons.mp ((h x).mpr (List.mem_cons_of_mem _ hx)) with z | z
      · have := m1 x hx
        omega
      · exact z
theorem nI_inc {l : List Nat} (h : l.Pairwise (· < ·)) : (nI l).Pairwise (· < ·) := by
  unfold nI
  exact List.Pairwise.map _ (fun a b h => by omega) h
theorem same_free (p : Puz) (r0 : List Int) (c : Nat) : sameAt (answersOf p) r0 c = !isFree p r0 c := by
  unfold sameAt isFree
  generalize answersOf p = l
  induction l with
  | nil => rfl
  | cons a l ih =>
    rw [List.all_cons, List.any_cons, ih]
    by_cases h : a.getD c 0 = r0.getD c 0
    · rw [decide_eq_true h, decide_eq_false (fun z => z h)]
      rfl
    · rw [decide_eq_false h, decide_eq_true h]
      rfl
theorem ks_same {p : Puz} {r0 : List Int} {ks : List Int} (lt : ks.Pairwise (· < ·)) (mem : ∀ c, c ∈ ks ↔ ∃ j : Nat, j < r0.length ∧ isFree p r0 j = false ∧ c = (j : Int)) : ks = nI (sameOf (answersOf p) r0) := by
  refine inc_eq lt (nI_inc ((List.pairwise_lt_range (n := r0.length)).filter _)) fun x => ?_
  rw [mem x]
  unfold nI sameOf
  simp only [List.mem_map, List.mem_filter, List.mem_range, same_free, Bool.not_eq_true']
  constructor
  · rintro ⟨j, h1, h2, h3⟩
    exact ⟨j, ⟨h1, h2⟩, h3.symm⟩
  · rintro ⟨j, ⟨h1, h2⟩, h3⟩
    exact ⟨j, h1, h2, h3.symm⟩
/-- what is in all rows: none without rows -/
def CommonV (H : Hp) (w : V) (rows : List (List Int)) : Prop := (rows = [] ∧ w = .non) ∨ ∃ (b : Addr) (r0 : List Int) (rest : List (List Int)), rows = r0 :: rest ∧ w = .ref b ∧ RowsH H w ((pairsAt r0 (nI (sameOf rows r0))).map tie2)
def spLCommon : Sp := fun vs H Q _ => ∃ (l : Addr) (rows : List (List Int)) (n : Nat), vs = [.ref l] ∧ LRows H (.ref l) rows ∧ (∀ r ∈ rows, r.length = n) ∧ n ≤ 8 ∧ rows.length ≤ 65536 ∧ ∀ w H', Same H H' → CommonV H' w rows → Q w H'
section
variable {P : Program} {w : World} {K : PySem.W.Frag} {mg : Str → Option Value} {base : Heap} {f f1 f2 f3 : Addr} {fd fd1 fd2 fd3 : FuncData}
theorem ok_lcommon (B : Bl mg) (D : Df K mg "_law_common" sLCommon ["_law_rows_here"] f fd) : FnOk P w K mg base CX0 1 f fd ["_law_rows_here"] spLCommon := by
  refine D.F.ok scLCommon (fun vs H Q E h => ?_) (fun cdv A outer s H vs Q E hr h => ?_)
  · obtain ⟨l, rows, n, rfl, _⟩ := h
    rfl
  · obtain ⟨l, rows, n, rfl, hl, hn, n8, rl, k2⟩ := h
    have hu := hr.units
    refine ⟨_, pss_cons (ps_if (pt_cmpR (eqDD K hu) (pv 0) (pe_lst pa_nil) (nomark _)) (pss_one (ps_ret pe_non)) pss_nil)
      (pss_cons (ps_set (i := 1) scLCommon.nd rfl (.inl rfl) (pe_lst pa_nil))
      (pss_cons (ps_for PassesOwn.never rfl (pi_enumT (by rfl) B.enumerate (pa_cons (pe_ix ix_list (pv 0) pe_int (fun _ _ => rfl)) pa_nil)) (pg_tupK K (n := 2) rfl (pgs_cons (pg_name (i := 2) scLCommon.nd rfl (by first | exact .inl rfl | exact .inr rfl)) (pgs_cons (pg_name (i := 3) scLCommon.nd rfl (by first | exact .inl rfl | exact .inr rfl)) pgs_nil)))
        (pss_one (ps_if (pt_cmpR (eqDD K hu) (pe_lc (own := [("_law_row", 4)]) rfl scLCommon.nd (pi_list (pv 0)) (blkOk_by (N := ["_law_rows_here", "_law_found", "_law_cell", "_law_value", "_law_row"]) (sc := defScope sLCommon) (by decide +kernel)) (fun _ _ _ _ _ => pg_name (i := 4) scLCommon.nd rfl (.inl rfl))
            (fun _ _ _ _ _ => pts_one (pt_cmpR op_ne (pe_ix (ixT K) (pv 4) (pv 2) (fun _ _ => rfl)) (pv 3) (nomark _))) (fun _ _ _ _ _ => pv 4)) (pe_lst pa_nil) (nomark _))
          (pss_one (ps_expr (pe_bm PySem.F.plainAttrs_list PySem.F.slot_list_append PySem.F.type_list_append mt_append (pv 1) (pa_cons (pe_tup (pa_cons (pv 2) (pa_cons (pv 3) pa_nil))) pa_nil)))) pss_nil)))
      (pss_one (ps_ret (pe_callTy call_tuple_of (by rfl) B.tuple PyProof.Rows.boot_tuple (pa_cons (pv 1) pa_nil)))))), ?_⟩
    refine ⟨_, rfl, by decide, fun M hM => ?_⟩
    have sM := same_new (o := .lst []) hM
    refine ⟨.list (rows.map dI), .list (([] : List (List Int)).map dI), (hl.same sM).dp, .lst (sql upd_same) .nil, cmp_lrows _, cmp_lrows [], _, rfl, ?_⟩
    rw [eqv_lrows]
    cases hrows : rows with
    | nil => exact ifT (decide_eq_true rfl) (k2 _ _ sM (.inl ⟨hrows, rfl⟩))
    | cons r0 rest =>
      rw [← hrows]
      refine ifF (decide_eq_false (by rw [hrows]; exact fun z => nomatch z)) ?_
      obtain ⟨l', rvs, el, hrv, prv⟩ := hl.same sM
      cases el
      generalize upd H M (.lst []) = H1 at sM hrv prv ⊢
      refine ⟨by decide, fun F hF => ?_⟩
      have sF := same_new (o := .lst []) hF
      have hF1 : upd H1 F (.lst []) F = some (.lst []) := upd_same
      have hrv1 := sF _ _ hrv
      have prv1 := paired_mono (fun _ _ q => IH.kt (kt_same sF) q) prv
      have nFl : F ≠ l := (ne_of_none hrv hF).symm
      have s1 := Same.tr sM sF
      have nFH : H F = none := none_same sM hF
      clear hrv prv sM sF
      generalize upd H1 F (.lst []) = H2 at hF1 hrv1 prv1 s1 ⊢
      clear hF hM H1
      obtain ⟨x0, hx0, i0⟩ := paired_at' prv1 (show rows[0]? = some r0 by rw [hrows]; rfl)
      obtain ⟨ra, rfl, hra⟩ := i0
      have r0n : r0.length = n := hn r0 (by rw [hrows]; exact List.mem_cons_self ..)
      refine ⟨_, rfl, l, _, 0, _, rfl, rfl, sql hrv1, (L2.atI_nat (j := 0) hx0 : atI rvs ((0 : Nat) : Int) = _), ra, _, rfl, sqt hra, ?_⟩
      refine for_it (walk_enumT (K := K) (a := ra) (xs := r0.map V.int)) (fun i σ H' => ∃ (fvs : List V) (o2 o3 o4 : Option V), σ = [some (.ref l), some (.ref F), o2, o3, o4] ∧ H' F = some (.lst fvs) ∧ Paired (IH H') fvs ((pairsAt r0 (nI ((List.range i).filter fun c => sameAt rows r0 c))).map tie2) ∧ (∀ b o, b ≠ F → H2 b = some o → H' b = some o))
        ⟨[], none, none, none, rfl, hF1, .nil, fun b o _ e => e⟩ (fun i σ H' _ h => ?_) (fun i z σ H' H'' hi h yy => ?_) (fun σ H' h => ?_)
      · obtain ⟨_, _, _, _, _, _, _, kp⟩ := h
        exact sqt (kp _ _ (fun z => by rw [z, hF1] at hra; cases hra) hra)
      · obtain ⟨fvs, o2, o3, o4, rfl, hFv, pF, kp⟩ := h
        obtain ⟨T, e1, e2, rfl, hT, rfl, h1, h2⟩ := yy
        cases h1
        obtain ⟨v1, hv1, rfl⟩ := at_ints h2
        have il := (List.getElem?_eq_some_iff.mp hv1).1
        have vd : r0.getD i 0 = v1 := by rw [List.getD_eq_getElem?_getD, hv1]; rfl
        have sT := same_new (o := .tup [V.int ((i : Nat) : Int), V.int v1]) hT
        have kp2 : ∀ b o, b ≠ F → H2 b = some o → upd H' T (.tup [V.int ((i : Nat) : Int), V.int v1]) b = some o := fun b o hb e => sT _ _ (kp b o hb e)
        have kt2 : Kt H2 (upd H' T (.tup [V.int ((i : Nat) : Int), V.int v1])) := fun b xs e => kp2 b _ (fun z => by rw [z, hF1] at e; cases e) e
        have hF2 := sT _ _ hFv
        have pF2 := paired_mono (fun _ _ q => IH.kt (kt_same sT) q) pF
        refine ⟨T, _, rfl, sqt upd_same, rfl, _, _, rfl, _, _, rfl, rfl, ?_⟩
        generalize upd H' T (.tup [V.int ((i : Nat) : Int), V.int v1]) = H5 at kp2 kt2 hF2 pF2 ⊢
        have hrv5 := kp2 _ _ nFl.symm hrv1
        have prv5 := paired_mono (fun _ _ q => IH.kt kt2 q) prv1
        refine ⟨_, rfl, l, rfl, ⟨_, sql hrv5⟩, fun L hL => ?_⟩
        refine lc_filt (i := 4) (Pred := fun row => decide (row.getD i 0 ≠ v1)) (walk_list (K := K) (a := l) (xs := rvs)) hL rfl (fun H' s => sql (s _ _ hrv5)) prv5 rl (fun H6 acc s6 hLk pLk => ?_) ?_ ?_ (fun m x row H3 C hrow s3 ir k3 => ?_)
        rotate_left
        · exact fun _ => rfl
        · exact fun _ => rfl
        · obtain ⟨rowA, rfl, hrowA⟩ := ir
          have rlen := hn row (List.mem_of_getElem? hrow)
          have hat : atI (row.map V.int) ((i : Nat) : Int) = some (V.int (row.getD i 0)) := by
            have inl : i < row.length := by omega
            refine L2.atI_nat ?_
            rw [List.getElem?_map, List.getElem?_eq_getElem inl, List.getD_eq_getElem?_getD, List.getElem?_eq_getElem inl]
            rfl
          refine ⟨_, rfl, _, rfl, rowA, _, ((i : Nat) : Int), _, rfl, rfl, sqt hrowA, hat, _, rfl, rfl, _, rfl, ?_⟩
          have z := k3 H3 (same_refl H3)
          have e : (decide (row.getD i 0 ≠ v1)) = !decide (V.int (row.getD i 0) = V.int v1) := by
            by_cases h : row.getD i 0 = v1 <;> simp [h]
          rw [e] at z
          exact z
        · have hF6 := s6 _ _ hF2
          have pF6 := paired_mono (fun _ _ q => IH.kt (kt_same s6) q) pF2
          have kp6 : ∀ b o, b ≠ F → H2 b = some o → H6 b = some o := fun b o hb e => s6 _ _ (kp2 b o hb e)
          refine ⟨by decide, fun M hM => ?_⟩
          have sM := same_new (o := .lst []) hM
          refine ⟨.list ((rows.filter fun row => decide (row.getD i 0 ≠ v1)).map dI), .list (([] : List (List Int)).map dI), LRows.dp ⟨L, acc, rfl, sM _ _ hLk, paired_mono (fun _ _ q => IH.kt (kt_same sM) q) pLk⟩, .lst (sql upd_same) .nil, cmp_lrows _, cmp_lrows [], _, rfl, ?_⟩
          rw [eqv_lrows]
          have ef : decide (rows.filter (fun row => decide (row.getD i 0 ≠ v1)) = []) = sameAt rows r0 i := by
            unfold sameAt
            rw [vd]
            by_cases h : rows.filter (fun row => decide (row.getD i 0 ≠ v1)) = []
            · rw [decide_eq_true h]
              rw [List.filter_eq_nil_iff] at h
              refine (List.all_eq_true.mpr fun x hx => ?_).symm
              have := h x hx
              simpa using this
            · rw [decide_eq_false h]
              refine (Bool.eq_false_iff.mpr fun h2 => h ?_).symm
              rw [List.filter_eq_nil_iff]
              intro x hx
              have := List.all_eq_true.mp h2 x hx
              simpa using this
          rw [ef]
          have hF7 := sM _ _ hF6
          have pF7 := paired_mono (fun _ _ q => IH.kt (kt_same sM) q) pF6
          have kp7 : ∀ b o, b ≠ F → H2 b = some o → upd H6 M (.lst []) b = some o := fun b o hb e => sM _ _ (kp6 b o hb e)
          generalize upd H6 M (.lst []) = H7 at hF7 pF7 kp7 ⊢
          have fl := pF7.length
          have fl2 : fvs.length ≤ 8 := by
            rw [fl, List.length_map]
            unfold pairsAt nI
            rw [List.length_map, List.length_map]
            exact Nat.le_trans (List.length_filter_le _ _) (by rw [List.length_range]; omega)
          by_cases g : sameAt rows r0 i = true
          · refine ifT g ?_
            refine ⟨_, rfl, .inl ⟨rfl, _, sql hF7⟩, _, rfl, _, rfl, (show 2 ≤ sizeLine by decide), fun T2 hT2 => ?_⟩
            have hF8 := upd_at (o := .tup [.int ((i : Nat) : Int), .int v1]) hT2 hF7
            refine ⟨F, fvs, _, rfl, rfl, hF8, by rw [sizeLine_eq]; omega, fvs ++ [.ref T2], _, _, _, rfl, upd_same, ?_, fun b o hb e => ?_⟩
            · have ec : (List.range (i + 1)).filter (fun c => sameAt rows r0 c) = (List.range i).filter (fun c => sameAt rows r0 c) ++ [i] := by
                rw [List.range_succ, List.filter_append]
                simp [g]
              rw [ec]
              unfold pairsAt nI
              rw [List.map_append, List.map_append, List.map_append]
              refine paired_app (paired_mono (fun _ _ q => (q.kt (kt_same (same_new hT2))).kt (ktL hF8)) pF7) (paired_one ⟨T2, rfl, ?_⟩)
              rw [ktL hF8 _ _ upd_same]
              show _ = some (HO.tup [V.int ((i : Nat) : Int), V.int (r0.getD (((i : Nat) : Int)).toNat 0)])
              rw [Int.toNat_natCast, vd]
            · rw [upd_ne hb]
              exact upd_at hT2 (kp7 b o hb e)
          · have g' : sameAt rows r0 i = false := by simpa using g
            refine ifF g' ⟨fvs, _, _, _, rfl, hF7, ?_, kp7⟩
            have ec : (List.range (i + 1)).filter (fun c => sameAt rows r0 c) = (List.range i).filter (fun c => sameAt rows r0 c) := by
              rw [List.range_succ, List.filter_append]
              simp [g']
            rw [ec]
            exact pF7
      · obtain ⟨fvs, o2, o3, o4, rfl, hFv, pF, kp⟩ := h
        rw [List.length_map] at pF
        refine ⟨_, rfl, F, fvs, rfl, .inl ⟨sql hFv, fun T hT => ?_⟩⟩
        refine k2 _ _ (fun b o e => upd_at hT (kp b o (fun z => by rw [z, nFH] at e; cases e) (s1 _ _ e))) (.inr ⟨T, r0, rest, hrows, rfl, T, fvs, rfl, upd_same, ?_⟩)
        exact paired_mono (fun _ _ q => IH.kt (kt_same (same_new hT)) q) pF
end
end G9

set_option Elab.async false
set_option linter.all false
set_option maxRecDepth 100000
set_option maxHeartbeats 4000000
/-! defs that print: nothing is being shown as they are called -/
namespace G9
open PySem PySem.Spec PyProof.Rows L2 GX
section
variable {P : Program} {w : World} {K : PySem.W.Frag} {mg : Str → Option Value} {base : Heap} {f : Addr} {fd : FuncData}
/-- a def's call where all that is around it is known -/
theorem run_at {A : Around} {x qual : Str} {st : Stmt} {N ps : List Str} {sp : Sp} {k : Nat} (F : Fun K x qual st f fd) (S : FnScope N ps (defScope st)) (hr : Room (k + 1) A) {s : Shared} {H : Hp} {as : Args} {us : List Value} {vs : List V} {Q : VK} {E : XK} {outer : List Env}
    (body : ∀ (cdv : Value), Room k (A.deeper (envOfC qual (defScope st) s.heap.objs.size f cdv)) → ∃ t, PSs (cxOf CX0 P w K mg base N qual (defScope st) f cdv A outer s H E).nox (defBody st) t ∧ t { nx := fun _ H' => Q .non H', rt := Q } (start N vs) H)
    (hl : vs.length = ps.length) (env : Env0 P w K mg base A outer s H) (hb : BindsTo s fd as (ps.zip us)) (rv : Vals vs us) : codeAny (model P w) A (.call (.ref f) as) (CR CX0 outer P w H s Q E) s := by
  obtain ⟨oc, od, kV, doc, pm, an, cdv, ct, osl, rfl, lk, hcd⟩ := F.ex
  obtain ⟨t, ht, hq⟩ := body cdv (hr.deeper _)
  have old : ∀ b o, base.get? b = some o → s.heap.get? b = some o := fun b o e => (env.bs b o e).1
  have kin : K.In s.heap := env.mod.kin.keeps old
  have kinds : ∀ y ∈ ps.zip us, (defScope st).names.lookup y.1 = some .local ∨ ((defScope st).names.lookup y.1 = some .cell ∧ ((cellsFrom (s.heap.objs.size + 1) (defScope st).names []).lookup y.1).isSome = true) := fun y hy =>
    (S.par y.1 (List.of_mem_zip hy).1).imp id fun z => ⟨z, PySem.W.cellsFrom_some _ _ _ (.inl z)⟩
  refine codeAny_call_function hr.depth (kin _ _ lk) rfl S.co S.gen rfl (PySem.W.codeRec_of kin hcd) (hb _ _ _ _ (wpAny_newFunctionEnv_cells S.kind kinds fun e he s1 new => ?_))
  subst he
  refine ⟨(env.mod.nolimit.keeps old).keeps new.toInCall.keep, codeAny_func (wpAny_mono (ht.nox.run [] s1 (start N vs) H _ (inv_start S hr.hd env hl rv new) hq) (fun r s' h => ?_) fun _ _ h => h)⟩
  have out : ∀ {σ' : L2.St} {H' : Hp} {v : V} {u : Value}, Inv (cxOf CX0 P w K mg base N qual (defScope st) f cdv A outer s H E) [] σ' H' s' → RelV v u → Q v H' → CE outer P w H s Q u s' := fun J e q => ⟨_, _, J.os, J.bare, J.base, J.hok, e, q⟩
  cases r with
  | ret u =>
    obtain ⟨v, σ', H', J, e, q⟩ := h
    exact out J e q
  | next =>
    obtain ⟨σ', H', J, q⟩ := h
    exact out (v := V.non) (u := Value.none) J rfl q
  | brk =>
    obtain ⟨_, _, _, q⟩ := h
    exact q.elim
  | cont =>
    obtain ⟨_, _, _, q⟩ := h
    exact q.elim
end
structure FnG (P : Program) (w : World) (K : PySem.W.Frag) (mg : Str → Option Value) (base : Heap) (k : Nat) (f : Addr) (fd : FuncData) (ps : List Str) (sp : Sp) : Prop where
  len : ∀ vs H Q E, sp vs H Q E → vs.length = ps.length
  run : ∀ (A : Around) (outer : List Env) (s : Shared) (H : Hp) (as : Args) (us : List Value) (vs : List V) (Q : VK) (E : XK), Room k A → A.guards = some [] → Env0 P w K mg base A outer s H → BindsTo s fd as (ps.zip us) → Vals vs us → sp vs H Q E → codeAny (model P w) A (.call (.ref f) as) (CR CX0 outer P w H s Q E) s
theorem fnG_of {P : Program} {w : World} {K : PySem.W.Frag} {mg : Str → Option Value} {base : Heap} {f : Addr} {fd : FuncData} {x : Str} {st : Stmt} {N ps : List Str} {sp : Sp} {k : Nat} (F : Fun K x x st f fd) (S : FnScope N ps (defScope st)) (len : ∀ vs H Q E, sp vs H Q E → vs.length = ps.length)
    (hbody : ∀ (cdv : Value) (A : Around) (outer : List Env) (s : Shared) (H : Hp) (vs : List V) (Q : VK) (E : XK), Room k (A.deeper (envOfC x (defScope st) s.heap.objs.size f cdv)) → A.guards = some [] → sp vs H Q E →
      ∃ t, PSs (cxOf CX0 P w K mg base N x (defScope st) f cdv A outer s H E).nox (defBody st) t ∧ t { nx := fun _ H' => Q .non H', rt := Q } (start N vs) H) : FnG P w K mg base (k + 1) f fd ps sp :=
  ⟨len, fun A outer s H as us vs Q E hr hA env hb rv hs => run_at (sp := sp) F S hr (fun cdv hr2 => hbody cdv A outer s H vs Q E hr2 hA hs) (len _ _ _ _ hs) env hb rv⟩
theorem pe_callG {X : Cx} {k : Nat} {f : Addr} {fd : FuncData} {ps : List Str} {sp : Sp} {x : Str} {p pos : Pos} {e : Expr} {es : List Expr} {t : TA} (F : FnG X.prog X.w X.K X.mg X.base k f fd ps sp) (hr : Room k X.A) (hA : X.A.guards = some []) (hg : Gl X x) (hm : X.mg x = some (.ref f)) (hk : PySem.W.keepIn X.K (.ref f) = true) (hb : Binds X.K fd ps []) (ha : PA X (e :: es) t)
    (hdb : (x == ("__debug__" : Str)) = false := by decide) (he : starEach (e :: es) X.env = (false, eval e X.env) :: starEach es X.env := by rfl) (hpl : (backTo pos (starEach es X.env)).any (·.1) = false := by rfl) : PE X (.Call (.Name x p) (e :: es) [] pos) (tCall sp [] E0 t) := by
  refine ⟨fun pins s σ H Q I h => wpAny_Call_Name_kw (ld_glob I hg hm (PySem.W.callWith_K (h₀ := X.base) I.ok.mod.kin hk (thn (ha.run pos pins s σ H _ I h) fun us s1 hx => ?_) he hpl) hdb)⟩
  obtain ⟨vs, H1, I1, r, q⟩ := hx
  rw [List.append_nil] at q
  have hl : (us ++ []).length = ps.length := by rw [List.append_nil, ← r.length]; exact F.len _ _ _ _ q
  have bind := hb s1 us I1.kIn hl
  rw [List.append_nil] at bind
  refine ⟨I1.kIn, wpAny_call (codeAny_mono (F.run X.A X.stack s1 H1 ⟨us, []⟩ us vs Q E0 hr hA I1.env0 bind r q) fun u s' hq => ?_)⟩
  cases u with
  | error e => exact hq.elim
  | ok fl =>
    cases fl with
    | ret u => exact I1.after hq
    | next => exact hq.elim
    | brk => exact hq.elim
    | cont => exact hq.elim
/-- repr of data: what it shows -/
def rReprD (K : PySem.W.Frag) : List V → Hp → VK → Prop := fun xs H Q => ∃ (x : V) (d : PyData), xs = [x] ∧ Dp K H x d ∧ d.showable = true ∧ d.hasDict = false ∧ d.depth ≤ 60 ∧ d.shown.length ≤ sizeLine ∧ Q (.str d.shown) H
section
variable {X : Cx}
theorem call_reprD (hg : X.A.guards = some []) (hu : X.A.units + 64 < cLine) : CallR X (.builtin "repr") (rReprD X.K) := by
  intro pins s σ H xs us Q I r h
  obtain ⟨x, d, rfl, hd, hs, hn, hdp, hz, q⟩ := h
  obtain ⟨u, rfl, rx⟩ := vals1 r
  obtain ⟨as, rd⟩ := Dp.reads I d x u hd rx
  have fin : ∀ h' u2 tk, (∀ b o, s.heap.get? b = some o → h'.get? b = some o) → EP X pins σ Q (.str d.shown u2) { s with heap := h', toks := tk } := fun h' u2 tk k =>
    ⟨.str d.shown, H, I.kept (t' := tk) k, ⟨u2, rfl⟩, q⟩
  cases hd with
  | non =>
    cases rx
    rw [PyData.shown] at q
    exact PySem.P.repr_of_none ⟨.str "None", H, I.tok _, ⟨_, rfl⟩, q⟩
  | bl b =>
    cases rx
    rw [PyData.shown] at q
    exact PySem.P.repr_of_bool ⟨.str _, H, I.tok _, ⟨_, rfl⟩, q⟩
  | int i =>
    obtain ⟨t, rfl⟩ := rx
    rw [PyData.shown] at q
    exact PySem.P.repr_of_int (by simpa [PyData.showable] using hs) ⟨.str _, H, I.tok _, ⟨_, rfl⟩, q⟩
  | str z =>
    obtain ⟨t, rfl⟩ := rx
    rw [PyData.shown] at q hz
    exact PySem.P.repr_of_str ⟨.str _, H, I.tok _, ⟨_, rfl⟩, q⟩ hz
  | lst _ _ =>
    cases rx
    exact repr_of_reads' rd hs (PyData.noDict_hsm hn) hg (by omega) (fun _ _ e => e) fin hz
  | tup _ _ =>
    cases rx
    exact repr_of_reads' rd hs (PyData.noDict_hsm hn) hg (by omega) (fun _ _ e => e) fin hz
end
theorem reprK (K : PySem.W.Frag) {X : Cx} (hg : X.A.guards = some []) (hu : X.A.units + 64 < cLine) (h : X.K = K := by rfl) : CallR X (.builtin "repr") (rReprD K) := h ▸ call_reprD hg hu
end G9

set_option Elab.async false
set_option linter.all false
set_option maxRecDepth 100000
set_option maxHeartbeats 4000000
/-! what stays over a step of the law; dict of pairs (v, 0) -/
namespace G9
open PySem PySem.Spec PyProof.Rows L2 GX
structure Wk (d cs : Addr) (H H' : Hp) : Prop where
  src : SrcAt H' d cs
  lx : LX cs H H'
  tb : ∀ P, GxR.TabG H P → GxR.TabG H' P
section
variable {d cs : Addr} {H H' H2 : Hp}
theorem wk_same (hs : SrcAt H d cs) (s : Same H H') : Wk d cs H H' := ⟨hs.same s, lx_same s, (kb_same s).2⟩
theorem wk_kb (hs : SrcAt H d cs) (s : Kb H H') : Wk d cs H H' := ⟨hs.kb s, lx_kb s, s.2⟩
theorem wk_rn (hs : SrcAt H d cs) (hs' : SrcAt H' d cs) (rn : Rn d cs H H') : Wk d cs H H' := by
  obtain ⟨zs, l, m, u, hd, hcs, _⟩ := id hs
  refine ⟨hs', ⟨rn.kt hs, fun b xs n e => rn b _ (ne_of e hd fun z => by cases z) n e⟩, fun P ⟨ps, e, t⟩ => ⟨ps, rn _ _ (ne_of e hd fun z => by cases z) (ne_of e hcs fun z => by cases z) e, t⟩⟩
theorem Wk.tr (h : Wk d cs H H') (g : Wk d cs H' H2) : Wk d cs H H2 := ⟨g.src, h.lx.trans g.lx, fun P e => g.tb P (h.tb P e)⟩
theorem Wk.same (h : Wk d cs H H') (s : Same H' H2) : Wk d cs H H2 := h.tr (wk_same h.src s)
theorem Wk.kb (h : Wk d cs H H') (s : Kb H' H2) : Wk d cs H H2 := h.tr (wk_kb h.src s)
theorem Wk.rn (h : Wk d cs H H') (hs : SrcAt H2 d cs) (r : Rn d cs H' H2) : Wk d cs H H2 := h.tr (wk_rn h.src hs r)
end
theorem Wk.refl {d cs : Addr} {H : Hp} (h : SrcAt H d cs) : Wk d cs H H := ⟨h, .refl _ _, fun _ e => e⟩
def pr0 (v : Int) : Key × V := (.inl v, .int 0)
theorem put0_in {us : List Int} {v : Int} (h : v ∈ us) : putK (us.map pr0) (.inl v) (.int 0) = us.map pr0 := by
  unfold putK
  have a : ((us.map pr0).any fun kv => decide (kv.1 = Sum.inl v)) = true := by
    rw [List.any_map, List.any_eq_true]
    exact ⟨v, h, decide_eq_true rfl⟩
  rw [if_pos a, List.map_map]
  refine List.map_congr_left fun u hu => ?_
  show (if (Sum.inl u : Key) = Sum.inl v then _ else pr0 u) = pr0 u
  by_cases e : (Sum.inl u : Key) = Sum.inl v
  · rw [if_pos e]
    unfold pr0
    rw [e]
  · rw [if_neg e]
theorem put0_new {us : List Int} {v : Int} (h : v ∉ us) : putK (us.map pr0) (.inl v) (.int 0) = (us ++ [v]).map pr0 := by
  unfold putK
  have a : ¬ ((us.map pr0).any fun kv => decide (kv.1 = Sum.inl v)) = true := by
    rw [List.any_map, List.any_eq_true]
    rintro ⟨u, hu, e⟩
    have e2 : (Sum.inl u : Key) = Sum.inl v := of_decide_eq_true e
    exact h (Sum.inl.inj e2 ▸ hu)
  rw [if_neg a, List.map_append]
  rfl
theorem merge0 : ∀ (vals us : List Int), us.Nodup → ∃ ws : List Int, mergeK (us.map pr0) (vals.map pr0) = ws.map pr0 ∧ ws.Nodup ∧ ∀ x, x ∈ ws ↔ x ∈ us ∨ x ∈ vals
  | [], us, nd => ⟨us, rfl, nd, fun x => by simp⟩
  | v :: vals, us, nd => by
    by_cases h : v ∈ us
    · obtain ⟨ws, e, n2, m⟩ := merge0 vals us nd
      refine ⟨ws, ?_, n2, fun x => ?_⟩
      · show mergeK (putK (us.map pr0) (.inl v) (.int 0)) (vals.map pr0) = _
        rw [put0_in h]
        exact e
      · rw [m x, List.mem_cons]
        constructor
        · rintro (z | z)
          · exact .inl z
          · exact .inr (.inr z)
        · rintro (z | z | z)
          · exact .inl z
          · exact .inl (z ▸ h)
          · exact .inr z
    · obtain ⟨ws, e, n2, m⟩ := merge0 vals (us ++ [v]) (nodup_snoc nd h)
      refine ⟨ws, ?_, n2, fun x => ?_⟩
      · show mergeK (putK (us.map pr0) (.inl v) (.int 0)) (vals.map pr0) = _
        rw [put0_new h]
        exact e
      · rw [m x, List.mem_append, List.mem_singleton, List.mem_cons]
        constructor
        · rintro ((z | z) | z)
          · exact .inl z
          · exact .inr (.inl z)
          · exact .inr (.inr z)
        · rintro (z | z | z)
          · exact .inl (.inl z)
          · exact .inl (.inr z)
          · exact .inr z
theorem inc_of {l : List Int} (nd : l.Nodup) (le : l.Pairwise (· ≤ ·)) : l.Pairwise (· < ·) := by
  induction l with
  | nil => exact .nil
  | cons a l ih =>
    obtain ⟨a1, a2⟩ := List.pairwise_cons.mp le
    obtain ⟨n1, n2⟩ := List.nodup_cons.mp nd
    refine List.pairwise_cons.mpr ⟨fun x hx => ?_, ih n2 a2⟩
    have := a1 x hx
    have ne : a ≠ x := fun z => n1 (z ▸ hx)
    omega
/-- the drawn puzzles of this law -/
structure Pd (p : Puz) : Prop where
  ok : PzOk p
  n1 : 1 ≤ p.doms.length
  n6 : p.doms.length ≤ 6
  r8 : p.rules.length ≤ 8
  dom : ∀ e ∈ p.doms, e.Nodup ∧ (∀ v ∈ e, Few v) ∧ e.length ≤ 3 ∧ ∀ v ∈ e, 0 ≤ v ∧ v < 4
  rul : ∀ r ∈ p.rules, RulNum r ∧ (Rul.cells r).length ≤ 8
theorem Pd.ans {p : Puz} (h : Pd p) : (answersOf p).length ≤ 729 := by
  refine Nat.le_trans (List.length_filter_le _ _) (Nat.le_trans (rowsOf_three _ _ rfl fun e he => (h.dom e he).2.2.1) ?_)
  exact Nat.le_trans (Nat.pow_le_pow_right (by decide) h.n6) (by decide)
theorem Pd.row {p : Puz} (h : Pd p) : ∀ r ∈ answersOf p, r.length ≤ 8 ∧ ∀ v ∈ r, Few v := fun r hr => by
  have h6 := h.n6
  exact ⟨by rw [ans_len hr]; omega, rowsOf_all _ _ rfl (fun e he => (h.dom e he).2.1) r (List.mem_filter.mp hr).1⟩
end G9

set_option Elab.async false
set_option linter.all false
set_option maxRecDepth 100000
set_option maxHeartbeats 16000000
/-! the law's told_right -/
namespace G9
open PySem PySem.Spec PyProof.Rows L2 GX
/-- a def with its promise -/
structure Fn (P : Program) (w : World) (K : PySem.W.Frag) (mg : Str → Option Value) (base : Heap) (x : Str) (st : Stmt) (ps : List Str) (k : Nat) (sp : Sp) (f : Addr) (fd : FuncData) : Prop where
  D : Df K mg x st ps f fd
  G : FnOk P w K mg base CX0 k f fd ps sp
abbrev nmTold : List Str := ["_law_source", "_law_puzzle", "_law_rows_here", "_law_part", "_law_cell", "_law_told", "_law_due", "_law_values", "_law_common_here", "_law_is_in", "_law_row", "_law_free", "_law_pair", "_law_one", "_law_other"]
def spTold (pT : Addr) : Sp := fun vs H Q _ => ∃ (d cs : Addr) (u : V) (p : Puz) (l : Addr), vs = [.ref d, u, .ref l] ∧ SrcAt H d cs ∧ PzH H u p ∧ Pd p ∧ LA cs H l (answersOf p) ∧ GxR.TabG H pT ∧ ∀ H', Wk d cs H H' → Q (.bl true) H'
theorem in_common {p : Puz} {r0 : List Int} {rest : List (List Int)} {f : List (Int × Int)} (h : answersOf p = r0 :: rest) (pk : PartOk p f) : (f.all fun q => decide (q ∈ pairsAt r0 (nI (sameOf (answersOf p) r0)))) = decide (withOf p f = answersOf p) := by
  have r0m : r0 ∈ answersOf p := by rw [h]; exact List.mem_cons_self ..
  have r0n := ans_len r0m
  by_cases g : withOf p f = answersOf p
  · rw [decide_eq_true g, List.all_eq_true]
    intro q hq
    have all : ∀ row ∈ answersOf p, row.getD q.1.toNat 0 = q.2 := fun row hr => by
      have h1 : row ∈ withOf p f := by rw [g]; exact hr
      have h2 := (List.mem_filter.mp h1).2
      exact of_decide_eq_true (List.all_eq_true.mp h2 q hq)
    obtain ⟨c0, c1⟩ := pk.cell q hq
    refine decide_eq_true ?_
    unfold pairsAt
    refine List.mem_map.mpr ⟨q.1, ?_, ?_⟩
    · unfold nI sameOf
      refine List.mem_map.mpr ⟨q.1.toNat, List.mem_filter.mpr ⟨List.mem_range.mpr (by omega), ?_⟩, Int.toNat_of_nonneg c0⟩
      refine List.all_eq_true.mpr fun row hr => decide_eq_true ?_
      rw [all row hr, all r0 r0m]
    · rw [all r0 r0m]
  · rw [decide_eq_false g]
    refine Bool.eq_false_iff.mpr fun z => g ?_
    unfold withOf
    rw [List.filter_eq_self]
    intro row hr
    refine List.all_eq_true.mpr fun q hq => decide_eq_true ?_
    have m := of_decide_eq_true (List.all_eq_true.mp z q hq)
    unfold pairsAt at m
    obtain ⟨c, hc, e⟩ := List.mem_map.mp m
    unfold nI sameOf at hc
    obtain ⟨j, hj, rfl⟩ := List.mem_map.mp hc
    have sj := List.all_eq_true.mp (List.mem_filter.mp hj).2 row hr
    rw [← e]
    exact of_decide_eq_true sj
theorem with_nil (p : Puz) : withOf p [] = answersOf p := by
  unfold withOf
  rw [List.filter_eq_self]
  intro row _
  rfl
theorem free_any (p : Puz) (row : List Int) (c : Nat) : decide ((answersOf p).filter (fun o => decide (o.getD c 0 ≠ row.getD c 0)) ≠ []) = isFree p row c := by
  unfold isFree
  generalize answersOf p = l
  induction l with
  | nil => rfl
  | cons a l ih =>
    rw [List.any_cons, ← ih]
    by_cases h : a.getD c 0 = row.getD c 0
    · simp [h]
    · simp [h]
theorem dupB {R F : Bool → Hp → Prop} {G : Prop} (h : (∀ v H, F v H → R v H) → G) (r : ∀ v H, F v H → R v H) : G := h r
theorem dupW {R F : V → Prop} {G : Prop} (h : (∀ v, F v → R v) → G) (r : ∀ v, F v → R v) : G := h r
def firstD : List (List Int) → PyData
  | [] => .none
  | r :: _ => dI r
def FirstH (H : Hp) (w : V) (rows : List (List Int)) : Prop := match rows with
  | [] => w = .non
  | r :: _ => IH H w r
theorem FirstH.dp {K : PySem.W.Frag} {H : Hp} {w : V} {rows : List (List Int)} (h : FirstH H w rows) : Dp K H w (firstD rows) := by
  cases rows with
  | nil =>
    cases (show w = V.non from h)
    exact .non
  | cons r t => exact IH.dp (show IH H w r from h)
theorem FirstH.kt {H H' : Hp} {w : V} {rows : List (List Int)} (h : FirstH H w rows) (k : Kt H H') : FirstH H' w rows := by
  cases rows with
  | nil => exact h
  | cons r t => exact IH.kt k (show IH H w r from h)
noncomputable def toldDt (p : Puz) (f : List (Int × Int)) : PyData := .list [dRows (answersOf p), .int ((answersOf p).length : Nat), firstD (answersOf p), dRows ((answersOf p).take 2), dRows (withOf p f)]
theorem told_sm {p : Puz} (pd : Pd p) (f : List (Int × Int)) : Sm (toldDt p f) 60 (2 ^ 20) := by
  have a := pd.ans
  have rw1 := pd.row
  have h1 : Sm (dRows (answersOf p)) 2 191002 := (sm_rows rw1 0).mono (Nat.le_refl _) (by omega)
  have h2 : Sm (.int ((answersOf p).length : Nat)) 2 30 := sm_int (by omega) (by omega) 2
  have h3 : Sm (firstD (answersOf p)) 2 260 := by
    cases e : answersOf p with
    | nil => exact (sm_none 2).mono (Nat.le_refl _) (by decide)
    | cons r t =>
      have := rw1 r (by rw [e]; exact List.mem_cons_self ..)
      exact sm_dI this.2 this.1 1
  have h4 : Sm (dRows ((answersOf p).take 2)) 2 528 := (sm_rows (fun r hr => rw1 r (List.take_subset _ _ hr)) 0).mono (Nat.le_refl _) (by rw [List.length_take]; omega)
  have hw : (withOf p f).length ≤ (answersOf p).length := by
    unfold withOf
    exact List.length_filter_le _ _
  have h5 : Sm (dRows (withOf p f)) 2 191002 := (sm_rows (rows := withOf p f) (fun r hr => rw1 r (List.mem_filter.mp hr).1) 0).mono (Nat.le_refl _) (by omega)
  exact (SmA.list (.cons h1 (.cons h2 (.cons h3 (.cons h4 (.cons h5 (SmA.nil (w := 0)))))))).mono (by decide) (by decide)
def P2 (H : Hp) (x : V) (v : Int) : Prop := ∃ t, x = .ref t ∧ H t = some (.tup [.int v, .int 0])
theorem P2.kt {H H' : Hp} {x : V} {v : Int} (h : P2 H x v) (k : Kt H H') : P2 H' x v := let ⟨t, e, q⟩ := h; ⟨t, e, k _ _ q⟩
theorem p2_refs {K : PySem.W.Frag} {H : Hp} : ∀ {xs : List V} {vals : List Int}, Paired (P2 H) xs vals → ∃ ps : List Addr, xs = ps.map V.ref ∧ Paired (fun p kv => SqT K H p [kV kv.1, kv.2]) ps (vals.map pr0)
  | [], [], .nil => ⟨[], rfl, .nil⟩
  | x :: xs, v :: vals, .cons ⟨t, e, q⟩ r => by
    obtain ⟨ps, e2, r2⟩ := p2_refs (K := K) r
    exact ⟨t :: ps, by rw [e, e2]; rfl, .cons (sqt q) r2⟩
theorem tie_mem (q : Int × Int) (l : List (Int × Int)) : decide (tie2 q ∈ l.map tie2) = decide (q ∈ l) := by
  refine decide_eq_decide.mpr ⟨fun h => ?_, fun h => List.mem_map.mpr ⟨q, h, rfl⟩⟩
  obtain ⟨z, hz, e⟩ := List.mem_map.mp h
  obtain ⟨a, b⟩ := q
  obtain ⟨c, d⟩ := z
  unfold tie2 at e
  simp only [List.cons.injEq, and_true] at e
  obtain ⟨rfl, rfl⟩ := e
  exact hz
theorem CommonV.kt {H H' : Hp} {w : V} {rows : List (List Int)} (h : CommonV H w rows) (k : Kt H H') : CommonV H' w rows := by
  rcases h with h | ⟨b, r0, rs, h1, h2, h3⟩
  · exact .inl h
  · exact .inr ⟨b, r0, rs, h1, h2, RowsH.kt k h3⟩
theorem cmp_none : Cmp .none := ⟨rfl, by unfold PyData.depth; omega⟩
theorem eqv_none : PyData.eqv .none .none = true := by unfold PyData.eqv; rfl
section
variable {P : Program} {w : World} {K : PySem.W.Frag} {mg : Str → Option Value} {base : Heap} {pT : Addr} {fA fCt fFi fSe fAW fAV fCo fFo fFr fPi fWi fDp fLC f : Addr} {dA dCt dFi dSe dAW dAV dCo dFo dFr dPi dWi dDp dLC fd : FuncData}
theorem ok_told (B : Bl mg) (D : Df K mg "_law_told_right" sTold ["_law_source", "_law_puzzle", "_law_rows_here"] f fd)
    (FA : Fn P w K mg base "answers" sAnswers ["puzzle"] 12 (spAnswers pT) fA dA)
    (FCt : Fn P w K mg base "answer_count" sCount ["puzzle"] 14 (spCount pT) fCt dCt)
    (FFi : Fn P w K mg base "first_answer" sFirst ["puzzle"] 14 (spFirst pT) fFi dFi)
    (FSe : Fn P w K mg base "settled" sSettled ["puzzle"] 14 (spSettled pT) fSe dSe)
    (FAW : Fn P w K mg base "answers_with" sAnsWith ["puzzle", "part"] 14 (spAnsWith pT) fAW dAW)
    (FAV : Fn P w K mg base "answer_values" sAnsVals ["puzzle", "c"] 14 (spAnsVals pT) fAV dAV)
    (FCo : Fn P w K mg base "common_part" sCommon ["puzzle"] 16 (spCommon pT) fCo dCo)
    (FFo : Fn P w K mg base "is_forced" sForced ["puzzle", "part"] 16 (spForced pT) fFo dFo)
    (FFr : Fn P w K mg base "free_cells" sFree ["puzzle", "answer"] 14 (spFree pT) fFr dFr)
    (FPi : Fn P w K mg base "_law_pick" sPick ["_law_source", "_law_most"] 1 spPick fPi dPi)
    (FWi : Fn P w K mg base "_law_with" sWith ["_law_puzzle", "_law_part"] 7 spWith fWi dWi)
    (FDp : Fn P w K mg base "_law_draw_part" sDrawPart ["_law_source", "_law_puzzle", "_law_most"] 5 spDrawPart fDp dDp)
    (FLC : Fn P w K mg base "_law_common" sLCommon ["_law_rows_here"] 1 spLCommon fLC dLC) : FnG P w K mg base 17 f fd ["_law_source", "_law_puzzle", "_law_rows_here"] (spTold pT) := by
  refine fnG_of D.F scTold (fun vs H Q E h => ?_) (fun cdv A outer s H vs Q E hr hA0 h => ?_)
  · obtain ⟨d, cs, u, p, l, rfl, _⟩ := h
    rfl
  · obtain ⟨d, cs, u, p, l, rfl, hs, hp, pd, ra, hT, k⟩ := h
    have hu := hr.units
    have hg : (A.deeper (envOfC "_law_told_right" (defScope sTold) s.heap.objs.size f cdv)).guards = some [] := hA0
    refine ⟨_, (pss_cons (ps_asg (pe_tup (pa_cons (pe_call FDp.G (hr.mono (by decide)) (by rfl) FDp.D.g FDp.D.F.kp FDp.D.b .nil pass0 (pa_cons (pv 0) (pa_cons (pv 1) (pa_cons pe_int pa_nil)))) (pa_cons (pe_call FPi.G (hr.mono (by decide)) (by rfl) FPi.D.g FPi.D.F.kp FPi.D.b .nil pass0 (pa_cons (pv 0) (pa_cons (pe_callB call_len_seq (by rfl) B.len PySem.boot_len (pa_cons (pe_ix ix_tup (pv 1) pe_int (fun _ _ => rfl)) pa_nil)) pa_nil))) pa_nil))) (pg_tupK K (n := 2) rfl (pgs_cons (pg_name (i := 3) scTold.nd rfl (by first | exact .inl rfl | exact .inr rfl)) (pgs_cons (pg_name (i := 4) scTold.nd rfl (by first | exact .inl rfl | exact .inr rfl)) pgs_nil))))
      (pss_cons (ps_set (i := 5) scTold.nd rfl (by first | exact .inl rfl | exact .inr rfl) (pe_lst (pa_cons (pe_call FA.G (hr.mono (by decide)) (by rfl) FA.D.g FA.D.F.kp FA.D.b .nil pass0 (pa_cons (pv 1) pa_nil)) (pa_cons (pe_call FCt.G (hr.mono (by decide)) (by rfl) FCt.D.g FCt.D.F.kp FCt.D.b .nil pass0 (pa_cons (pv 1) pa_nil)) (pa_cons (pe_call FFi.G (hr.mono (by decide)) (by rfl) FFi.D.g FFi.D.F.kp FFi.D.b .nil pass0 (pa_cons (pv 1) pa_nil)) (pa_cons (pe_call FSe.G (hr.mono (by decide)) (by rfl) FSe.D.g FSe.D.F.kp FSe.D.b .nil pass0 (pa_cons (pv 1) pa_nil)) (pa_cons (pe_call FAW.G (hr.mono (by decide)) (by rfl) FAW.D.g FAW.D.F.kp FAW.D.b .nil pass0 (pa_cons (pv 1) (pa_cons (pv 3) pa_nil))) pa_nil)))))))
      (pss_cons (ps_set (i := 6) scTold.nd rfl (by first | exact .inl rfl | exact .inr rfl) (pe_lst (pa_cons (pe_callTy call_tuple_of (by rfl) B.tuple PyProof.Rows.boot_tuple (pa_cons (pv 2) pa_nil)) (pa_cons (pe_callB call_len_seq (by rfl) B.len PySem.boot_len (pa_cons (pv 2) pa_nil)) (pa_cons (pe_ifExp (pt_cmpR (neDD K hu) (pv 2) (pe_lst pa_nil) (nomark _)) (pe_ix ix_list (pv 2) pe_int (fun _ _ => rfl)) pe_non) (pa_cons (pe_callTy call_tuple_of (by rfl) B.tuple PyProof.Rows.boot_tuple (pa_cons (pe_slice sl_list (pv 2) po_none (po_some pe_int)) pa_nil)) (pa_cons (pe_callTy call_tuple_of (by rfl) B.tuple PyProof.Rows.boot_tuple (pa_cons (pe_call FWi.G (hr.mono (by decide)) (by rfl) FWi.D.g FWi.D.F.kp FWi.D.b .nil pass0 (pa_cons (pv 1) (pa_cons (pv 3) pa_nil))) pa_nil)) pa_nil)))))))
      (pss_cons (ps_if (pt_cmpR op_ne (pe_callB (call_reprD hg hu) (by rfl) B.repr PyProof.Rows.boot_repr (pa_cons (pv 5) pa_nil)) (pe_callB (call_reprD hg hu) (by rfl) B.repr PyProof.Rows.boot_repr (pa_cons (pv 6) pa_nil)) (nomark _)) (pss_one (ps_ret pe_bl)) pss_nil)
      (pss_cons (ps_set (i := 7) scTold.nd rfl (by first | exact .inl rfl | exact .inr rfl) (pe_callB cr_sortedI (by rfl) B.sorted PyProof.Rows.boot_sorted (pa_cons (pe_callTy (call_listD rfl) (by rfl) B.list PyProof.Rows.boot_list (pa_cons (pe_callTy (call_dictP rfl) (by rfl) B.dict PyProof.Rows.boot_dict (pa_cons (pe_lc (own := [("_law_row", 10)]) rfl scTold.nd (pi_list (pv 2)) (blkOk_by (N := nmTold) (sc := defScope sTold) (by decide +kernel)) (fun _ _ _ _ _ => (pg_name (i := 10) scTold.nd rfl (by first | exact .inl rfl | exact .inr rfl))) (fun _ _ _ _ _ => pts_nil) (fun _ _ _ _ _ => (pe_tup (pa_cons (pe_ix (ixT K) (pv 10) (pv 4) (fun _ _ => rfl)) (pa_cons pe_int pa_nil))))) pa_nil)) pa_nil)) pa_nil)))
      (pss_cons (ps_set (i := 8) scTold.nd rfl (by first | exact .inl rfl | exact .inr rfl) (pe_call FLC.G (hr.mono (by decide)) (by rfl) FLC.D.g FLC.D.F.kp FLC.D.b .nil pass0 (pa_cons (pv 2) pa_nil)))
      (pss_cons (ps_set (i := 9) scTold.nd rfl (by first | exact .inl rfl | exact .inr rfl) (pe_or (pe_cmp (pc_isN (pv 8))) (pe_one (pe_callB (cr_all rfl) (by rfl) B.all PyProof.Rows.boot_all (pa_cons (pe_lc (own := [("_law_pair", 12)]) rfl scTold.nd (pi_tup (pv 3)) (blkOk_by (N := nmTold) (sc := defScope sTold) (by decide +kernel)) (fun _ _ _ _ _ => (pg_name (i := 12) scTold.nd rfl (by first | exact .inl rfl | exact .inr rfl))) (fun _ _ _ _ _ => pts_nil) (fun _ _ _ _ _ => (pe_cmpR (inDD K hu) (pv 12) (pv 8) (by rfl)))) pa_nil)))))
      (pss_cons (ps_if (pw_or (pt_cmpR (neDD K hu) (pe_call FAV.G (hr.mono (by decide)) (by rfl) FAV.D.g FAV.D.F.kp FAV.D.b .nil pass0 (pa_cons (pv 1) (pa_cons (pv 4) pa_nil))) (pe_callTy call_tuple_of (by rfl) B.tuple PyProof.Rows.boot_tuple (pa_cons (pv 7) pa_nil)) (nomark _)) (pw_or1 (pt_cmpR (neDD K hu) (pe_call FCo.G (hr.mono (by decide)) (by rfl) FCo.D.g FCo.D.F.kp FCo.D.b .nil pass0 (pa_cons (pv 1) pa_nil)) (pv 8) (nomark _)))).pt (pss_one (ps_ret pe_bl)) pss_nil)
      (pss_cons (ps_if (pt_cmpR op_ne (pe_callB (call_reprD hg hu) (by rfl) B.repr PyProof.Rows.boot_repr (pa_cons (pe_lst (pa_cons (pe_call FFo.G (hr.mono (by decide)) (by rfl) FFo.D.g FFo.D.F.kp FFo.D.b .nil pass0 (pa_cons (pv 1) (pa_cons (pv 3) pa_nil))) (pa_cons (pe_call FFo.G (hr.mono (by decide)) (by rfl) FFo.D.g FFo.D.F.kp FFo.D.b .nil pass0 (pa_cons (pv 1) (pa_cons (pe_tup pa_nil) pa_nil))) pa_nil))) pa_nil)) (pe_callB (call_reprD hg hu) (by rfl) B.repr PyProof.Rows.boot_repr (pa_cons (pe_lst (pa_cons (pv 9) (pa_cons pe_bl pa_nil))) pa_nil)) (nomark _)) (pss_one (ps_ret pe_bl)) pss_nil)
      (pss_cons (ps_for PassesOwn.never rfl (pi_list (pe_slice sl_list (pv 2) po_none (po_some pe_int))) (pg_name (i := 10) scTold.nd rfl (by first | exact .inl rfl | exact .inr rfl)) (pss_cons (ps_setLc (i := 11) (own := [("_law_one", 13)]) rfl scTold.nd rfl rfl (sw_true rfl rfl rfl (by decide +kernel)) (pi_range1 (by rfl) B.range (pa_cons (pe_callB call_len_seq (by rfl) B.len PySem.boot_len (pa_cons (pv 10) pa_nil)) pa_nil)) (blkOk_by (N := nmTold) (sc := defScope sTold) (by decide +kernel)) (fun _ _ _ _ _ => (pg_name (i := 13) scTold.nd rfl (by first | exact .inl rfl | exact .inr rfl))) (fun _ _ _ _ _ => (pts_one (pt_cmpR (neDD K hu) (pe_lc (own := [("_law_other", 14)]) rfl scTold.nd (piL K (pv 2)) (blkOk_by rfl) (fun _ _ _ _ _ => (pg_name (i := 14) scTold.nd rfl (by first | exact .inl rfl | exact .inr rfl))) (fun _ _ _ _ _ => (pts_one (pt_cmpR op_ne (pe_ix (ixT K) (pv 14) (pv 13) (fun _ _ => rfl)) (pe_ix (ixT K) (pv 10) (pv 13) (fun _ _ => rfl)) (nomark _)))) (fun _ _ _ _ _ => (pv 14))) (pe_lst pa_nil) (nomark _)))) (fun _ _ _ _ _ => (pv 13)))
      (pss_one (ps_if (pt_cmpR (neDD K hu) (pe_call FFr.G (hr.mono (by decide)) (by rfl) FFr.D.g FFr.D.F.kp FFr.D.b .nil pass0 (pa_cons (pv 1) (pa_cons (pv 10) pa_nil))) (pe_callTy call_tuple_of (by rfl) B.tuple PyProof.Rows.boot_tuple (pa_cons (pv 11) pa_nil)) (nomark _)) (pss_one (ps_ret pe_bl)) pss_nil))))
      (pss_one (ps_ret pe_bl)))))))))))), ?_⟩
    have wk0 := Wk.refl hs
    obtain ⟨a, px, py, rfl, ha, hx, hy⟩ := id hp
    obtain ⟨xa, xvs, rfl, hxa, pxs⟩ := id hx
    have xl := pxs.length
    have n1 := pd.n1
    have n6 := pd.n6
    have a729 := pd.ans
    -- a part, a cell
    refine ⟨_, rfl, _, rfl, d, cs, .ref a, p, 3, rfl, hs, hp, pd.ok, by decide, by decide, fun wf fp H1 okf hs1 rn1 hf1 => ?_⟩
    have w1 := wk0.rn hs1 rn1
    refine ⟨_, rfl, _, rfl, a, _, 0, _, rfl, rfl, sqt (w1.lx.kt _ _ ha), rfl, xa, _, rfl, .inr (sqt (w1.lx.kt _ _ hxa)), d, cs, _, rfl, hs1, by omega, fun r H2 e0 e1 hs2 rn2 => ⟨(show 2 ≤ sizeLine by decide), fun T0 hT0 => ?_⟩⟩
    have rb : 0 ≤ r ∧ r < (p.doms.length : Int) := by
      rw [xl] at e0 e1
      by_cases z : (p.doms.length : Int) < 2
      · have := e0 z
        omega
      · exact e1 (by omega)
    refine ⟨T0, _, rfl, sqt upd_same, rfl, _, _, rfl, _, _, rfl, rfl, ?_⟩
    have s3 := same_new (o := .tup [wf, .int r]) hT0
    have w3 := (w1.rn hs2 rn2).same s3
    have hf3 : RowsH (upd H2 T0 (.tup [wf, .int r])) wf (fp.map tie2) := RowsH.kt (kt_same s3) (RowsH.kt (Rn.kt hs1 rn2) hf1)
    clear s3
    generalize upd H2 T0 (.tup [wf, .int r]) = H3 at w3 hf3 ⊢
    clear hT0 rn2 hs2 rn1 hs1 w1 hf1
    have hp3 := hp.kt w3.lx.kt
    have ra3 := ra.lx w3.lx
    have t3 := w3.tb _ hT
    -- what is told
    refine ⟨_, rfl, .ref a, p, rfl, hp3, pd.ok, t3, fun wa H4 kb4 ha4 => ?_⟩
    have v4 := (Wk.refl w3.src).kb kb4
    refine ⟨_, rfl, .ref a, p, rfl, hp3.kt v4.lx.kt, pd.ok, v4.tb _ t3, fun H5 kb5 => ?_⟩
    have v5 := v4.kb kb5
    refine ⟨_, rfl, .ref a, p, rfl, hp3.kt v5.lx.kt, pd.ok, v5.tb _ t3, fun wf6 H6 kb6 hf6 => ?_⟩
    have v6 := v5.kb kb6
    have hf6' : FirstH H6 wf6 (answersOf p) := by
      unfold FirstH
      cases e : answersOf p with
      | nil =>
        rw [e] at hf6
        exact hf6
      | cons r t =>
        rw [e] at hf6
        exact hf6
    refine ⟨_, rfl, .ref a, p, rfl, hp3.kt v6.lx.kt, pd.ok, v6.tb _ t3, fun ws7 H7 kb7 hs7 => ?_⟩
    have v7 := v6.kb kb7
    refine ⟨_, rfl, _, rfl, .ref a, p, wf, fp, rfl, hp3.kt v7.lx.kt, pd.ok, RowsH.kt v7.lx.kt hf3, okf.nd, okf.len, v7.tb _ t3, fun wa8 H8 kb8 ha8 => ⟨(show 5 ≤ sizeLine by decide), fun L5 hL5 => ?_⟩⟩
    rw [ans_cut okf fun e he => (pd.dom e he).1] at ha8
    have s9 := same_new (o := .lst [wa, .int (((answersOf p).length : Nat) : Int), wf6, ws7, wa8]) hL5
    have v9 := (v7.kb kb8).same s9
    have k9 := kt_same s9
    have g1 := ((((ha4.kt (kt_kb kb5)).kt (kt_kb kb6)).kt (kt_kb kb7)).kt (kt_kb kb8)).kt k9
    have g3 := ((hf6'.kt (kt_kb kb7)).kt (kt_kb kb8)).kt k9
    have g4 := (hs7.kt (kt_kb kb8)).kt k9
    have g5 := ha8.kt k9
    have hL9 : upd H8 L5 (.lst [wa, .int (((answersOf p).length : Nat) : Int), wf6, ws7, wa8]) L5 = some (.lst [wa, .int (((answersOf p).length : Nat) : Int), wf6, ws7, wa8]) := upd_same
    have nL5 : L5 ≠ cs := ((v7.kb kb8).src.none hL5).2
    clear s9 k9 v4 v5 v6 v7 kb4 kb5 kb6 kb7 kb8 ha4 hf6 hf6' hs7 ha8
    generalize upd H8 L5 (.lst [wa, .int (((answersOf p).length : Nat) : Int), wf6, ws7, wa8]) = H9 at v9 g1 g3 g4 g5 hL9 ⊢
    clear hL5
    -- what is due
    have hp9 := hp3.kt v9.lx.kt
    have ra9 := ra3.lx v9.lx
    have hf9 := RowsH.kt v9.lx.kt hf3
    have t9 := v9.tb _ t3
    have w9 := w3.tr v9
    obtain ⟨rvs, hrv, prv⟩ := ra9.at
    have rvl := prv.length
    have nl := ra9.ne
    refine ⟨_, rfl, l, rvs, rfl, .inl ⟨sql hrv, fun T1 hT1 => ?_⟩⟩
    have s10 := same_new (o := .tup rvs) hT1
    refine ⟨_, rfl, l, _, rfl, .inl (sql (s10 _ _ hrv)), ?_⟩
    refine ⟨_, rfl, by decide, fun M hM => ?_⟩
    have s11 := Same.tr s10 (same_new (o := .lst []) hM)
    have hT11 := same_new (o := .lst []) hM _ _ (upd_same (H := H9) (a := T1) (o := .tup rvs))
    refine ⟨.list ((answersOf p).map dI), .list (([] : List (List Int)).map dI), (ra9.lx (lx_same s11)).rows.dp, .lst (sql upd_same) .nil, cmp_lrows _, cmp_lrows [], _, rfl, ?_⟩
    rw [eqv_lrows]
    have w11 := w9.same s11
    have v11 := (Wk.refl w9.src).same s11
    clear s10 s11
    generalize upd (upd H9 T1 (.tup rvs)) M (.lst []) = H11 at w11 v11 hT11 ⊢
    apply dupW (F := fun w' => FirstH H11 w' (answersOf p))
    · intro rest
      by_cases em : answersOf p = []
      rotate_left
      · refine ifT (by rw [decide_eq_false em]; rfl) ?_
        obtain ⟨r0, rs, er⟩ : ∃ r0 rs, answersOf p = r0 :: rs := by
          cases e : answersOf p with
          | nil => exact absurd e em
          | cons r t => exact ⟨r, t, rfl⟩
        obtain ⟨x0, hx0, i0⟩ := paired_at' prv (show (answersOf p)[0]? = some r0 by rw [er]; rfl)
        refine ⟨_, rfl, l, _, 0, _, rfl, rfl, sql (v11.lx.ls _ _ nl hrv), (L2.atI_nat (j := 0) hx0 : atI rvs ((0 : Nat) : Int) = _), ?_⟩
        exact rest x0 (by unfold FirstH; rw [er]; exact i0.kt v11.lx.kt)
      · refine ifF (by rw [decide_eq_true em]; rfl) ?_
        exact rest .non (by unfold FirstH; rw [em])
    intro wf2 gf
    refine ⟨_, rfl, 2, rfl, l, _, rfl, sql (v11.lx.ls _ _ nl hrv), fun S hS => ⟨S, _, rfl, .inl ⟨sql upd_same, fun T3 hT3 => ?_⟩⟩⟩
    rw [cut_take _ (by decide : (0 : Int) ≤ 2)] at hT3 ⊢
    have s13 : Same H11 (upd (upd H11 S (.lst (rvs.take (2 : Int).toNat))) T3 (.tup (rvs.take (2 : Int).toNat))) := fun b o e => upd_at hT3 (upd_at hS e)
    have hT13 : upd (upd H11 S (.lst (rvs.take (2 : Int).toNat))) T3 (.tup (rvs.take (2 : Int).toNat)) T3 = some (.tup (rvs.take 2)) := upd_same
    have v13 := v11.same s13
    have gf13 := gf.kt (kt_same s13)
    have hT1_13 := s13 _ _ hT11
    clear s13
    generalize upd (upd H11 S (.lst (rvs.take (2 : Int).toNat))) T3 (.tup (rvs.take (2 : Int).toNat)) = H13 at v13 hT13 gf13 hT1_13 ⊢
    refine ⟨_, rfl, _, rfl, .ref a, p, wf, fp, rfl, hp9.kt v13.lx.kt, pd.ok, RowsH.kt v13.lx.kt hf9, okf.cell, okf.len, fun lw H14 s14 nlw hlw => ?_⟩
    obtain ⟨lw', wvs, ew, hwv, pwv⟩ := hlw
    cases ew
    refine ⟨lw, wvs, rfl, .inl ⟨sql hwv, fun T4 hT4 => ⟨(show 5 ≤ sizeLine by decide), fun L6 hL6 => ?_⟩⟩⟩
    have s15 : Same H13 (upd (upd H14 T4 (.tup wvs)) L6 (.lst [.ref T1, .int ((rvs.length : Nat) : Int), wf2, .ref T3, .ref T4])) := fun b o e => upd_at hL6 (upd_at hT4 (s14 b o e))
    have v15 := v13.same s15
    have k15 := kt_same s15
    have hL6' : upd (upd H14 T4 (.tup wvs)) L6 (.lst [.ref T1, .int ((rvs.length : Nat) : Int), wf2, .ref T3, .ref T4]) L6 = some (.lst [.ref T1, .int ((rvs.length : Nat) : Int), wf2, .ref T3, .ref T4]) := upd_same
    have i1 : RowsH (upd (upd H14 T4 (.tup wvs)) L6 (.lst [.ref T1, .int ((rvs.length : Nat) : Int), wf2, .ref T3, .ref T4])) (.ref T1) (answersOf p) := ⟨T1, rvs, rfl, k15 _ _ hT1_13, paired_mono (fun _ _ q => IH.kt v15.lx.kt q) prv⟩
    have i3 := gf13.kt k15
    have i4 : RowsH (upd (upd H14 T4 (.tup wvs)) L6 (.lst [.ref T1, .int ((rvs.length : Nat) : Int), wf2, .ref T3, .ref T4])) (.ref T3) ((answersOf p).take 2) := ⟨T3, rvs.take 2, rfl, k15 _ _ hT13, by
      have z := paired_sub 0 2 prv
      rw [List.drop_zero, List.drop_zero] at z
      exact paired_mono (fun _ _ q => IH.kt v15.lx.kt q) z⟩
    have i5 : RowsH (upd (upd H14 T4 (.tup wvs)) L6 (.lst [.ref T1, .int ((rvs.length : Nat) : Int), wf2, .ref T3, .ref T4])) (.ref T4) (withOf p fp) := ⟨T4, wvs, rfl, upd_at hL6 upd_same, paired_mono (fun _ _ q => (IH.kt (kt_same (same_new hT4)) q).kt (kt_same (same_new hL6))) pwv⟩
    clear s15 k15 s14
    rw [rvl] at hL6' v15 i1 i3 i4 i5 ⊢
    generalize upd (upd H14 T4 (.tup wvs)) L6 (.lst [.ref T1, .int (((answersOf p).length : Nat) : Int), wf2, .ref T3, .ref T4]) = H15 at v15 hL6' i1 i3 i4 i5 ⊢
    obtain ⟨f1, f2, f3, f4⟩ := (told_sm pd fp).fits (by decide) (by decide)
    have kt15 := v15.lx.kt
    refine ⟨_, rfl, .ref L5, toldDt p fp, rfl, .lst (sql (v15.lx.ls _ _ nL5 hL9)) (.cons (RowsH.kt kt15 g1).dp (.cons (.int _) (.cons (g3.kt kt15).dp (.cons (RowsH.kt kt15 g4).dp (.cons (RowsH.kt kt15 g5).dp .nil))))), f1, f2, f3, f4, ?_⟩
    refine ⟨_, rfl, .ref L6, toldDt p fp, rfl, .lst (sql hL6') (.cons i1.dp (.cons (.int _) (.cons i3.dp (.cons i4.dp (.cons i5.dp .nil))))), f1, f2, f3, f4, rfl, _, rfl, ?_⟩
    refine ifF (by simp) ?_
    have w15 := w9.tr v15
    have hp15 := hp9.kt v15.lx.kt
    have ra15 := ra9.lx v15.lx
    have hf15 := RowsH.kt v15.lx.kt hf9
    have t15 := v15.tb _ t9
    clear i1 i3 i4 i5 kt15 hL6' v15 v13 v11 w11 w9 v9 gf13 gf hT13 hT1_13 hT11 g1 g3 g4 g5 hL9 hp9 ra9 hf9 t9 hrv prv hwv pwv hL6 hT4 hT3 hS
    -- the values of the cell
    obtain ⟨rvs, hrv, prv⟩ := ra15.at
    have rvl := prv.length
    have v0 := Wk.refl w15.src
    refine ⟨_, rfl, l, rfl, ⟨_, sql hrv⟩, fun L hL => ?_⟩
    refine lc_it (walk_list (K := K) (a := l) (xs := rvs)) (fun i H' => ∃ acc, H' L = some (.lst acc) ∧ Paired (P2 H') acc (((answersOf p).take i).map fun row => row.getD r.toNat 0) ∧ Same H15 H') ⟨[], upd_same, .nil, same_new hL⟩ (fun i H' _ h => ?_) (fun i x H' H'' hi h y => ?_) (fun H16 h => ?_)
    · obtain ⟨_, _, _, s⟩ := h
      exact sql (s _ _ hrv)
    · obtain ⟨rfl, hx⟩ := y
      obtain ⟨acc, hA, pA, s⟩ := h
      obtain ⟨row, hrow, ir⟩ := paired_at prv hx
      obtain ⟨rwa, rfl, hrwa⟩ := ir
      have rl := ans_len (List.mem_of_getElem? hrow)
      have al := pA.length
      rw [List.length_map, List.length_take] at al
      refine ⟨rfl, _, rfl, _, rfl, rwa, _, r, _, rfl, rfl, sqt (s _ _ hrwa), pick_at (vals := row) (cs := [r]) (fun z hz => by rw [List.mem_singleton.mp hz, rl]; exact rb) (List.mem_singleton.mpr rfl), (show 2 ≤ sizeLine by decide), fun T hT => ?_⟩
      have hA2 := upd_at (o := .tup [.int (row.getD r.toNat 0), .int 0]) hT hA
      refine ⟨acc, hA2, by rw [sizeLine_eq]; omega, acc ++ [.ref T], upd_same, ?_, fun b o e => ?_⟩
      · rw [List.take_add_one, hrow, List.map_append]
        exact paired_app (paired_mono (fun _ _ q => (P2.kt q (kt_same (same_new hT))).kt (ktL hA2)) pA) (paired_one ⟨T, rfl, ktL hA2 _ _ upd_same⟩)
      · rw [upd_ne (fun z => by rw [z, hL] at e; cases e)]
        exact upd_at hT (s _ _ e)
    obtain ⟨acc, hA, pA, s16⟩ := h
    rw [rvl, List.take_length] at pA
    obtain ⟨ps, eps, pps⟩ := p2_refs (K := K) pA
    obtain ⟨ws, ews, wnd, wmem⟩ := merge0 ((answersOf p).map fun row => row.getD r.toNat 0) [] List.nodup_nil
    refine ⟨L, ps, _, rfl, by rw [← eps]; exact sql hA, pps, fun Dd hDd => ?_⟩
    rw [show mergeK [] (((answersOf p).map fun row => row.getD r.toNat 0).map pr0) = ws.map pr0 from ews]
    refine ⟨Dd, _, rfl, .inl upd_same, fun L2 hL2 => ?_⟩
    rw [show ((ws.map pr0).map fun kv => kV kv.1) = ws.map V.int from by rw [List.map_map]; rfl]
    refine ⟨L2, ws, rfl, sql upd_same, fun ns L3 pm le hL3 => ?_⟩
    have s17 : Same H15 (upd (upd (upd H16 Dd (.dK (ws.map pr0))) L2 (.lst (ws.map V.int))) L3 (.lst (ns.map V.int))) := fun b o e => upd_at hL3 (upd_at hL2 (upd_at hDd (s16 b o e)))
    have hL3' : upd (upd (upd H16 Dd (.dK (ws.map pr0))) L2 (.lst (ws.map V.int))) L3 (.lst (ns.map V.int)) L3 = some (.lst (ns.map V.int)) := upd_same
    have v17 := v0.same s17
    have nL3 : L3 ≠ cs := by
      have z : Wk d cs H15 (upd (upd H16 Dd (.dK (ws.map pr0))) L2 (.lst (ws.map V.int))) := v0.same fun b o e => upd_at hL2 (upd_at hDd (s16 b o e))
      exact (z.src.none hL3).2
    have nsI : ns.Pairwise (· < ·) := inc_of (pm.nodup_iff.mpr wnd) le
    have nsM : ∀ v, v ∈ ns ↔ ∃ row ∈ answersOf p, row.getD r.toNat 0 = v := fun v => by
      rw [pm.mem_iff, wmem v, List.mem_map]
      simp
    clear s17 s16 pps pA hA eps hL2 hDd wmem ews wnd pm le
    generalize upd (upd (upd H16 Dd (.dK (ws.map pr0))) L2 (.lst (ws.map V.int))) L3 (.lst (ns.map V.int)) = H17 at v17 hL3' ⊢
    clear hL3 hL
    -- what is in all
    refine ⟨_, rfl, l, answersOf p, p.doms.length, rfl, (ra15.lx v17.lx).rows, fun r hr => ans_len hr, by omega, by omega, fun wc H18 s18 gc => ?_⟩
    have v18 := v17.same s18
    have hL18 := s18 _ _ hL3'
    clear s18 hL3' v17
    generalize hval : ns.map V.int = nvs at hL18
    obtain ⟨fa, fvs, rfl, hfa, pfa⟩ := RowsH.kt v18.lx.kt hf15
    have fvl := pfa.length
    rw [List.length_map] at fvl
    have fl1 := okf.len
    apply dupB (F := fun b H' => Same H18 H' ∧ b = decide (withOf p fp = answersOf p))
    · intro rest
      refine ⟨_, rfl, ?_⟩
      rcases id gc with ⟨e1, e2⟩ | ⟨b, r0, rs, er, ew, hr⟩
      rotate_left
      · refine ⟨_, rfl, ifF (decide_eq_false (by rw [ew]; exact fun z => nomatch z)) ?_⟩
        refine ⟨_, rfl, fa, rfl, ⟨_, sqt hfa⟩, fun L hL => ?_⟩
        refine lc_it (walk_tup (xs := fvs)) (fun m H' => H' L = some (.lst (((fp.take m).map fun q => decide (q ∈ pairsAt r0 (nI (sameOf (answersOf p) r0)))).map V.bl)) ∧ Same H18 H') ⟨upd_same, same_new hL⟩ (fun m H' _ h => ?_) (fun m x H' H'' hm h y => ?_) (fun H' h => ?_)
        · exact sqt (h.2 _ _ hfa)
        · obtain ⟨rfl, hx⟩ := y
          obtain ⟨hA, s⟩ := h
          obtain ⟨q, hq, iq⟩ := paired_at pfa hx
          obtain ⟨q0, hq0, rfl⟩ : ∃ q0, fp[m]? = some q0 ∧ q = tie2 q0 := by
            rw [List.getElem?_map] at hq
            cases e : fp[m]? with
            | none => rw [e] at hq; cases hq
            | some q0 => rw [e] at hq; exact ⟨q0, rfl, (Option.some.inj hq).symm⟩
          refine ⟨rfl, _, rfl, _, rfl, dI (tie2 q0), _, (iq.kt (kt_same s)).dp, .inl (RowsH.kt (kt_same s) hr).dp, cmp_dI _, canAll_rows _, ?_⟩
          rw [GX.any_rows, tie_mem]
          refine ⟨_, hA, ?_, ?_, fun b' o e => ?_⟩
          · rw [List.length_map, List.length_map, List.length_take, sizeLine_eq]
            omega
          · rw [upd_same, List.take_add_one, hq0, List.map_append, List.map_append]
            rfl
          · rw [upd_ne (fun z => by rw [z, hL] at e; cases e)]
            exact s _ _ e
        · obtain ⟨hA, s⟩ := h
          rw [fvl, List.take_length] at hA
          refine ⟨L, _, rfl, sql hA, ?_⟩
          have hb : (fp.map fun q => decide (q ∈ pairsAt r0 (nI (sameOf (answersOf p) r0)))).all id = decide (withOf p fp = answersOf p) := by
            rw [List.all_map]
            exact in_common er okf
          generalize (fp.map fun q => decide (q ∈ pairsAt r0 (nI (sameOf (answersOf p) r0)))).all id = bb at hb ⊢
          clear hA
          generalize H' = H19 at s ⊢
          exact rest bb H19 ⟨s, hb⟩
      · refine ⟨_, rfl, ifT (decide_eq_true e2) ?_⟩
        exact rest true H18 ⟨same_refl _, by
          have z : withOf p fp = answersOf p := by
            unfold withOf
            rw [e1]
            rfl
          rw [decide_eq_true z]⟩
    intro bin H19 hbin
    obtain ⟨s19, hbin⟩ := hbin
    have v19 := v18.same s19
    have hL19 := s19 _ _ hL18
    have gc19 := gc.kt (kt_same s19)
    clear s19 hL18 gc v18 hfa pfa
    have hp19 := hp15.kt v19.lx.kt
    have ra19 := ra15.lx v19.lx
    have hf19 := RowsH.kt v19.lx.kt hf15
    have t19 := v19.tb _ t15
    have w19 := w15.tr v19
    refine ⟨_, rfl, _, rfl, .ref a, p, r, rfl, hp19, pd.ok, (fun e he => ⟨(pd.dom e he).2.2.1, (pd.dom e he).2.2.2⟩), n6, rb.1, rb.2, t19, fun wk ks H20 kb20 ksI ksM hk => ?_⟩
    have x20 := (Wk.refl w19.src).kb kb20
    refine ⟨_, rfl, L3, nvs, rfl, .inl ⟨sql (x20.lx.ls _ _ nL3 hL19), fun T hT => ?_⟩⟩
    have s21 := same_new (o := .tup nvs) hT
    refine ⟨dI ks, dI ns, (hk.kt (kt_same s21)).dp, (show IH _ _ ns from ⟨T, rfl, by rw [hval]; exact upd_same⟩).dp, cmp_dI _, cmp_dI _, _, rfl, ?_⟩
    rw [eqv_dI, decide_eq_true (inc_eq ksI nsI fun v => by rw [ksM v, nsM v])]
    refine ifF rfl ?_
    have x21 := x20.same s21
    have gc21 := (gc19.kt x20.lx.kt).kt (kt_same s21)
    clear x20 s21 hk
    generalize upd H20 T (.tup nvs) = H21 at x21 gc21 ⊢
    clear hT
    have hp21 := hp19.kt x21.lx.kt
    have t21 := x21.tb _ t19
    apply dupH (F := fun H' => Kb H21 H')
    · intro rest
      refine ⟨_, rfl, .ref a, p, rfl, hp21, pd.ok, t21, fun H' kb e => ?_, fun w' ks' row rs H' kb e lt mem hr _ => ?_⟩
      rotate_left
      · rcases gc21 with ⟨e1, _⟩ | ⟨b, r0, rs2, er, ew, hr2⟩
        · rw [e1] at e
          cases e
        · rw [e] at er
          obtain ⟨rfl, rfl⟩ := List.cons.inj er
          refine ⟨_, rfl, dRows ((pairsAt row ks').map tie2), dRows ((pairsAt row (nI (sameOf (answersOf p) row))).map tie2), hr.dp, (RowsH.kt (kt_kb kb) hr2).dp, cmp_rows _, cmp_rows _, _, rfl, ?_⟩
          rw [eqv_rows, ks_same lt mem, decide_eq_true rfl]
          refine ifF rfl ?_
          exact rest H' kb
      · rcases gc21 with ⟨_, ew⟩ | ⟨b, r0, rs2, er, _, _⟩
        rotate_left
        · rw [e] at er
          cases er
        · refine ⟨_, rfl, .none, .none, .non, by rw [ew]; exact .non, cmp_none, cmp_none, _, rfl, ?_⟩
          rw [eqv_none]
          refine ifF rfl ?_
          exact rest H' kb
    intro H22 kb22
    have x22 := x21.kb kb22
    clear kb22 x21 hp21 t21 gc21 gc19
    -- what is forced
    have hp22 := hp19.kt x22.lx.kt
    have t22 := x22.tb _ t19
    refine ⟨_, rfl, _, rfl, .ref a, p, .ref fa, fp, rfl, hp22, pd.ok, RowsH.kt x22.lx.kt hf19, okf.nd, okf.len, t22, fun H23 kb23 => ?_⟩
    have x23 := x22.kb kb23
    refine ⟨_, rfl, by decide, fun T hT => ?_⟩
    have x24 := x23.same (same_new (o := .tup []) hT)
    have hE : RowsH (upd H23 T (.tup [])) (.ref T) (([] : List (Int × Int)).map tie2) := ⟨T, [], rfl, upd_same, .nil⟩
    generalize upd H23 T (.tup []) = H24 at x24 hE ⊢
    clear hT
    refine ⟨.ref a, p, .ref T, [], rfl, hp19.kt x24.lx.kt, pd.ok, hE, List.nodup_nil, by decide, x24.tb _ t19, fun H25 kb25 => ⟨(show 2 ≤ sizeLine by decide), fun LL hLL => ?_⟩⟩
    have eb1 : decide ((answersOf (cutP p fp)).length = (answersOf p).length) = bin := by rw [ans_cut okf fun e he => (pd.dom e he).1, forced_iff, hbin]
    have eb2 : decide ((answersOf (cutP p [])).length = (answersOf p).length) = true := by
      rw [ans_cut (show PartOk p [] from ⟨List.nodup_nil, fun q hq => (List.not_mem_nil hq).elim, fun q hq => (List.not_mem_nil hq).elim, Nat.zero_le _⟩) fun e he => (pd.dom e he).1, with_nil]
      exact decide_eq_true rfl
    have x25 := x24.kb kb25
    rw [eb1, eb2]
    have s26 := same_new (o := .lst [.bl bin, .bl true]) hLL
    have x26 := x25.same s26
    obtain ⟨g1, g2, g3, g4⟩ := ((SmA.list (.cons (sm_bool bin 1) (.cons (sm_bool true 1) (SmA.nil (w := 0)))))).fits (by decide) (by decide)
    refine ⟨.ref LL, .list [.bool bin, .bool true], rfl, .lst (sql upd_same) (.cons (.bl _) (.cons (.bl _) .nil)), g1, g2, g3, g4, ?_⟩
    refine ⟨_, rfl, ⟨(show 2 ≤ sizeLine by decide), fun L8 hL8 => ?_⟩⟩
    have x27 := x26.same (same_new (o := .lst [.bl bin, .bl true]) hL8)
    refine ⟨.ref L8, .list [.bool bin, .bool true], rfl, .lst (sql upd_same) (.cons (.bl _) (.cons (.bl _) .nil)), g1, g2, g3, g4, rfl, _, rfl, ?_⟩
    refine ifF (by simp) ?_
    clear s26 x26 x25 x24 x23 x22 kb25 kb23 hE hp22 t22
    generalize upd (upd H25 LL (.lst [.bl bin, .bl true])) L8 (.lst [.bl bin, .bl true]) = H27 at x27 ⊢
    clear hL8 hLL
    have hp27 := hp19.kt x27.lx.kt
    have ra27 := ra19.lx x27.lx
    have t27 := x27.tb _ t19
    have w27 := w19.tr x27
    clear x27 v19 hp19 ra19 hf19 t19 w19 hp15 ra15 hf15 t15 w15 hrv prv rvl v0
    -- three rows
    obtain ⟨rv7, hrv, prv⟩ := ra27.at
    refine ⟨_, rfl, 3, rfl, l, _, rfl, sql hrv, fun S hS => ?_⟩
    rw [cut_take _ (by decide : (0 : Int) ≤ 3)]
    have nS := (w27.src.none hS).2
    have x28 := w27.same (same_new (o := .lst (rv7.take 3)) hS)
    refine ⟨S, rfl, ⟨_, sql upd_same⟩, for_it (walk_list (K := K) (a := S) (xs := rv7.take 3)) (fun i σ H' => ∃ o10 o11, σ = [some (.ref d), some (.ref a), some (.ref l), some (.ref fa), some (.int r), some (.ref L5), some (.ref L6), some (.ref L3), some wc, some (.bl bin), o10, o11, none, none, none] ∧ Wk d cs H27 H' ∧ H' S = some (.lst (rv7.take 3)))
      ⟨none, none, rfl, (Wk.refl w27.src).same (same_new hS), upd_same⟩ (fun i σ H' _ h => ?_) (fun i x σ H' H'' hi h y => ?_) (fun σ H' h => ?_)⟩
    · obtain ⟨_, _, _, _, h⟩ := h
      exact sql h
    · obtain ⟨rfl, hx⟩ := y
      obtain ⟨o10, o11, rfl, y1, hS1⟩ := h
      rw [List.getElem?_take] at hx
      have hx : rv7[i]? = some x := by
        split at hx
        · exact hx
        · cases hx
      obtain ⟨row, hrow, ir⟩ := paired_at prv hx
      have rm := List.mem_of_getElem? hrow
      have rl := ans_len rm
      obtain ⟨rw0, rfl, hrw⟩ := ir.kt y1.lx.kt
      refine ⟨_, rfl, rw0, _, rfl, .inr (sqt hrw), _, rfl, by rw [List.length_map]; omega, by rw [List.length_map]; omega, fun L hL => ?_⟩
      rw [List.length_map]
      have sAt : ∀ (q : List Int) (m : Nat), q.length = p.doms.length → m < p.doms.length → atI (q.map V.int) ((m : Nat) : Int) = some (V.int (q.getD m 0)) := fun q m e1 e2 => by
        refine _root_.L2.atI_nat ?_
        rw [List.getElem?_map, List.getElem?_eq_getElem (by omega), List.getD_eq_getElem?_getD, List.getElem?_eq_getElem (by omega)]
        rfl
      refine lc_it (walk_range (lo := 0) (n := ((row.length : Nat) : Int).toNat)) (fun m H3 => H3 L = some (.lst ((nI ((List.range m).filter fun c => isFree p row c)).map V.int)) ∧ Same H'' H3) ⟨upd_same, same_new hL⟩ (fun m H3 _ h => trivial) (fun m x H3 H4 hm h y => ?_) (fun H3 h => ?_)
      · obtain ⟨rfl, rfl⟩ := y
        obtain ⟨hA, s3⟩ := h
        have ml : m < row.length := by rw [Int.toNat_natCast] at hm; exact hm
        have y3 := y1.same s3
        have hrv3 := y3.lx.ls _ _ ra27.ne hrv
        have prv3 := paired_mono (fun _ _ q => IH.kt y3.lx.kt q) prv
        rw [show ((fun i : Nat => V.int (0 + (i : Int))) m) = V.int (m : Int) from congrArg V.int (Int.zero_add _)]
        refine ⟨rfl, _, rfl, l, rfl, ⟨_, sql hrv3⟩, fun L2 hL2 => ?_⟩
        refine lc_filt (i := 14) (Pred := fun o => decide (o.getD m 0 ≠ row.getD m 0)) (walk_list (K := K) (a := l) (xs := rv7)) hL2 rfl (fun H' s => sql (s _ _ hrv3)) prv3 (by omega) (fun H6 acc s6 hLk pLk => ?_) ?_ ?_ (fun m' x row' H5 C hrow' s5 ir' k3 => ?_)
        rotate_left
        · exact fun _ => rfl
        · exact fun _ => rfl
        · obtain ⟨rowA, rfl, hrowA⟩ := ir'
          have rlen := ans_len (List.mem_of_getElem? hrow')
          refine ⟨_, rfl, _, rfl, rowA, _, ((m : Nat) : Int), _, rfl, rfl, sqt hrowA, sAt row' m rlen (by omega), _, rfl, _, rfl, rw0, _, ((m : Nat) : Int), _, rfl, rfl, sqt (s5 _ _ (s3 _ _ hrw)), sAt row m rl (by omega), rfl, _, rfl, ?_⟩
          have z := k3 H5 (same_refl H5)
          have e : (decide (row'.getD m 0 ≠ row.getD m 0)) = !decide (V.int (row'.getD m 0) = V.int (row.getD m 0)) := by
            by_cases h : row'.getD m 0 = row.getD m 0 <;> simp [h]
          rw [e] at z
          exact z
        · have sM0 := s6
          refine ⟨by decide, fun M hM => ?_⟩
          have sM := same_new (o := .lst []) hM
          refine ⟨.list (((answersOf p).filter fun o => decide (o.getD m 0 ≠ row.getD m 0)).map dI), .list (([] : List (List Int)).map dI), LRows.dp ⟨L2, acc, rfl, sM _ _ hLk, paired_mono (fun _ _ q => IH.kt (kt_same sM) q) pLk⟩, .lst (sql upd_same) .nil, cmp_lrows _, cmp_lrows [], _, rfl, ?_⟩
          rw [eqv_lrows]
          have ef : (!decide ((answersOf p).filter (fun o => decide (o.getD m 0 ≠ row.getD m 0)) = [])) = isFree p row m := by
            rw [← free_any]
            by_cases h : (answersOf p).filter (fun o => decide (o.getD m 0 ≠ row.getD m 0)) = []
            · rw [decide_eq_true h, decide_eq_false (fun z => z h)]
              rfl
            · rw [decide_eq_false h, decide_eq_true h]
              rfl
          rw [ef]
          have hA7 := sM _ _ (s6 _ _ hA)
          have s7 := Same.tr s3 (Same.tr s6 sM)
          have al : (((nI ((List.range m).filter fun c => isFree p row c))).map V.int).length ≤ m := by
            unfold nI
            rw [List.length_map, List.length_map]
            exact Nat.le_trans (List.length_filter_le _ _) (by rw [List.length_range]; exact Nat.le_refl _)
          by_cases h : isFree p row m = true
          · refine ifT h ⟨_, rfl, _, hA7, by rw [sizeLine_eq]; omega, ?_, fun b o e => ?_⟩
            · rw [upd_same, List.range_succ, List.filter_append]
              unfold nI
              simp [h]
            · rw [upd_ne (fun z => by rw [z, hL] at e; cases e)]
              exact s7 _ _ e
          · have h' : isFree p row m = false := by simpa using h
            refine ifF h' ⟨?_, s7⟩
            rw [hA7, List.range_succ, List.filter_append]
            simp [h']
      · obtain ⟨hA, s3⟩ := h
        rw [Int.toNat_natCast] at hA
        have y3 := y1.same s3
        refine ⟨_, rfl, _, rfl, .ref a, p, .ref rw0, row, rfl, hp27.kt y3.lx.kt, pd.ok, ⟨rw0, rfl, s3 _ _ hrw⟩, rl, y3.tb _ t27, fun wx H4 kb4 hwx => ?_⟩
        have y4 := y3.kb kb4
        refine ⟨_, rfl, L, _, rfl, .inl ⟨sql (kb4.1 _ _ (fun _ z => by cases z) hA), fun T hT => ?_⟩⟩
        refine ⟨dI _, dI (nI ((List.range row.length).filter fun c => isFree p row c)), (hwx.kt (kt_same (same_new hT))).dp, IH.dp ⟨T, rfl, upd_same⟩, cmp_dI _, cmp_dI _, _, rfl, ?_⟩
        rw [eqv_dI]
        refine ifF (by rw [show nI (freeOf p row) = nI ((List.range row.length).filter fun c => isFree p row c) from rfl, decide_eq_true rfl]; rfl) ?_
        exact ⟨_, _, rfl, y4.same (same_new hT), upd_at hT (kb4.1 _ _ (fun _ z => by cases z) (s3 _ _ hS1))⟩
    · obtain ⟨o10, o11, rfl, y1, _⟩ := h
      exact k _ (w27.tr y1)
end
end G9

set_option Elab.async false
set_option linter.all false
set_option maxRecDepth 100000
set_option maxHeartbeats 4000000
/-! a tuple turned round, xs[::-1] -/
namespace HT
open PySem PyProof.Rows
section
open PySem.SeqAt
open PySem.AutoSeq1 (wpAny_loadPart')
open PySem.MeetsSeq PySem.MeetsSeq2 PySem.MeetsSeq3
variable {prog : Program} {w : World} {A : Around} {E : Value → Shared → Prop} {s : Shared}
/-- where a walk backwards over n begins and ends, and how many it meets -/
theorem back_ends (n : Nat) : Builtin.Slice.sliceAdjust none none (-1) n = ((n : Int) - 1, -1) := by simp [Builtin.Slice.sliceAdjust]
theorem back_count (n : Nat) : Builtin.Slice.slicePlaces ((n : Int) - 1) (-1) (-1) = n := by
  have up : ¬ ((-1 : Int) > 0) := by decide
  cases n with
  | zero => rfl
  | succ m =>
    have g : (((m + 1 : Nat) : Int)) - 1 > -1 := by omega
    simp only [Builtin.Slice.slicePlaces, up, g, if_false, if_true]
    rw [show -(-1 : Int) = 1 from rfl, Int.ediv_one]
    omega
theorem back_applied {c : Addr} {st : Value} {n : Nat} {R : Int × Int × Nat → Shared → Prop} (isl : s.heap.IsSliceOf c .none .none st) (neg : IsPart st (some (-1))) (r : R ((n : Int) - 1, -1, n) s) :
    wpAny (model prog w) A (Builtin.Slice.sliceApplied (.ref c) (pure (n : Int))) R E s := by
  obtain ⟨o, at_, _, fl⟩ := isl
  have zero : ¬ (((-1 : Int) == 0) = true) := by decide
  delta Builtin.Slice.sliceApplied Builtin.Slice.sliceFields
  -- its three parts
  apply wpAny_bind
  apply wpAny_bind
  refine wpAny_field at_ fl (x := .none) rfl ?_
  apply wpAny_bind
  refine wpAny_field at_ fl (x := .none) rfl ?_
  apply wpAny_bind
  refine wpAny_field at_ fl (x := st) rfl (wpAny_pure ?_)
  -- the step, then both ends
  apply wpAny_bind
  refine slicePart_ neg ?_
  change wpAny _ _ (ite (((-1 : Int) == 0) = true) _ _) _ _ s
  rw [if_neg zero]
  apply wpAny_bind
  apply slicePart_none
  apply wpAny_bind
  apply slicePart_none
  apply wpAny_bind
  apply wpAny_pure
  have e := back_ends n
  change wpAny _ _ (pure ((Builtin.Slice.sliceAdjust none none (-1) (n : Int)).1, (-1 : Int), Builtin.Slice.slicePlaces (Builtin.Slice.sliceAdjust none none (-1) (n : Int)).1 (Builtin.Slice.sliceAdjust none none (-1) (n : Int)).2 (-1))) _ _ s
  rw [e]
  change wpAny _ _ (pure ((n : Int) - 1, (-1 : Int), Builtin.Slice.slicePlaces ((n : Int) - 1) (-1) (-1))) _ _ s
  rw [back_count]
  exact wpAny_pure r
theorem fm_congr {α β : Type} {f g : α → Option β} : ∀ {l : List α}, (∀ x ∈ l, f x = g x) → l.filterMap f = l.filterMap g
  | [], _ => rfl
  | a :: l, h => by
    rw [List.filterMap_cons, List.filterMap_cons, h a (List.mem_cons_self ..), fm_congr fun x hx => h x (List.mem_cons_of_mem _ hx)]
theorem pick_back (xs : Array Value) : ((List.range xs.size).filterMap fun (m : Nat) => xs[(((xs.size : Nat) : Int) - 1 + (m : Int) * (-1)).toNat]?).toArray = xs.toList.reverse.toArray := by
  have e : (List.range xs.size).filterMap (fun (m : Nat) => xs[(((xs.size : Nat) : Int) - 1 + (m : Int) * (-1)).toNat]?) = ((List.range xs.size).map fun k => xs.size - 1 - k).filterMap (xs[·]?) := by
    rw [List.filterMap_map]
    refine fm_congr fun m hm => ?_
    have := List.mem_range.mp hm
    show xs[_]? = xs[_]?
    rw [show (((xs.size : Nat) : Int) - 1 + (m : Int) * (-1)).toNat = xs.size - 1 - m by omega]
  rw [e, PySem.W.krv_range, List.filterMap_reverse, PySem.W.krv_all]
/-- t[::-1] of a tuple lays a new one -/
theorem turned_tuple {b c : Addr} {ms : Array Value} {st : Value} {R : Value → Shared → Prop} (tup : IsTup s.heap b ms) (isl : s.heap.IsSliceOf c .none .none st) (neg : IsPart st (some (-1))) (small : ms.size ≤ sizeLine)
    (r : R (.ref s.heap.objs.size) { s with heap := s.heap.push { cls := .type "tuple", data := .seq ms.toList.reverse.toArray } }) : wpAny (model prog w) A (getItem (.ref b) (.ref c)) R E s := by
  have fits : sizeOk (.seq ms.toList.reverse.toArray) := by
    change ms.toList.reverse.toArray.size ≤ sizeLine
    simpa using small
  have cut : s.TypeIs (.ref c) "slice" := let ⟨o, h, g, _⟩ := isl; ⟨o, h, g⟩
  have other : ¬ ((((ms.size : Nat) : Int) - 1 == 0 && (-1 : Int) == 1 && ms.size == ms.size) = true) := by simp
  rw [getItem]
  try refine wpAny_holding ?_
  try refine wpAny_bind (wpAny_pure ?_)
  apply wpAny_bind
  refine wpAny_sequenceKey tup.typeIs (by decide) ?_
  apply wpAny_bind
  refine wpAny_callSpecial?_slot (name := Str.ofString "__getitem__") tup.typeIs PyProof.Rows.slot_tuple_getitem ?_
  refine wpAny_call_entry PyProof.Rows.slot_tuple_getitem tup.typeIs entry_tuple_getitem ?_ (args_tuple_getitem _ _)
  change wpAny _ _ (Builtin.Tuple.tupleItemsOf (.ref b) >>= _) _ _ s
  apply wpAny_bind
  refine tupleItemsOf_ tup ?_
  apply wpAny_bind
  refine wpAny_typeOf cut ?_
  have same : (Value.type "slice" == Value.type "slice") = true := by decide
  rw [if_pos same]
  apply wpAny_bind
  refine back_applied isl neg ?_
  change wpAny _ _ (ite ((((ms.size : Nat) : Int) - 1 == 0 && (-1 : Int) == 1 && ms.size == ms.size) = true) _ _) _ _ s
  rw [if_neg other, pick_back]
  exact wpAny_bind (m := Builtin.Tuple.tupleExact _) (wpAny_newObj_type (wpAny_pure ⟨_, rfl, wpAny_pure r⟩) fits)
end
end HT
namespace L2
open PySem PySem.Spec PyProof.Rows
section
variable {X : Cx}
def tRevT (K : PySem.W.Frag) (te : TE) : TE := fun σ H Q => te σ H fun x H1 => ∃ a xs, x = .ref a ∧ SqT K H1 a xs ∧ ∀ p, H1 p = none → Q (.ref p) (upd H1 p (.tup xs.reverse))
theorem pe_revT {e : Expr} {te : TE} {k : Nat} {p1 p2 p3 pos : Pos} (he : PE X e te) : PE X (.Subscript e (.Slice none none (some (.UnaryOp .USub (.Constant (.int 1) k p1) p2)) p3) pos) (tRevT X.K te) where
  run := by
    intro pins t0 σ G0 Q inv0 hyp
    have minus : PO X (some (.UnaryOp .USub (.Constant (.int 1) k p1) p2)) (tPart (tUn (rU fun i => .int (-i)) (tC (.int 1)))) := po_some (pe_un un_neg pe_int)
    apply Subscript_
    apply thn (he.run pins t0 σ G0 _ inv0 hyp)
    rintro _ t1 ⟨_, G, inv1, rel, b, ms, rfl, at_, next⟩
    cases rel
    apply wpAny_Slice
    apply thn (po_none.run pins t1 σ G (fun o G' => o = none ∧ G' = G) inv1 ⟨rfl, rfl⟩)
    rintro lo t2 ⟨_, _, inv2, isLo, rfl, rfl⟩
    apply thn (po_none.run pins t2 σ _ (fun o G' => o = none ∧ G' = _) inv2 ⟨rfl, rfl⟩)
    rintro hi t3 ⟨_, _, inv3, isHi, rfl, rfl⟩
    apply thn (minus.run pins t3 σ _ (fun o G' => o = some (-1) ∧ G' = _) inv3 ⟨1, rfl, -1, rfl, rfl, rfl⟩)
    rintro st t4 ⟨_, G4, inv4, isSt, rfl, rfl⟩
    cases isLo
    cases isHi
    have inv5 := inv4.kept (h' := t4.heap.push { cls := .type "slice", data := .fields #[.none, .none, st] }) (t' := t4.toks) fun c ob q => Heap.get?_push_of_some _ q
    obtain ⟨us, rus, tup, small⟩ := inv5.tuple at_
    have lu := rus.length
    show wpAny (model X.prog X.w) X.A (subscriptTail e (.Slice none none (some (.UnaryOp .USub (.Constant (.int 1) k p1) p2)) p3) (.ref b) (.ref t4.heap.objs.size)) _ _ _
    refine tail_any (ops := [.ref b, .ref t4.heap.objs.size]) tup.typeIs PyProof.Rows.slot_tuple_getitem.lookup ?_ (by with_unfolding_all rfl)
    refine HT.turned_tuple tup (Heap.IsSliceOf.new _ .none .none st) isSt (by rw [List.size_toArray]; omega) ?_
    have laid := inv5.laid (t' := t4.toks) (o := .tup ms.reverse) (fun c ob q => Heap.get?_push_of_some _ q) (Nat.le_refl _) ⟨by rw [List.length_reverse]; exact small, _, rus.reverse, IsTup.new _ _⟩
    exact ⟨.ref _, _, laid, rfl, next _ (inv5.hok.fresh (Nat.le_refl _))⟩
theorem revT (K : PySem.W.Frag) {e : Expr} {te : TE} {k : Nat} {p1 p2 p3 pos : Pos} (he : PE X e te) (h : X.K = K := by rfl) : PE X (.Subscript e (.Slice none none (some (.UnaryOp .USub (.Constant (.int 1) k p1) p2)) p3) pos) (tRevT K te) := h ▸ pe_revT he
end
end L2

set_option Elab.async false
set_option linter.all false
set_option maxRecDepth 100000
set_option maxHeartbeats 16000000
/-! the law's judged_right -/
namespace G9
open PySem PySem.Spec PyProof.Rows L2 GX
abbrev nmJudged : List Str := ["_law_source", "_law_puzzle", "_law_rows_here", "_law_n", "_law_row", "_law_cell", "_law_value", "_law_near", "_law_odd", "_law_one"]
def spJudged (pJ : Addr) : Sp := fun vs H Q _ => ∃ (d cs : Addr) (u : V) (p : Puz) (l : Addr), vs = [.ref d, u, .ref l] ∧ SrcAt H d cs ∧ PzH H u p ∧ Pd p ∧ LA cs H l (answersOf p) ∧ GxR.TabG H pJ ∧ ∀ H', Wk d cs H H' → Q (.bl true) H'
/-- a tuple of at most m members, each such as is judged -/
def TM (H : Hp) (v : V) (m : Nat) : Prop := ∃ (a : Addr) (xs : List V), v = .ref a ∧ H a = some (.tup xs) ∧ xs.length ≤ m ∧ ∀ x ∈ xs, Mb H x
theorem TM.kt {H H' : Hp} {v : V} {m : Nat} (k : Kt H H') (h : TM H v m) : TM H' v m := let ⟨a, xs, e, q, l, mb⟩ := h; ⟨a, xs, e, k _ _ q, l, fun x hx => (mb x hx).kt k⟩
theorem TM.sm {H H' : Hp} {v : V} {m : Nat} (h : TM H v m) (k : Same H H') : TM H' v m := h.kt (kt_same k)
theorem IH.tm {H : Hp} {v : V} {row : List Int} {m : Nat} (h : IH H v row) (l : row.length ≤ m) : TM H v m := let ⟨a, e, q⟩ := h; ⟨a, _, e, q, by rw [List.length_map]; exact l, fun x hx => by
  obtain ⟨i, _, rfl⟩ := List.mem_map.mp hx
  exact .int i⟩
theorem cutT {K : PySem.W.Frag} {H : Hp} {x : V} {m : Nat} (hx : TM H x m) (lo hi : Option Int) {Q : VK} (k : ∀ w H', Same H H' → TM H' w m → Q w H') : rSlA K x lo hi H Q := by
  obtain ⟨a, xs, rfl, ha, l, mb⟩ := id hx
  refine ⟨a, xs, rfl, sqt ha, fun _ => k _ _ (same_refl H) hx, fun _ p hp => ?_⟩
  refine k _ _ (same_new hp) ⟨p, _, rfl, upd_same, Nat.le_trans (cutV_length xs lo hi) l, fun x hx => ?_⟩
  unfold cutV at hx
  exact (mb x (List.drop_subset _ _ (List.take_subset _ _ hx))).kt (kt_same (same_new hp))
theorem catT {K : PySem.W.Frag} {H : Hp} {x y : V} {m j : Nat} (hx : TM H x m) (hy : TM H y j) (hl : m + j ≤ 1000) {Q : VK} (k : ∀ w H', Same H H' → TM H' w (m + j) → Q w H') : rCatA K x y H Q := by
  obtain ⟨a, xs, rfl, ha, l1, m1⟩ := id hx
  obtain ⟨b, ys, rfl, hb, l2, m2⟩ := id hy
  refine ⟨a, b, xs, ys, rfl, rfl, sqt ha, sqt hb, by rw [sizeLine_eq]; omega, fun e => ?_, fun e1 e2 => ?_, fun e1 e2 p hp => ?_⟩
  · exact k _ _ (same_refl H) ⟨b, ys, rfl, hb, by omega, m2⟩
  · exact k _ _ (same_refl H) ⟨a, xs, rfl, ha, by omega, m1⟩
  · refine k _ _ (same_new hp) ⟨p, _, rfl, upd_same, by rw [List.length_append]; omega, fun x hx => ?_⟩
    rcases List.mem_append.mp hx with z | z
    · exact (m1 x z).kt (kt_same (same_new hp))
    · exact (m2 x z).kt (kt_same (same_new hp))
theorem tm_one {H : Hp} {T : Addr} {v : V} (hT : H T = none) (h : Mb H v) : TM (upd H T (.tup [v])) (.ref T) 1 := ⟨T, _, rfl, upd_same, by show 1 ≤ 1; omega, fun x hx => by
  rw [List.mem_singleton.mp hx]
  exact h.kt (kt_same (same_new hT))⟩
/-- what may be judged, away from the source -/
def JM (d cs : Addr) (H : Hp) (v : V) : Prop := ∃ jv, JV H v jv ∧ ∀ a, v = .ref a → a ≠ d ∧ a ≠ cs
theorem JM.rn {d cs : Addr} {H H' : Hp} {v : V} (hs : SrcAt H d cs) (r : Rn d cs H H') (h : JM d cs H v) : JM d cs H' v := by
  obtain ⟨jv, h, ne⟩ := h
  refine ⟨jv, ?_, ne⟩
  cases jv with
  | none =>
    rcases (show NotTup H v from h) with rfl | ⟨x, rfl⟩ | ⟨a, xs, rfl, e⟩ | ⟨a, kvs, rfl, e⟩
    · exact .inl rfl
    · exact .inr (.inl ⟨x, rfl⟩)
    · exact .inr (.inr (.inl ⟨a, xs, rfl, r _ _ (ne a rfl).1 (ne a rfl).2 e⟩))
    · exact .inr (.inr (.inr ⟨a, kvs, rfl, r _ _ (ne a rfl).1 (ne a rfl).2 e⟩))
  | some xs =>
    obtain ⟨a, rfl, e, l, mb⟩ := h
    exact ⟨a, rfl, r _ _ (ne a rfl).1 (ne a rfl).2 e, l, fun x hx => (mb x hx).kt (r.kt hs)⟩
theorem JM.sm {d cs : Addr} {H H' : Hp} {v : V} (hs : SrcAt H d cs) (k : Same H H') (h : JM d cs H v) : JM d cs H' v := h.rn hs (rn_same k)
theorem JV.kb {H H' : Hp} {v : V} {jv : Option (List V)} (k : Kb H H') (h : JV H v jv) : JV H' v jv := by
  cases jv with
  | none =>
    rcases (show NotTup H v from h) with rfl | ⟨x, rfl⟩ | ⟨a, xs, rfl, e⟩ | ⟨a, kvs, rfl, e⟩
    · exact .inl rfl
    · exact .inr (.inl ⟨x, rfl⟩)
    · exact .inr (.inr (.inl ⟨a, xs, rfl, k.1 _ _ (fun _ z => by cases z) e⟩))
    · exact .inr (.inr (.inr ⟨a, kvs, rfl, k.1 _ _ (fun _ z => by cases z) e⟩))
  | some xs =>
    obtain ⟨a, rfl, e, l, mb⟩ := h
    exact ⟨a, rfl, kt_kb k _ _ e, l, fun x hx => (mb x hx).kt (kt_kb k)⟩
theorem TM.jm {d cs : Addr} {H : Hp} {v : V} {m : Nat} (hs : SrcAt H d cs) (h : TM H v m) (hm : m ≤ 100) : JM d cs H v := by
  obtain ⟨a, xs, rfl, ha, l, mb⟩ := h
  exact ⟨some xs, ⟨a, rfl, ha, by omega, mb⟩, fun b e => by cases e; exact hs.ne ha⟩
theorem judge_sm {p : Puz} (pd : Pd p) (jv : Option (List V)) : Sm (judgeD p jv) 40 2000 := by
  have form : Sm formD 40 2000 := ((SmA.tuple (.cons (sm_str "form" 1 rfl (by decide)) (SmA.nil (w := 0))))).mono (by decide) (by decide)
  have br : ∀ ns, Sm (brokenD p ns) 40 2000 := fun ns => by
    unfold brokenD
    cases e : badCell p ns with
    | some c =>
      have := List.mem_range.mp (List.mem_of_find?_eq_some e)
      have := pd.n6
      exact ((SmA.tuple (.cons (sm_str "cell" 1 rfl (by decide)) (.cons (sm_int (v := ((c : Nat) : Int)) (by omega) (by omega) 1) (SmA.nil (w := 0)))))).mono (by decide) (by decide)
    | none =>
      cases e2 : badRule p ns with
      | some c =>
        have := List.mem_range.mp (List.mem_of_find?_eq_some e2)
        have := pd.r8
        exact ((SmA.tuple (.cons (sm_str "rule" 1 rfl (by decide)) (.cons (sm_int (v := ((c : Nat) : Int)) (by omega) (by omega) 1) (SmA.nil (w := 0)))))).mono (by decide) (by decide)
      | none => exact (sm_none 1).mono (by decide) (by decide)
  cases jv with
  | none => exact form
  | some xs =>
    show Sm (if xs.length = p.doms.length ∧ xs.all isI = true then brokenD p (xs.map toI) else formD) 40 2000
    by_cases h : xs.length = p.doms.length ∧ xs.all isI = true
    · rw [if_pos h]
      exact br _
    · rw [if_neg h]
      exact form
theorem kb_up {A B : Hp} {L : Addr} {xs ys : List V} (k : Kb A B) (hA : A L = none) (hB : B L = some (.lst xs)) : Kb A (upd B L (.lst ys)) :=
  ⟨fun b o n e => by
    rw [upd_ne (fun z => by rw [z, hA] at e; cases e)]
    exact k.1 b o n e, fun P h => by
    obtain ⟨ps, e, t⟩ := k.2 P h
    exact ⟨ps, by rw [upd_ne (fun z => by rw [z, hB] at e; cases e)]; exact e, t⟩⟩
theorem JM.ne {d cs : Addr} {H : Hp} {v : V} {L : Addr} (h : JM d cs H v) (hL : H L = none) : v ≠ .ref L := fun z => by
  obtain ⟨jv, h, _⟩ := h
  cases jv with
  | none =>
    rcases (show NotTup H v from h) with rfl | ⟨x, rfl⟩ | ⟨a, xs, rfl, e⟩ | ⟨a, kvs, rfl, e⟩
    · cases z
    · cases z
    · cases z
      rw [hL] at e
      cases e
    · cases z
      rw [hL] at e
      cases e
  | some xs =>
    obtain ⟨a, rfl, e, _⟩ := h
    cases z
    rw [hL] at e
    cases e
theorem JM.up {d cs : Addr} {H : Hp} {v : V} {L : Addr} {xs ys : List V} (h : JM d cs H v) (hL : H L = some (.lst xs)) (n : v ≠ .ref L) : JM d cs (upd H L (.lst ys)) v := by
  obtain ⟨jv, h, ne⟩ := h
  refine ⟨jv, ?_, ne⟩
  cases jv with
  | none =>
    rcases (show NotTup H v from h) with rfl | ⟨x, rfl⟩ | ⟨a, xs, rfl, e⟩ | ⟨a, kvs, rfl, e⟩
    · exact .inl rfl
    · exact .inr (.inl ⟨x, rfl⟩)
    · exact .inr (.inr (.inl ⟨a, xs, rfl, by rw [upd_ne (fun z => n (by rw [z]))]; exact e⟩))
    · exact .inr (.inr (.inr ⟨a, kvs, rfl, by rw [upd_ne (fun z => n (by rw [z]))]; exact e⟩))
  | some xs =>
    obtain ⟨a, rfl, e, l, mb⟩ := h
    exact ⟨a, rfl, ktL hL _ _ e, l, fun x hx => (mb x hx).kt (ktL hL)⟩
theorem TM.ne {H : Hp} {v : V} {m : Nat} {L : Addr} {xs : List V} (h : TM H v m) (hL : H L = some (.lst xs)) : v ≠ .ref L := fun z => by
  obtain ⟨a, ys, rfl, e, _⟩ := h
  cases z
  rw [hL] at e
  cases e
/-- a list of what is near -/
structure NL (d cs : Addr) (H : Hp) (L : Addr) (xs : List V) (m : Nat) : Prop where
  at_ : H L = some (.lst xs)
  len : xs.length ≤ m
  mem : ∀ x ∈ xs, JM d cs H x
theorem NL.rn {d cs : Addr} {H H' : Hp} {L : Addr} {xs : List V} {m : Nat} (h : NL d cs H L xs m) (hs : SrcAt H d cs) (r : Rn d cs H H') (ne : L ≠ d ∧ L ≠ cs) : NL d cs H' L xs m := ⟨r _ _ ne.1 ne.2 h.at_, h.len, fun x hx => (h.mem x hx).rn hs r⟩
theorem NL.sm {d cs : Addr} {H H' : Hp} {L : Addr} {xs : List V} {m : Nat} (h : NL d cs H L xs m) (hs : SrcAt H d cs) (k : Same H H') : NL d cs H' L xs m := ⟨k _ _ h.at_, h.len, fun x hx => (h.mem x hx).sm hs k⟩
theorem rep_rows {H : Hp} {T : Addr} {r : List Int} (h : IH H (.ref T) r) : ∀ n : Nat, Paired (IH H) (List.replicate n [V.ref T]).flatten (List.replicate n r)
  | 0 => .nil
  | n + 1 => by
    rw [List.replicate_succ, List.flatten_cons, List.replicate_succ]
    exact .cons h (rep_rows h n)
theorem paired_mem {R : V → List Int → Prop} : ∀ {xs : List V} {rows : List (List Int)}, Paired R xs rows → ∀ x ∈ xs, ∃ r ∈ rows, R x r
  | [], [], .nil, _, h => by cases h
  | x :: xs, r :: rows, .cons q p, y, h => by
    rcases List.mem_cons.mp h with rfl | z
    · exact ⟨r, List.mem_cons_self .., q⟩
    · obtain ⟨s, hs, q2⟩ := paired_mem p y z
      exact ⟨s, List.mem_cons_of_mem _ hs, q2⟩
section
variable {P : Program} {w : World} {K : PySem.W.Frag} {mg : Str → Option Value} {base : Heap} {pJ : Addr} {fPi fAn fRw fJu fFa f : Addr} {dPi dAn dRw dJu dFa fd : FuncData}
theorem ok_judged (B : Bl mg) (D : Df K mg "_law_judged_right" sJudged ["_law_source", "_law_puzzle", "_law_rows_here"] f fd)
    (FPi : Fn P w K mg base "_law_pick" sPick ["_law_source", "_law_most"] 1 spPick fPi dPi)
    (FAn : Fn P w K mg base "_law_any_order" sOrder ["_law_source", "_law_things"] 3 spOrderV fAn dAn)
    (FRw : Fn P w K mg base "_law_rows" sRows ["_law_lots"] 1 spRows fRw dRw)
    (FJu : Fn P w K mg base "judge_answer" sJudge ["puzzle", "value"] 10 (spJudge K pJ) fJu dJu)
    (FFa : Fn P w K mg base "_law_fault" sFault ["_law_puzzle", "_law_value"] 5 (spFault K) fFa dFa) : FnG P w K mg base 12 f fd ["_law_source", "_law_puzzle", "_law_rows_here"] (spJudged pJ) := by
  refine fnG_of D.F scJudged (fun vs H Q E h => ?_) (fun cdv A outer s H vs Q E hr hA0 h => ?_)
  · obtain ⟨d, cs, u, p, l, rfl, _⟩ := h
    rfl
  · obtain ⟨d, cs, u, p, l, rfl, hs, hp, pd, ra, hT, k⟩ := h
    have hu := hr.units
    have hg : (A.deeper (envOfC "_law_judged_right" (defScope sJudged) s.heap.objs.size f cdv)).guards = some [] := hA0
    refine ⟨_, (pss_cons (ps_set (i := 3) scJudged.nd rfl (by first | exact .inl rfl | exact .inr rfl) (pe_callB call_len_seq (by rfl) B.len PySem.boot_len (pa_cons (pe_ix ix_tup (pv 1) pe_int (fun _ _ => rfl)) pa_nil)))
      (pss_cons (ps_set (i := 4) scJudged.nd rfl (by first | exact .inl rfl | exact .inr rfl) (pe_ifExp (pt_cmpR (neDD K hu) (pv 2) (pe_lst pa_nil) (nomark _)) (pe_ix ix_list (pv 2) (pe_call FPi.G (hr.mono (by decide)) (by rfl) FPi.D.g FPi.D.F.kp FPi.D.b .nil pass0 (pa_cons (pv 0) (pa_cons (pe_callB call_len_seq (by rfl) B.len PySem.boot_len (pa_cons (pv 2) pa_nil)) pa_nil))) (fun _ _ => rfl)) (pe_callTy call_tuple_of (by rfl) B.tuple PyProof.Rows.boot_tuple (pa_cons (pe_op op_rep (pe_lst (pa_cons pe_int pa_nil)) (pv 3)) pa_nil))))
      (pss_cons (ps_asg (pe_tup (pa_cons (pe_call FPi.G (hr.mono (by decide)) (by rfl) FPi.D.g FPi.D.F.kp FPi.D.b .nil pass0 (pa_cons (pv 0) (pa_cons (pv 3) pa_nil))) (pa_cons (pe_call FPi.G (hr.mono (by decide)) (by rfl) FPi.D.g FPi.D.F.kp FPi.D.b .nil pass0 (pa_cons (pv 0) (pa_cons pe_int pa_nil))) pa_nil))) (pg_tupK K (n := 2) rfl (pgs_cons (pg_name (i := 5) scJudged.nd rfl (by first | exact .inl rfl | exact .inr rfl)) (pgs_cons (pg_name (i := 6) scJudged.nd rfl (by first | exact .inl rfl | exact .inr rfl)) pgs_nil))))
      (pss_cons (ps_set (i := 7) scJudged.nd rfl (by first | exact .inl rfl | exact .inr rfl) (pe_lst (pa_cons (pv 4) (pa_cons (pe_slice (slA K) (pv 4) po_none (po_some (pe_un un_neg pe_int))) (pa_cons (pe_op (catA K) (pv 4) (pe_tup (pa_cons pe_int pa_nil))) (pa_cons (pe_callTy call_list_of (by rfl) B.list PyProof.Rows.boot_list (pa_cons (pv 4) pa_nil)) (pa_cons pe_non (pa_cons (pe_tup pa_nil) (pa_cons (revT K (pv 4)) (pa_cons pe_str (pa_cons pe_dnewK pa_nil)))))))))))
      (pss_cons (ps_expr (pe_bm PySem.F.plainAttrs_list PySem.F.slot_list_append PySem.F.type_list_append mt_append (pv 7) (pa_cons (pe_op (catA K) (pe_op (catA K) (pe_slice (slA K) (pv 4) po_none (po_some (pv 5))) (pe_tup (pa_cons (pv 6) pa_nil))) (pe_slice (slA K) (pv 4) (po_some (pe_op op_add (pv 5) pe_int)) po_none)) pa_nil)))
      (pss_cons (ps_set (i := 7) scJudged.nd rfl (by first | exact .inl rfl | exact .inr rfl) (pe_op op_cat (pv 7) (pe_lc (own := [("_law_odd", 8)]) rfl scJudged.nd (piT K (pe_tup (pa_cons pe_bl (pa_cons pe_non (pa_cons pe_str (pa_cons (pe_op op_sub pe_int pe_int) (pa_cons pe_int (pa_cons (pe_tup (pa_cons pe_int pa_nil)) pa_nil)))))))) (blkOk_by (N := nmJudged) (sc := defScope sJudged) (by decide +kernel)) (fun _ _ _ _ _ => (pg_name (i := 8) scJudged.nd rfl (by first | exact .inl rfl | exact .inr rfl))) (fun _ _ _ _ _ => pts_nil) (fun _ _ _ _ _ => (pe_op (catA K) (pe_op (catA K) (pe_slice (slA K) (pv 4) po_none (po_some (pv 5))) (pe_tup (pa_cons (pv 8) pa_nil))) (pe_slice (slA K) (pv 4) (po_some (pe_op op_add (pv 5) pe_int)) po_none))))))
      (pss_cons (ps_set (i := 7) scJudged.nd rfl (by first | exact .inl rfl | exact .inr rfl) (pe_op op_cat (pv 7) (pe_slice sl_list (pe_call FAn.G (hr.mono (by decide)) (by rfl) FAn.D.g FAn.D.F.kp FAn.D.b .nil pass0 (pa_cons (pv 0) (pa_cons (pe_call FRw.G (hr.mono (by decide)) (by rfl) FRw.D.g FRw.D.F.kp FRw.D.b .nil pass0 (pa_cons (pe_op op_rep (pe_lst (pa_cons (pe_tup (pa_cons pe_int (pa_cons pe_int (pa_cons pe_int (pa_cons pe_int pa_nil))))) pa_nil)) (pe_callB (call_min2 rfl) (by rfl) B.min PyProof.Rows.boot_min (pa_cons (pv 3) (pa_cons pe_int pa_nil)))) pa_nil)) pa_nil))) po_none (po_some pe_int))))
      (pss_one (ps_ret (pe_callB (cr_all rfl) (by rfl) B.all PyProof.Rows.boot_all (pa_cons (pe_lc (own := [("_law_one", 9)]) rfl scJudged.nd (piL K (pv 7)) (blkOk_by (N := nmJudged) (sc := defScope sJudged) (by decide +kernel)) (fun _ _ _ _ _ => (pg_name (i := 9) scJudged.nd rfl (by first | exact .inl rfl | exact .inr rfl))) (fun _ _ _ _ _ => pts_nil) (fun _ _ _ _ _ => (pe_cmpR op_eq (pe_callB (reprK K hg hu) (by rfl) B.repr PyProof.Rows.boot_repr (pa_cons (pe_call FJu.G (hr.mono (by decide)) (by rfl) FJu.D.g FJu.D.F.kp FJu.D.b .nil pass0 (pa_cons (pv 1) (pa_cons (pv 9) pa_nil))) pa_nil)) (pe_callB (reprK K hg hu) (by rfl) B.repr PyProof.Rows.boot_repr (pa_cons (pe_call FFa.G (hr.mono (by decide)) (by rfl) FFa.D.g FFa.D.F.kp FFa.D.b .nil pass0 (pa_cons (pv 1) (pa_cons (pv 9) pa_nil))) pa_nil)) (nomark _)))) pa_nil))))))))))), ?_⟩
    have wk0 := Wk.refl hs
    obtain ⟨a, px, py, rfl, ha, hx, hy⟩ := id hp
    obtain ⟨xa, xvs, rfl, hxa, pxs⟩ := id hx
    have xl := pxs.length
    have n1 := pd.n1
    have n6 := pd.n6
    have a729 := pd.ans
    refine ⟨_, rfl, a, _, 0, _, rfl, rfl, sqt ha, rfl, xa, _, rfl, .inr (sqt hxa), ?_⟩
    rw [xl]
    obtain ⟨rvs, hrv, prv⟩ := ra.at
    have rvl := prv.length
    have nl := ra.ne
    refine ⟨_, rfl, by decide, fun M hM => ?_⟩
    have s1 := same_new (o := .lst []) hM
    refine ⟨.list ((answersOf p).map dI), .list (([] : List (List Int)).map dI), (ra.lx (lx_same s1)).rows.dp, .lst (sql upd_same) .nil, cmp_lrows _, cmp_lrows [], _, rfl, ?_⟩
    rw [eqv_lrows]
    have w1 := wk0.same s1
    clear s1
    generalize upd H M (.lst []) = H1 at w1 ⊢
    clear hM
    have hrv1 := w1.lx.ls _ _ nl hrv
    apply dupV (F := fun w' H' => Wk d cs H H' ∧ TM H' w' 6)
    · intro rest
      by_cases em : answersOf p = []
      rotate_left
      · refine ifT (by rw [decide_eq_false em]; rfl) ?_
        have lp : 0 < (answersOf p).length := List.length_pos_iff.mpr em
        refine ⟨_, rfl, _, rfl, _, rfl, l, rvs, rfl, .inl (sql hrv1), d, cs, _, rfl, w1.src, by omega, fun r H2 e0 e1 hs2 rn2 => ?_⟩
        have rb : 0 ≤ r ∧ r < (rvs.length : Int) := by
          by_cases z : (rvs.length : Int) < 2
          · have := e0 z
            omega
          · exact e1 (by omega)
        have w2 := w1.rn hs2 rn2
        have hrv2 := w2.lx.ls _ _ nl hrv
        obtain ⟨j, rfl⟩ : ∃ j : Nat, r = (j : Int) := ⟨r.toNat, by omega⟩
        have jl : j < rvs.length := by omega
        obtain ⟨row, hrow, ir⟩ := paired_at prv (List.getElem?_eq_getElem jl)
        have rl := ans_len (List.mem_of_getElem? hrow)
        refine ⟨l, _, _, _, rfl, rfl, sql hrv2, (_root_.L2.atI_nat (j := j) (List.getElem?_eq_getElem jl) : atI rvs ((j : Nat) : Int) = _), ?_⟩
        have ir2 := IH.tm (m := 6) (IH.kt w2.lx.kt ir) (by omega)
        generalize rvs[j] = x0 at ir2 ⊢
        exact rest x0 H2 ⟨w2, ir2⟩
      · refine ifF (by rw [decide_eq_true em]; rfl) ?_
        refine ⟨(show 1 ≤ sizeLine by decide), fun L hL => ?_⟩
        have s2 := same_new (o := .lst [.int 1]) hL
        refine ⟨_, rfl, L, _, [.int 1], rfl, rfl, upd_same, by omega, by omega, by rw [Int.toNat_natCast, sizeLine_eq]; show 1 * _ ≤ _; omega, fun L2 hL2 => ?_⟩
        have s3 := Same.tr s2 (same_new (o := .lst (List.replicate ((p.doms.length : Nat) : Int).toNat [V.int 1]).flatten) hL2)
        refine ⟨L2, _, rfl, .inl ⟨sql upd_same, fun T hT => ?_⟩⟩
        refine rest (.ref T) _ ⟨w1.same (Same.tr s3 (same_new hT)), T, _, rfl, upd_same, ?_, fun x hx => ?_⟩
        · rw [Int.toNat_natCast]
          simp
          omega
        · obtain ⟨z, hz, hx⟩ := List.mem_flatten.mp hx
          rw [(List.mem_replicate.mp hz).2] at hx
          rw [List.mem_singleton.mp hx]
          exact .int 1
    intro wr H3 hgo
    obtain ⟨w3, hr3⟩ := hgo
    clear w1
    -- the cell, the value
    refine ⟨_, rfl, _, rfl, d, cs, _, rfl, w3.src, by omega, fun c H4 e0 e1 hs4 rn4 => ⟨_, rfl, d, cs, _, rfl, hs4, by decide, fun v H5 _ _ hs5 rn5 => ⟨(show 2 ≤ sizeLine by decide), fun T hT => ?_⟩⟩⟩
    refine ⟨T, _, rfl, sqt upd_same, rfl, _, _, rfl, _, _, rfl, rfl, ?_⟩
    have cb : 0 ≤ c ∧ c < (p.doms.length : Int) := by
      by_cases z : (p.doms.length : Int) < 2
      · have := e0 z
        omega
      · exact e1 (by omega)
    have s6 := same_new (o := .tup [.int c, .int v]) hT
    have w6 := ((w3.rn hs4 rn4).rn hs5 rn5).same s6
    have hr6 := ((hr3.kt (Rn.kt w3.src rn4)).kt (Rn.kt hs4 rn5)).sm s6
    clear s6 rn4 rn5 hs4 hs5 e0 e1 hr3 w3
    generalize upd H5 T (.tup [.int c, .int v]) = H6 at w6 hr6 ⊢
    clear hT
    -- what is near
    have hs6 := w6.src
    refine ⟨_, rfl, _, rfl, ?_⟩
    refine ⟨1, rfl, _, rfl, ?_⟩
    obtain ⟨wa, rxs, rfl, hwa, rl6, rmb⟩ := id hr6
    refine cutT hr6 none (some (-1)) fun v1 H7 k7 h1 => ?_
    refine ⟨_, rfl, (show 1 ≤ sizeLine by decide), fun T hT => ?_⟩
    have k8 := Same.tr k7 (same_new (o := .tup [.int 0]) hT)
    refine catT (hr6.sm k8) (tm_one hT (.int 0)) (by decide) fun v2 H9 k9 h2 => ?_
    have k69 := Same.tr k8 k9
    have k79 := Same.tr (same_new (o := .tup [.int 0]) hT) k9
    clear k8 k9
    have src9 := hs6.same k69
    refine ⟨_, rfl, wa, rxs, rfl, .inr (sqt (k69 _ _ hwa)), fun L hL => ?_⟩
    have neL := src9.none hL
    have kL := same_new (o := .lst rxs) hL
    have hL1 : upd H9 L (.lst rxs) L = some (.lst rxs) := upd_same
    generalize upd H9 L (.lst rxs) = H10 at kL hL1 ⊢
    refine ⟨by decide, fun T2 hT2 => ?_⟩
    have kT2 := same_new (o := .tup []) hT2
    have hT21 : upd H10 T2 (.tup []) T2 = some (.tup []) := upd_same
    generalize upd H10 T2 (.tup []) = H11 at kT2 hT21 ⊢
    refine ⟨_, rfl, wa, rxs, rfl, sqt (kT2 _ _ (kL _ _ (k69 _ _ hwa))), fun T3 hT3 => ?_⟩
    have kT3 := same_new (o := .tup rxs.reverse) hT3
    have hT31 : upd H11 T3 (.tup rxs.reverse) T3 = some (.tup rxs.reverse) := upd_same
    generalize upd H11 T3 (.tup rxs.reverse) = H12 at kT3 hT31 ⊢
    refine fun Dd hDd => ?_
    have src12 := src9.same (Same.tr kL (Same.tr kT2 kT3))
    have neD := src12.none hDd
    have kD := same_new (o := .dK []) hDd
    have hD1 : upd H12 Dd (.dK []) Dd = some (.dK []) := upd_same
    generalize upd H12 Dd (.dK []) = H13 at kD hD1 ⊢
    refine ⟨(show 9 ≤ sizeLine by decide), fun N hN => ?_⟩
    have k1213 := kD
    have k1113 := Same.tr kT3 kD
    have k1013 := Same.tr kT2 k1113
    have k913 := Same.tr kL k1013
    have k613 := Same.tr k69 k913
    have src13 := hs6.same k613
    have m1 : ∀ x ∈ [V.ref wa, v1, v2, .ref L, .non, .ref T2, .ref T3, .str "ab", .ref Dd], JM d cs H13 x := by
      have j1 := (hr6.sm k613).jm src13 (by decide)
      have j2 := (h1.sm (Same.tr k79 k913)).jm src13 (by decide)
      have j3 := (h2.sm k913).jm src13 (by decide)
      have j4 : JM d cs H13 (.ref L) := ⟨none, .inr (.inr (.inl ⟨L, rxs, rfl, k1013 _ _ hL1⟩)), fun b e => by cases e; exact neL⟩
      have j5 : JM d cs H13 .non := ⟨none, .inl rfl, fun b e => nomatch e⟩
      have j6 : JM d cs H13 (.ref T2) := TM.jm (m := 0) src13 ⟨T2, [], rfl, k1113 _ _ hT21, Nat.le_refl _, fun x hx => (List.not_mem_nil hx).elim⟩ (by decide)
      have j7 : JM d cs H13 (.ref T3) := TM.jm (m := 6) src13 ⟨T3, rxs.reverse, rfl, k1213 _ _ hT31, by rw [List.length_reverse]; exact rl6, fun x hx => (rmb x (List.mem_reverse.mp hx)).kt (kt_same k613)⟩ (by decide)
      have j8 : JM d cs H13 (.str "ab") := ⟨none, .inr (.inl ⟨_, rfl⟩), fun b e => nomatch e⟩
      have j9 : JM d cs H13 (.ref Dd) := ⟨none, .inr (.inr (.inr ⟨Dd, [], rfl, hD1⟩)), fun b e => by cases e; exact neD⟩
      intro x hx
      simp only [List.mem_cons, List.not_mem_nil, or_false] at hx
      rcases hx with rfl | rfl | rfl | rfl | rfl | rfl | rfl | rfl | rfl
      all_goals assumption
    have neN := src13.none hN
    have w13 := w6.same k613
    have r13 := hr6.sm k613
    have n13 : ∀ x ∈ [V.ref wa, v1, v2, .ref L, .non, .ref T2, .ref T3, .str "ab", .ref Dd], JM d cs (upd H13 N (.lst [V.ref wa, v1, v2, .ref L, .non, .ref T2, .ref T3, .str "ab", .ref Dd])) x ∧ x ≠ .ref N := fun x hx => ⟨(m1 x hx).sm src13 (same_new hN), (m1 x hx).ne hN⟩
    have w14 := w13.same (same_new (o := .lst [V.ref wa, v1, v2, .ref L, .non, .ref T2, .ref T3, .str "ab", .ref Dd]) hN)
    have r14 := r13.sm (same_new (o := .lst [V.ref wa, v1, v2, .ref L, .non, .ref T2, .ref T3, .str "ab", .ref Dd]) hN)
    have hN14 : upd H13 N (.lst [V.ref wa, v1, v2, .ref L, .non, .ref T2, .ref T3, .str "ab", .ref Dd]) N = some (.lst [V.ref wa, v1, v2, .ref L, .non, .ref T2, .ref T3, .str "ab", .ref Dd]) := upd_same
    have z14 : ∀ b o, H13 b = some o → b ≠ N := fun b o e z => by rw [z, hN] at e; cases e
    generalize hxs : [V.ref wa, v1, v2, .ref L, .non, .ref T2, .ref T3, .str "ab", .ref Dd] = xs at n13 w14 r14 hN14 ⊢
    have xl9 : xs.length = 9 := by rw [← hxs]; rfl
    have s14 := same_new (o := .lst xs) hN
    generalize upd H13 N (.lst xs) = H14 at n13 w14 r14 hN14 s14 ⊢
    clear m1 hxs hD1 kD k1213 k1113 k1013 k913 k613 src12 hT31 kT3 hT21 kT2 hL1 kL k79 k69 src9 h1 h2 k7 r13 hwa rmb hDd hT3 hT2 hL hT neD neL
    -- one more
    refine ⟨_, rfl, .inl ⟨rfl, _, sql hN14⟩, ?_⟩
    refine ⟨_, rfl, _, rfl, _, rfl, ?_⟩
    refine cutT r14 none (some c) fun u1 H15 k1 g1 => ?_
    refine ⟨_, rfl, (show 1 ≤ sizeLine by decide), fun T hT => ?_⟩
    refine catT (g1.sm (same_new hT)) (tm_one hT (.int v)) (by decide) fun u2 H16 k2 g2 => ?_
    have k16 := Same.tr k1 (Same.tr (same_new (o := .tup [.int v]) hT) k2)
    refine ⟨_, rfl, _, rfl, _, _, rfl, rfl, _, rfl, ?_⟩
    dsimp only [tNoPart]
    refine cutT (r14.sm k16) (some (c + 1)) none fun u3 H17 k3 g3 => ?_
    refine catT (g2.sm k3) g3 (by decide) fun u4 H18 k4 g4 => ?_
    have k18 := Same.tr k16 (Same.tr k3 k4)
    have hN18 := k18 _ _ hN14
    refine ⟨N, xs, _, rfl, rfl, hN18, by rw [xl9]; decide, ?_⟩
    have src18 := w14.src.same k18
    have s19 : Same H13 (upd H18 N (.lst (xs ++ [u4]))) := fun b o e => by
      rw [upd_ne (z14 b o e)]
      exact k18 _ _ (s14 _ _ e)
    have w19 := w13.same s19
    have r19 : TM (upd H18 N (.lst (xs ++ [u4]))) (.ref wa) 6 := (r14.sm k18).kt (ktL hN18)
    have nl19 : NL d cs (upd H18 N (.lst (xs ++ [u4]))) N (xs ++ [u4]) 10 := ⟨upd_same, by rw [List.length_append, xl9]; exact Nat.le_refl 10, fun x hx => by
      rcases List.mem_append.mp hx with z | z
      · obtain ⟨j, ne⟩ := n13 x z
        exact (j.sm w14.src k18).up hN18 ne
      · rw [List.mem_singleton.mp z]
        exact (g4.jm src18 (by decide)).up hN18 (g4.ne hN18)⟩
    generalize hys : xs ++ [u4] = ys at w19 r19 nl19 ⊢
    generalize upd H18 N (.lst ys) = H19 at w19 r19 nl19 ⊢
    clear hys s19 src18 hN18 k18 k16 k1 k2 k3 k4 g1 g2 g3 g4 hT n13 w14 r14 hN14 z14 s14 w13 src13 xl9 hr6 w6 hs6
    have src19 := w19.src
    -- odd members
    refine ⟨_, rfl, ?_⟩
    refine ⟨_, _, rfl, rfl, (show 1 ≤ sizeLine by decide), fun T1 hT1 => ⟨(show 6 ≤ sizeLine by decide), fun T2 hT2 => ?_⟩⟩
    have s20 := Same.tr (same_new (o := .tup [.int 1]) hT1) (same_new (o := .tup [.bl true, .non, .str "1", .int (0 - 1), .int 99, .ref T1]) hT2)
    have hT1x : upd (upd H19 T1 (.tup [.int 1])) T2 (.tup [.bl true, .non, .str "1", .int (0 - 1), .int 99, .ref T1]) T1 = some (.tup [.int 1]) := upd_at hT2 upd_same
    have hT2x : upd (upd H19 T1 (.tup [.int 1])) T2 (.tup [.bl true, .non, .str "1", .int (0 - 1), .int 99, .ref T1]) T2 = some (.tup [.bl true, .non, .str "1", .int (0 - 1), .int 99, .ref T1]) := upd_same
    refine ⟨T2, rfl, ⟨_, sqt hT2x⟩, fun Lc hLc => ?_⟩
    generalize upd (upd H19 T1 (.tup [.int 1])) T2 (.tup [.bl true, .non, .str "1", .int (0 - 1), .int 99, .ref T1]) = H20 at s20 hT1x hT2x hLc ⊢
    have ods : ∀ x ∈ [V.bl true, .non, .str "1", .int (0 - 1), .int 99, .ref T1], Mb H20 x := by
      intro x hx
      simp only [List.mem_cons, List.not_mem_nil, or_false] at hx
      rcases hx with rfl | rfl | rfl | rfl | rfl | rfl
      · exact .bl _
      · exact .non
      · exact .str _
      · exact .int _
      · exact .int _
      · exact .tup hT1x
    have w20 := w19.same s20
    have src20 := w20.src
    have neLc := src20.none hLc
    have nl20 := nl19.sm src19 s20
    have r20 := r19.sm s20
    refine lc_it (walk_tup (K := K) (a := T2) (xs := [V.bl true, .non, .str "1", .int (0 - 1), .int 99, .ref T1])) (fun i H' => ∃ acc, H' Lc = some (.lst acc) ∧ acc.length ≤ i ∧ (∀ x ∈ acc, JM d cs H' x ∧ x ≠ .ref Lc) ∧ Same H20 H') ⟨[], upd_same, Nat.le_refl _, fun x hx => (List.not_mem_nil hx).elim, same_new hLc⟩ (fun i H' _ h => ?_) (fun i x H' H'' hi h y => ?_) (fun H' h => ?_)
    · obtain ⟨_, _, _, _, s⟩ := h
      exact sqt (s _ _ hT2x)
    · obtain ⟨rfl, hx⟩ := y
      obtain ⟨acc, hA, al, am, s⟩ := h
      have hi6 : i < 6 := hi
      have mx := (ods x (List.mem_of_getElem? hx)).kt (kt_same s)
      have rH := r20.sm s
      have srcH := src20.same s
      refine ⟨rfl, ?_⟩
      refine ⟨_, rfl, _, rfl, _, rfl, ?_⟩
      refine cutT rH none (some c) fun u1 H15 k1 g1 => ?_
      refine ⟨_, rfl, (show 1 ≤ sizeLine by decide), fun T hT => ?_⟩
      refine catT (g1.sm (same_new hT)) (tm_one hT (mx.kt (kt_same k1))) (by decide) fun u2 H16 k2 g2 => ?_
      have k16 := Same.tr k1 (Same.tr (same_new (o := .tup [x]) hT) k2)
      refine ⟨_, rfl, _, rfl, _, _, rfl, rfl, _, rfl, ?_⟩
      dsimp only [tNoPart]
      refine cutT (rH.sm k16) (some (c + 1)) none fun u3 H17 k3 g3 => ?_
      refine catT (g2.sm k3) g3 (by decide) fun u4 H18 k4 g4 => ?_
      have k18 := Same.tr k16 (Same.tr k3 k4)
      have hA18 := k18 _ _ hA
      have src18 := srcH.same k18
      refine ⟨acc, hA18, by rw [sizeLine_eq]; omega, acc ++ [u4], upd_same, ?_, fun z hz => ?_, fun b o e => ?_⟩
      · rw [List.length_append]
        show acc.length + 1 ≤ i + 1
        omega
      · rcases List.mem_append.mp hz with q | q
        · obtain ⟨j, ne⟩ := am z q
          exact ⟨(j.sm srcH k18).up hA18 ne, ne⟩
        · rw [List.mem_singleton.mp q]
          exact ⟨(g4.jm src18 (by decide)).up hA18 (g4.ne hA18), g4.ne hA18⟩
      · rw [upd_ne (fun z => by rw [z, hLc] at e; cases e)]
        exact k18 _ _ (s _ _ e)
    obtain ⟨acc, hA, al, am, s21⟩ := h
    have al6 : acc.length ≤ 6 := al
    have w21 := w20.same s21
    have nl21 := nl20.sm src20 s21
    have yl := nl21.len
    refine ⟨N, Lc, ys, acc, rfl, rfl, nl21.at_, hA, by rw [sizeLine_eq]; omega, fun N2 hN2 => ?_⟩
    have s22 := same_new (o := .lst (ys ++ acc)) hN2
    have neN2 := w21.src.none hN2
    have w22 := w21.same s22
    have nl22 : NL d cs (upd H' N2 (.lst (ys ++ acc))) N2 (ys ++ acc) 16 := ⟨upd_same, by rw [List.length_append]; omega, fun x hx => by
      rcases List.mem_append.mp hx with z | z
      · exact (nl21.mem x z).sm w21.src s22
      · exact (am x z).1.sm w21.src s22⟩
    generalize hzs : ys ++ acc = zs at w22 nl22 ⊢
    generalize upd H' N2 (.lst zs) = H22 at w22 nl22 ⊢
    clear s22 hN2 nl21 w21 s21 am hA al hzs nl20 r20 neLc src20 w20 ods hT1x hT2x s20 hLc hT1 hT2 nl19 r19 w19 src19 neN
    -- in any order
    have src22 := w22.src
    refine ⟨_, rfl, _, rfl, ?_⟩
    refine ⟨(show 4 ≤ sizeLine by decide), fun T hT => ⟨(show 1 ≤ sizeLine by decide), fun L1 hL1 => ?_⟩⟩
    have s23 := same_new (o := .tup [.int 0, .int 1, .int 2, .int 3]) hT
    have s24 := Same.tr s23 (same_new (o := .lst [.ref T]) hL1)
    have hT4 : upd (upd H22 T (.tup [.int 0, .int 1, .int 2, .int 3])) L1 (.lst [.ref T]) T = some (.tup [.int 0, .int 1, .int 2, .int 3]) := upd_at hL1 upd_same
    have hL14 : upd (upd H22 T (.tup [.int 0, .int 1, .int 2, .int 3])) L1 (.lst [.ref T]) L1 = some (.lst [.ref T]) := upd_same
    generalize upd (upd H22 T (.tup [.int 0, .int 1, .int 2, .int 3])) L1 (.lst [.ref T]) = H24 at s24 hT4 hL14 ⊢
    refine ⟨_, rfl, _, _, rfl, ?_⟩
    obtain ⟨k4, ek, kl⟩ : ∃ k4 : Nat, (if (4 : Int) < ((p.doms.length : Nat) : Int) then 4 else ((p.doms.length : Nat) : Int)) = (k4 : Int) ∧ k4 ≤ 4 := by
      by_cases z : (4 : Int) < ((p.doms.length : Nat) : Int)
      · rw [if_pos z]
        exact ⟨4, rfl, Nat.le_refl _⟩
      · rw [if_neg z]
        exact ⟨p.doms.length, rfl, by omega⟩
    rw [ek]
    refine ⟨L1, _, [.ref T], rfl, rfl, hL14, by omega, by omega, by rw [Int.toNat_natCast, sizeLine_eq]; show 1 * _ ≤ _; omega, fun L2 hL2 => ?_⟩
    rw [Int.toNat_natCast]
    have s25 := Same.tr s24 (same_new (o := .lst (List.replicate k4 [V.ref T]).flatten) hL2)
    have iT : IH (upd H24 L2 (.lst (List.replicate k4 [V.ref T]).flatten)) (.ref T) [0, 1, 2, 3] := ⟨T, rfl, upd_at hL2 hT4⟩
    have hL25 : upd H24 L2 (.lst (List.replicate k4 [V.ref T]).flatten) L2 = some (.lst (List.replicate k4 [V.ref T]).flatten) := upd_same
    generalize upd H24 L2 (.lst (List.replicate k4 [V.ref T]).flatten) = H25 at s25 iT hL25 ⊢
    have d4 : ∀ e ∈ List.replicate k4 [(0 : Int), 1, 2, 3], e.length ≤ 4 := fun e he => by
      rw [(List.mem_replicate.mp he).2]
      exact Nat.le_refl _
    refine ⟨.ref L2, List.replicate k4 [0, 1, 2, 3], rfl, .inr ⟨L2, _, rfl, hL25, rep_rows iT k4⟩, by rw [List.length_replicate]; omega, d4, fun lo H26 s26 nlo hlo => ?_⟩
    have rl4 : (rowsOf (List.replicate k4 [(0 : Int), 1, 2, 3])).length ≤ 65536 := Nat.le_trans (rowsOf_len _ _ rfl d4) (pow_le (by rw [List.length_replicate]; omega))
    have each := rowsOf_each _ (List.replicate k4 [(0 : Int), 1, 2, 3]) rfl
    rw [List.length_replicate] at each
    generalize rowsOf (List.replicate k4 [(0 : Int), 1, 2, 3]) = rws at rl4 each hlo
    obtain ⟨lo', lvs, elo, hlv, plv⟩ := hlo
    cases elo
    have lvl := plv.length
    have s226 := Same.tr s25 s26
    have w26 := w22.same s226
    have nl26 := nl22.sm src22 s226
    refine ⟨d, cs, lo, lvs, rfl, w26.src, hlv, by omega, fun l2 xs2 H27 pm src27 rn27 nl2 hl2 => ?_⟩
    have w27 := w26.rn src27 rn27
    have nl27 := nl26.rn w26.src rn27 neN2
    refine ⟨_, rfl, l2, xs2, rfl, sql hl2, fun p2 hp2 => ?_⟩
    have s28 := same_new (o := .lst (cutV xs2 none (some 6))) hp2
    have zl := nl27.len
    have cl := cutV_length xs2 none (some 6)
    have pml := pm.length_eq
    refine ⟨N2, p2, zs, cutV xs2 none (some 6), rfl, rfl, s28 _ _ nl27.at_, upd_same, by rw [sizeLine_eq]; omega, fun N3 hN3 => ?_⟩
    have s29 := Same.tr s28 (same_new (o := .lst (zs ++ cutV xs2 none (some 6))) hN3)
    have mem29 : ∀ x ∈ zs ++ cutV xs2 none (some 6), JM d cs (upd (upd H27 p2 (.lst (cutV xs2 none (some 6)))) N3 (.lst (zs ++ cutV xs2 none (some 6)))) x := fun x hx => by
      rcases List.mem_append.mp hx with z | z
      · exact (nl27.mem x z).sm src27 s29
      · unfold cutV at z
        obtain ⟨row, hrow, ir⟩ := paired_mem plv x (pm.mem_iff.mp (List.drop_subset _ _ (List.take_subset _ _ z)))
        have rl := each row hrow
        exact ((IH.tm (m := 4) (IH.kt (Rn.kt w26.src rn27) ir) (by omega)).jm src27 (by decide)).sm src27 s29
    have w29 := w27.same s29
    have hN29 : upd (upd H27 p2 (.lst (cutV xs2 none (some 6)))) N3 (.lst (zs ++ cutV xs2 none (some 6))) N3 = some (.lst (zs ++ cutV xs2 none (some 6))) := upd_same
    have len29 : (zs ++ cutV xs2 none (some 6)).length ≤ 70000 := by
      rw [List.length_append]
      omega
    generalize zs ++ cutV xs2 none (some 6) = as at mem29 w29 hN29 len29 ⊢
    generalize upd (upd H27 p2 (.lst (cutV xs2 none (some 6)))) N3 (.lst as) = H29 at mem29 w29 hN29 ⊢
    clear s29 hN3 s28 hp2 nl27 w27 nl26 w26 s226 s26 s25 hL25 iT hL2 hL14 hT4 s24 hL1 s23 hT nl22 src22 w22 neN2
    -- all are judged alike
    have hp29 := hp.kt w29.lx.kt
    have t29 := w29.tb _ hT
    refine ⟨_, rfl, N3, rfl, ⟨_, sql hN29⟩, fun Lr hLr => ?_⟩
    refine lc_it (walk_list (K := K) (a := N3) (xs := as)) (fun i H' => H' Lr = some (.lst ((List.replicate i true).map V.bl)) ∧ Kb H29 H') ⟨upd_same, kb_same (same_new hLr)⟩ (fun i H' _ h => ?_) (fun i x H' H'' hi h y => ?_) (fun H' h => ?_)
    · exact sql (h.2.1 _ _ (fun _ z => by cases z) hN29)
    · obtain ⟨rfl, hx⟩ := y
      obtain ⟨hA, kb⟩ := h
      obtain ⟨jv, hj, _⟩ := mem29 x (List.mem_of_getElem? hx)
      obtain ⟨f1, f2, f3, f4⟩ := (judge_sm pd jv).fits (by decide) (by decide)
      refine ⟨rfl, _, rfl, _, rfl, .ref a, p, x, jv, rfl, hp29.kt (kt_kb kb), pd.ok, kb.2 _ t29, JV.kb kb hj, fun w1 H30 kb1 dp1 => ⟨w1, judgeD p jv, rfl, dp1, f1, f2, f3, f4, ?_⟩⟩
      have kb30 := kb.trans kb1
      refine ⟨_, rfl, _, rfl, .ref a, p, x, jv, rfl, hp29.kt (kt_kb kb30), pd.ok, JV.kb kb30 hj, fun w2 H31 s31 dp2 => ⟨w2, judgeD p jv, rfl, dp2, f1, f2, f3, f4, rfl, ?_⟩⟩
      have hA31 := s31 _ _ (kb1.1 _ _ (fun _ z => by cases z) hA)
      refine ⟨_, hA31, ?_, ?_, kb_up (kb30.trans (kb_same s31)) hLr hA31⟩
      · rw [List.length_map, List.length_replicate, sizeLine_eq]
        omega
      · rw [upd_same, List.replicate_succ', List.map_append]
        simp
    · obtain ⟨hA, kb⟩ := h
      refine ⟨Lr, _, rfl, sql hA, ?_⟩
      rw [show (List.replicate as.length true).all id = true from List.all_eq_true.mpr fun x hx => by rw [(List.mem_replicate.mp hx).2]; rfl]
      exact k _ (w29.kb kb)
end
end G9

set_option Elab.async false
set_option linter.all false
set_option maxRecDepth 100000
set_option maxHeartbeats 4000000
/-! a puzzle as data -/
namespace G9
open PySem PySem.Spec PyProof.Rows L2 GX
def dRul : Rul → PyData
  | .table cs rows => .tuple [.str "table", dI cs, dRows rows]
  | .unlike cs => .tuple [.str "unlike", dI cs]
  | .sum cs lo hi => .tuple [.str "sum", dI cs, .int lo, .int hi]
  | .count cs vs lo hi => .tuple [.str "count", dI cs, dI vs, .int lo, .int hi]
  | .below a b => .tuple [.str "below", .int a, .int b]
  | .runs cs ls => .tuple [.str "runs", dI cs, dI ls]
  | .joined cs ties vs => .tuple [.str "joined", dI cs, dRows (ties.map tie2), dI vs]
def dPuz (p : Puz) : PyData := .tuple [dRows p.doms, .tuple (p.rules.map dRul)]
theorem rul_dp {K : PySem.W.Frag} {H : Hp} {v : V} : ∀ {r : Rul}, RuH H v r → Dp K H v (dRul r)
  | .table _ _, ⟨a, x, y, e, q, i, j⟩ => by rw [e]; exact .tup (sqt q) (.cons (.str _) (.cons i.dp (.cons (RowsH.dp j) .nil)))
  | .unlike _, ⟨a, x, e, q, i⟩ => by rw [e]; exact .tup (sqt q) (.cons (.str _) (.cons i.dp .nil))
  | .sum _ _ _, ⟨a, x, e, q, i⟩ => by rw [e]; exact .tup (sqt q) (.cons (.str _) (.cons i.dp (.cons (.int _) (.cons (.int _) .nil))))
  | .count _ _ _ _, ⟨a, x, y, e, q, i, j⟩ => by rw [e]; exact .tup (sqt q) (.cons (.str _) (.cons i.dp (.cons j.dp (.cons (.int _) (.cons (.int _) .nil)))))
  | .below _ _, ⟨a, e, q⟩ => by rw [e]; exact .tup (sqt q) (.cons (.str _) (.cons (.int _) (.cons (.int _) .nil)))
  | .runs _ _, ⟨a, x, y, e, q, i, j⟩ => by rw [e]; exact .tup (sqt q) (.cons (.str _) (.cons i.dp (.cons j.dp .nil)))
  | .joined _ _ _, ⟨a, x, y, z, e, q, i, j, k⟩ => by rw [e]; exact .tup (sqt q) (.cons (.str _) (.cons i.dp (.cons (RowsH.dp j) (.cons k.dp .nil))))
theorem rul_all {K : PySem.W.Frag} {H : Hp} : ∀ {vs : List V} {rs : List Rul}, Paired (RuH H) vs rs → DpAll K H vs (rs.map dRul)
  | _, _, .nil => .nil
  | _, _, .cons a r => .cons (rul_dp a) (rul_all r)
theorem puz_dp {K : PySem.W.Frag} {H : Hp} {v : V} {p : Puz} (h : PzH H v p) : Dp K H v (dPuz p) := by
  obtain ⟨a, x, y, rfl, q, hx, b, vs, rfl, q2, pv⟩ := h
  exact .tup (sqt q) (.cons (RowsH.dp hx) (.cons (.tup (sqt q2) (rul_all pv)) .nil))
structure CmA (ds : List PyData) (k : Nat) : Prop where
  c : PyData.canLayAll0 ds = true
  d : PyData.depthAll ds ≤ k
structure Cm (e : PyData) (k : Nat) : Prop where
  c : e.canLay0 = true
  d : e.depth ≤ k
theorem CmA.nil {k : Nat} : CmA [] k := ⟨by simp [PyData.canLayAll0], by simp [PyData.depthAll]⟩
theorem CmA.cons {e : PyData} {ds : List PyData} {k : Nat} (h : Cm e k) (g : CmA ds k) : CmA (e :: ds) k := ⟨by simp only [PyData.canLayAll0, h.c, g.c, Bool.and_true], by
  simp only [PyData.depthAll]
  exact Nat.max_le.mpr ⟨h.d, g.d⟩⟩
theorem CmA.tuple {ds : List PyData} {k : Nat} (h : CmA ds k) : Cm (.tuple ds) (k + 1) := ⟨by unfold PyData.canLay0; exact h.c, by
  have := h.d
  unfold PyData.depth
  omega⟩
theorem cm_int (i : Int) (k : Nat) : Cm (.int i) k := ⟨rfl, by unfold PyData.depth; omega⟩
theorem cm_str (x : Str) (k : Nat) (h : (PyData.str x).canLay0 = true) : Cm (.str x) k := ⟨h, by unfold PyData.depth; omega⟩
theorem cm_dI (ns : List Int) (k : Nat) : Cm (dI ns) (k + 1) := ⟨can_dI ns, by rw [depth_dI]; omega⟩
theorem cm_rows (rows : List (List Int)) (k : Nat) : Cm (dRows rows) (k + 2) := ⟨(cmp_rows rows).1, by
  have := depth_rows rows
  unfold dRows PyData.depth
  omega⟩
theorem cm_rul : ∀ r : Rul, Cm (dRul r) 3
  | .table _ _ => CmA.tuple (.cons (cm_str _ _ (by first | rfl | decide +kernel)) (.cons (cm_dI _ _) (.cons (cm_rows _ _) .nil)))
  | .unlike _ => CmA.tuple (.cons (cm_str _ _ (by first | rfl | decide +kernel)) (.cons (cm_dI _ _) .nil))
  | .sum _ _ _ => CmA.tuple (.cons (cm_str _ _ (by first | rfl | decide +kernel)) (.cons (cm_dI _ _) (.cons (cm_int _ _) (.cons (cm_int _ _) .nil))))
  | .count _ _ _ _ => CmA.tuple (.cons (cm_str _ _ (by first | rfl | decide +kernel)) (.cons (cm_dI _ _) (.cons (cm_dI _ _) (.cons (cm_int _ _) (.cons (cm_int _ _) .nil)))))
  | .below _ _ => CmA.tuple (.cons (cm_str _ _ (by first | rfl | decide +kernel)) (.cons (cm_int _ _) (.cons (cm_int _ _) .nil)))
  | .runs _ _ => CmA.tuple (.cons (cm_str _ _ (by first | rfl | decide +kernel)) (.cons (cm_dI _ _) (.cons (cm_dI _ _) .nil)))
  | .joined _ _ _ => CmA.tuple (.cons (cm_str _ _ (by first | rfl | decide +kernel | simp [PyData.canLay0])) (.cons (cm_dI _ _) (.cons (cm_rows _ _) (.cons (cm_dI _ _) .nil))))
theorem cm_ruls : ∀ rs : List Rul, CmA (rs.map dRul) 3
  | [] => .nil
  | r :: rs => .cons (cm_rul r) (cm_ruls rs)
theorem cmp_puz (p : Puz) : Cmp (dPuz p) := by
  have h : Cm (dPuz p) 5 := CmA.tuple (.cons (cm_rows _ _) (.cons (cm_ruls _).tuple .nil))
  exact ⟨h.c, Nat.le_trans h.d (by decide)⟩
theorem eqv_puz (p : Puz) : PyData.eqv (dPuz p) (dPuz p) = true := PySem.SeqAt.eqv_refl _ (cmp_puz p).1
theorem rul_sm {n : Nat} {r : Rul} (hn : n ≤ 8) (num : RulNum r) (c8 : (Rul.cells r).length ≤ 8) (cell : ∀ c ∈ Rul.cells r, 0 ≤ c ∧ c < (n : Int)) : Sm (dRul r) 5 20000 := by
  have fc : ∀ c ∈ Rul.cells r, Few c := fun c hc => by
    have := cell c hc
    exact ⟨this.1, by omega⟩
  have one : ∀ v : Int, Few v → Sm (.int v) 4 30 := fun v h => sm_int h.1 (by have := h.2; omega) 4
  have dc : Sm (dI (Rul.cells r)) 4 260 := sm_dI fc c8 3
  cases r with
  | table cs rows =>
    obtain ⟨h1, h2⟩ := num
    exact (SmA.tuple (.cons (sm_str "table" 4 rfl (by decide)) (.cons dc (.cons ((sm_rows h2 2).mono (Nat.le_refl _) (by omega : _ ≤ 17000)) (SmA.nil (w := 0)))))).mono (by decide) (by decide)
  | unlike cs => exact (SmA.tuple (.cons (sm_str "unlike" 4 rfl (by decide)) (.cons dc (SmA.nil (w := 0))))).mono (by decide) (by decide)
  | sum cs lo hi =>
    obtain ⟨h1, h2⟩ := num
    exact (SmA.tuple (.cons (sm_str "sum" 4 rfl (by decide)) (.cons dc (.cons (one _ h1) (.cons (one _ h2) (SmA.nil (w := 0))))))).mono (by decide) (by decide)
  | count cs vs lo hi =>
    obtain ⟨⟨h0, h3⟩, h1, h2⟩ := num
    exact (SmA.tuple (.cons (sm_str "count" 4 rfl (by decide)) (.cons dc (.cons (sm_dI h3 h0 3) (.cons (one _ h1) (.cons (one _ h2) (SmA.nil (w := 0)))))))).mono (by decide) (by decide)
  | below a b => exact (SmA.tuple (.cons (sm_str "below" 4 rfl (by decide)) (.cons (one a (fc a (List.mem_cons_self ..))) (.cons (one b (fc b (List.mem_cons_of_mem _ (List.mem_cons_self ..)))) (SmA.nil (w := 0)))))).mono (by decide) (by decide)
  | runs cs ls =>
    obtain ⟨h0, h3⟩ := num
    exact (SmA.tuple (.cons (sm_str "runs" 4 rfl (by decide)) (.cons dc (.cons (sm_dI h3 h0 3) (SmA.nil (w := 0)))))).mono (by decide) (by decide)
  | joined cs ties vs =>
    obtain ⟨⟨h0, h3⟩, h1, h2⟩ := num
    have ht : ∀ q ∈ ties.map tie2, q.length ≤ 8 ∧ ∀ v ∈ q, Few v := fun q hq => by
      obtain ⟨z, hz, rfl⟩ := List.mem_map.mp hq
      obtain ⟨a, b⟩ := z
      have := h3 _ hz
      refine ⟨by show 2 ≤ 8; omega, fun v hv => ?_⟩
      simp only [tie2, List.mem_cons, List.not_mem_nil, or_false] at hv
      rcases hv with rfl | rfl
      · exact this.1
      · exact this.2
    exact (SmA.tuple (.cons (sm_str "joined" 4 rfl (by decide)) (.cons dc (.cons ((sm_rows ht 2).mono (Nat.le_refl _) (by rw [List.length_map]; omega : _ ≤ 3000)) (.cons (sm_dI h2 h1 3) (SmA.nil (w := 0))))))).mono (by decide) (by decide)
theorem ruls_sm {p : Puz} (pd : Pd p) : ∀ {rs : List Rul}, (∀ r ∈ rs, r ∈ p.rules) → SmA (rs.map dRul) 5 (20002 * rs.length)
  | [], _ => .nil
  | r :: rs, h => by
    have hr := h r (List.mem_cons_self ..)
    have a := rul_sm pd.ok.n8 (pd.rul r hr).1 (pd.rul r hr).2 (pd.ok.cell r hr)
    have b := ruls_sm pd (rs := rs) fun x hx => h x (List.mem_cons_of_mem _ hx)
    exact (SmA.cons a b).mono (Nat.le_refl _) (by rw [List.length_cons]; omega)
theorem puz_sm {p : Puz} (pd : Pd p) : Sm (dPuz p) 40 (2 ^ 20) := by
  have n6 := pd.n6
  have r8 := pd.r8
  have d : Sm (dRows p.doms) 6 3000 := (sm_rows (rows := p.doms) (fun r hr => ⟨by have := (pd.dom r hr).2.2.1; omega, (pd.dom r hr).2.1⟩) 4).mono (Nat.le_refl _) (by omega)
  have q : Sm (.tuple (p.rules.map dRul)) 6 170000 := (ruls_sm pd fun x hx => hx).tuple.mono (Nat.le_refl _) (by omega)
  exact (SmA.tuple (.cons d (.cons q (SmA.nil (w := 0))))).mono (by decide) (by decide)
end G9

set_option Elab.async false
set_option linter.all false
set_option maxRecDepth 100000
set_option maxHeartbeats 16000000
/-! the law's body -/
namespace G9
open PySem PySem.Spec PyProof.Rows L2 GX
abbrev nmLaw : List Str := ["_law_script", "_law_source", "_law_lap", "_law_puzzle", "_law_before", "_law_rows_here", "_law_other", "_law_late", "_law_whole", "_law_j", "_law_turn", "_law_rule"]
structure FnX (P : Program) (w : World) (K : PySem.W.Frag) (mg : Str → Option Value) (base : Heap) (x : Str) (st : Stmt) (ps : List Str) (k : Nat) (sp : Sp) (f : Addr) (fd : FuncData) : Prop where
  D : Df K mg x st ps f fd
  G : FnG P w K mg base k f fd ps sp
/-- the names of the law between two laps -/
def StL (a d : Addr) (σ : L2.St) : Prop := ∃ v2 v3 v4 v5 v6 v7 v8 v9 v10 v11 : Option V, σ = [some (.ref a), some (.ref d), v2, v3, v4, v5, v6, v7, v8, v9, v10, v11]
def spLaw (K : PySem.W.Frag) (pT pJ : Addr) : Sp := fun vs H Q _ => ∃ (a : Addr) (ns : List Int), vs = [.ref a] ∧ SqL K H a (ns.map V.int) ∧ ns.length ≤ 63 ∧ GxR.TabG H pT ∧ GxR.TabG H pJ ∧ ∀ H', Q (.bl true) H'
section
variable {P : Program} {w : World} {K : PySem.W.Frag} {mg : Str → Option Value} {base : Heap} {pT pJ : Addr} {fO fPi fDP fLA fDR fSh fJo fBs fWo fTr fJr : Addr} {dO dPi dDP dLA dDR dSh dJo dBs dWo dTr dJr : FuncData}
theorem law_body (B : Bl mg) (FO : Fn P w K mg base "_law_open_cells" sOpen ["_law_script"] 1 (spOpen K) fO dO)
    (FPi : Fn P w K mg base "_law_pick" sPick ["_law_source", "_law_most"] 1 spPick fPi dPi)
    (FDP : Fn P w K mg base "_law_draw_puzzle" sDrawPuzzle ["_law_source", "_law_most"] 7 spDrawPuzzle fDP dDP)
    (FLA : Fn P w K mg base "_law_answers" sLAnswers ["_law_puzzle"] 5 spLAnswers fLA dLA)
    (FDR : Fn P w K mg base "_law_draw_rule" sDrawRule ["_law_source", "_law_domains"] 5 spDrawRule fDR dDR)
    (FSh : Fn P w K mg base "_law_shifted" sShift ["_law_rule", "_law_many"] 1 spMoved fSh dSh)
    (FJo : Fn P w K mg base "joint" sJoint ["one", "other"] 1 spJoint fJo dJo)
    (FBs : Fn P w K mg base "beside" sBeside ["one", "other"] 3 spBeside fBs dBs)
    (FWo : Fn P w K mg base "without_rule" sWithout ["puzzle", "j"] 1 spWithout fWo dWo)
    (FTr : FnX P w K mg base "_law_told_right" sTold ["_law_source", "_law_puzzle", "_law_rows_here"] 17 (spTold pT) fTr dTr)
    (FJr : FnX P w K mg base "_law_judged_right" sJudged ["_law_source", "_law_puzzle", "_law_rows_here"] 12 (spJudged pJ) fJr dJr)
    {f : Addr} {cdv : Value} {A : Around} {outer : List Env} {s : Shared} {H : Hp} {vs : List V} {Q : VK} {E : XK} (hr : Room 17 (A.deeper (envOfC "law" (defScope sLaw) s.heap.objs.size f cdv))) (hA0 : A.guards = some []) (h : spLaw K pT pJ vs H Q E) :
    ∃ t, PSs (cxOf CX0 P w K mg base nmLaw "law" (defScope sLaw) f cdv A outer s H E).nox (defBody sLaw) t ∧ t { nx := fun _ H' => Q .non H', rt := Q } (start nmLaw vs) H := by
  obtain ⟨a, ns, rfl, ha, hns, hpT, hpJ, k⟩ := h
  have hu := hr.units
  have hg : (A.deeper (envOfC "law" (defScope sLaw) s.heap.objs.size f cdv)).guards = some [] := hA0
  have hA := hg
  refine ⟨_, (pss_cons (ps_set (i := 1) scLaw.nd rfl (by first | exact .inl rfl | exact .inr rfl) (pe_call FO.G (hr.mono (by decide)) (by rfl) FO.D.g FO.D.F.kp FO.D.b .nil pass0 (pa_cons (pv 0) pa_nil)))
      (pss_cons (ps_for PassesOwn.never rfl (pi_range1 (by rfl) B.range (pa_cons pe_int pa_nil)) (pg_name (i := 2) scLaw.nd rfl (by first | exact .inl rfl | exact .inr rfl)) (pss_cons (ps_set (i := 3) scLaw.nd rfl (by first | exact .inl rfl | exact .inr rfl) (pe_call FDP.G (hr.mono (by decide)) (by rfl) FDP.D.g FDP.D.F.kp FDP.D.b .nil pass0 (pa_cons (pv 1) (pa_cons pe_int pa_nil))))
      (pss_cons (ps_par (i := 4) (j := 5) rfl scLaw.nd rfl rfl (by decide) rfl rfl (pa_cons (pe_callB (call_reprD hg hu) (by rfl) B.repr PyProof.Rows.boot_repr (pa_cons (pv 3) pa_nil)) (pa_cons (pe_call FLA.G (hr.mono (by decide)) (by rfl) FLA.D.g FLA.D.F.kp FLA.D.b .nil pass0 (pa_cons (pv 3) pa_nil)) pa_nil)) (by rfl))
      (pss_cons (ps_if (pw_or (pt_not (pt_val (pe_callG FTr.G (hr.mono (by decide)) hA (by rfl) FTr.D.g FTr.D.F.kp FTr.D.b (pa_cons (pv 1) (pa_cons (pv 3) (pa_cons (pv 5) pa_nil)))))) (pw_or1 (pt_not (pt_val (pe_callG FJr.G (hr.mono (by decide)) hA (by rfl) FJr.D.g FJr.D.F.kp FJr.D.b (pa_cons (pv 1) (pa_cons (pv 3) (pa_cons (pv 5) pa_nil)))))))).pt (pss_one (ps_ret pe_bl)) pss_nil)
      (pss_cons (ps_set (i := 6) scLaw.nd rfl (by first | exact .inl rfl | exact .inr rfl) (pe_call FDP.G (hr.mono (by decide)) (by rfl) FDP.D.g FDP.D.F.kp FDP.D.b .nil pass0 (pa_cons (pv 1) (pa_cons pe_int pa_nil))))
      (pss_cons (ps_set (i := 7) scLaw.nd rfl (by first | exact .inl rfl | exact .inr rfl) (pe_tup (pa_cons (pe_ix (ixT K) (pv 3) pe_int (fun _ _ => rfl)) (pa_cons (pe_callTy call_tuple_of (by rfl) B.tuple PyProof.Rows.boot_tuple (pa_cons (pe_lc (own := [("_law_turn", 10)]) rfl scLaw.nd (pi_range1 (by rfl) B.range (pa_cons (pe_call FPi.G (hr.mono (by decide)) (by rfl) FPi.D.g FPi.D.F.kp FPi.D.b .nil pass0 (pa_cons (pv 1) (pa_cons pe_int pa_nil))) pa_nil)) (blkOk_by (N := nmLaw) (sc := defScope sLaw) (by decide +kernel)) (fun _ _ _ _ _ => (pg_name (i := 10) scLaw.nd rfl (by first | exact .inl rfl | exact .inr rfl))) (fun _ _ _ _ _ => pts_nil) (fun _ _ _ _ _ => (pe_call FDR.G (hr.mono (by decide)) (by rfl) FDR.D.g FDR.D.F.kp FDR.D.b .nil pass0 (pa_cons (pv 1) (pa_cons (pe_ix (ixT K) (pv 3) pe_int (fun _ _ => rfl)) pa_nil))))) pa_nil)) pa_nil))))
      (pss_cons (ps_set (i := 8) scLaw.nd rfl (by first | exact .inl rfl | exact .inr rfl) (pe_tup (pa_cons (pe_op (catA K) (pe_ix (ixT K) (pv 3) pe_int (fun _ _ => rfl)) (pe_ix (ixT K) (pv 6) pe_int (fun _ _ => rfl))) (pa_cons (pe_op (catA K) (pe_ix (ixT K) (pv 3) pe_int (fun _ _ => rfl)) (pe_callTy call_tuple_of (by rfl) B.tuple PyProof.Rows.boot_tuple (pa_cons (pe_lc (own := [("_law_rule", 11)]) rfl scLaw.nd (pi_tup (pe_ix (ixT K) (pv 6) pe_int (fun _ _ => rfl))) (blkOk_by (N := nmLaw) (sc := defScope sLaw) (by decide +kernel)) (fun _ _ _ _ _ => (pg_name (i := 11) scLaw.nd rfl (by first | exact .inl rfl | exact .inr rfl))) (fun _ _ _ _ _ => pts_nil) (fun _ _ _ _ _ => (pe_call FSh.G (hr.mono (by decide)) (by rfl) FSh.D.g FSh.D.F.kp FSh.D.b .nil pass0 (pa_cons (pv 11) (pa_cons (pe_callB (lenK K) (by rfl) B.len PySem.boot_len (pa_cons (pe_ix (ixT K) (pv 3) pe_int (fun _ _ => rfl)) pa_nil)) pa_nil))))) pa_nil))) pa_nil))))
      (pss_cons (ps_if (pw_or (pt_cmpR (neDD K hu) (pe_call FJo.G (hr.mono (by decide)) (by rfl) FJo.D.g FJo.D.F.kp FJo.D.b .nil pass0 (pa_cons (pv 3) (pa_cons (pv 7) pa_nil))) (pe_tup (pa_cons (pe_ix (ixT K) (pv 3) pe_int (fun _ _ => rfl)) (pa_cons (pe_op (catA K) (pe_ix (ixT K) (pv 3) pe_int (fun _ _ => rfl)) (pe_ix (ixT K) (pv 7) pe_int (fun _ _ => rfl))) pa_nil))) (nomark _)) (pw_or1 (pt_cmpR (neDD K hu) (pe_call FBs.G (hr.mono (by decide)) (by rfl) FBs.D.g FBs.D.F.kp FBs.D.b .nil pass0 (pa_cons (pv 3) (pa_cons (pv 6) pa_nil))) (pv 8) (nomark _)))).pt (pss_one (ps_ret pe_bl)) pss_nil)
      (pss_cons (ps_for PassesOwn.never rfl (pi_range1 (by rfl) B.range (pa_cons (pe_callB call_len_seq (by rfl) B.len PySem.boot_len (pa_cons (pe_ix (ixT K) (pv 3) pe_int (fun _ _ => rfl)) pa_nil)) pa_nil)) (pg_name (i := 9) scLaw.nd rfl (by first | exact .inl rfl | exact .inr rfl)) (pss_one (ps_if (pt_cmpR (neDD K hu) (pe_call FWo.G (hr.mono (by decide)) (by rfl) FWo.D.g FWo.D.F.kp FWo.D.b .nil pass0 (pa_cons (pv 3) (pa_cons (pv 9) pa_nil))) (pe_tup (pa_cons (pe_ix (ixT K) (pv 3) pe_int (fun _ _ => rfl)) (pa_cons (pe_op (catA K) (pe_slice (slA K) (pe_ix (ixT K) (pv 3) pe_int (fun _ _ => rfl)) po_none (po_some (pv 9))) (pe_slice (slA K) (pe_ix (ixT K) (pv 3) pe_int (fun _ _ => rfl)) (po_some (pe_op op_add (pv 9) pe_int)) po_none)) pa_nil))) (nomark _)) (pss_one (ps_ret pe_bl)) pss_nil)))
      (pss_one (ps_if (pt_cmpR op_ne (pe_callB (call_reprD hg hu) (by rfl) B.repr PyProof.Rows.boot_repr (pa_cons (pv 3) pa_nil)) (pv 4) (nomark _)) (pss_one (ps_ret pe_bl)) pss_nil)))))))))))
      (pss_one (ps_ret pe_bl)))), ?_⟩
  refine ⟨_, rfl, a, ns, rfl, ha, hns, fun d cs H1 s1 nd ncs hsrc => ?_⟩
  have i1 : SrcAt H1 d cs ∧ GxR.TabG H1 pT ∧ GxR.TabG H1 pJ := ⟨hsrc, (kb_same s1).2 _ hpT, (kb_same s1).2 _ hpJ⟩
  clear hsrc hpT hpJ
  refine ⟨3, rfl, by decide, by decide, for_range (n := 3) (fun i σ H' => StL a d σ ∧ SrcAt H' d cs ∧ GxR.TabG H' pT ∧ GxR.TabG H' pJ) ⟨⟨none, none, none, none, none, none, none, none, none, none, rfl⟩, i1⟩ (fun i σ H' hi h => ?_) (fun σ H' h => ?_)⟩
  · obtain ⟨⟨v2, v3, v4, v5, v6, v7, v8, v9, v10, v11, rfl⟩, src, tT, tJ⟩ := h
    clear i1 s1 nd ncs
    refine ⟨_, rfl, d, cs, 5, rfl, src, by decide, by decide, fun wp p H2 okp pn1 pn5 pr8 pdom prul hs2 rn2 hp2 => ?_⟩
    have pd : Pd p := ⟨okp, pn1, by omega, pr8, pdom, prul⟩
    obtain ⟨g1, g2, g3, g4⟩ := (puz_sm pd).fits (by decide) (by decide)
    have w2 := (Wk.refl src).rn hs2 rn2
    clear rn2
    refine ⟨_, rfl, wp, dPuz p, rfl, puz_dp hp2, g1, g2, g3, g4, ⟨_, rfl, wp, p, rfl, hp2, okp, fun lr H3 s3 nlr hr3 => ⟨_, _, rfl, ?_⟩⟩⟩
    have ra3 : LA cs H3 lr (answersOf p) := ⟨(hs2.none nlr).2, hr3⟩
    have w3 := w2.same s3
    have hp3 := hp2.kt (kt_same s3)
    clear hr3 nlr s3 w2 hp2 hs2
    refine ⟨_, rfl, _, rfl, _, rfl, d, cs, wp, p, lr, rfl, w3.src, hp3, pd, ra3, w3.tb _ tT, fun H4 w4 => ⟨_, rfl, ifF rfl ?_⟩⟩
    have hp4 := hp3.kt w4.lx.kt
    have ra4 := ra3.lx w4.lx
    have w14 := w3.tr w4
    refine ⟨_, rfl, _, rfl, _, rfl, d, cs, wp, p, lr, rfl, w4.src, hp4, pd, ra4, w14.tb _ tJ, fun H5 w5 => ⟨_, rfl, ifF rfl ?_⟩⟩
    have hp5 := hp4.kt w5.lx.kt
    have w15 := w14.tr w5
    clear hp4 ra4 w14 hp3 ra3 w3 w4
    -- another
    refine ⟨_, rfl, d, cs, 3, rfl, w5.src, by decide, by decide, fun wq q H6 okq qn1 qn3 qr8 qdom qrul hs6 rn6 hq6 => ?_⟩
    have w16 := w15.rn hs6 rn6
    have hp6 := hp5.kt (Rn.kt w5.src rn6)
    clear rn6 hp5 w15 w5
    obtain ⟨pa, px, py, rfl, hpa, hpx, hpy⟩ := id hp6
    obtain ⟨xa, xvs, rfl, hxa, pxs⟩ := id hpx
    have xl := pxs.length
    have p8 := okp.n8
    refine ⟨_, rfl, pa, _, 0, _, rfl, rfl, sqt hpa, rfl, ?_⟩
    refine ⟨_, rfl, d, cs, 3, rfl, hs6, by decide, fun rr H7 e0 e1 hs7 rn7 => ⟨_, rfl, ?_⟩⟩
    have rb := e1 (by decide)
    have hpa7 := Rn.kt hs6 rn7 _ _ hpa
    have hpx7 := RowsH.kt (Rn.kt hs6 rn7) hpx
    refine ⟨by omega, by omega, fun L hL => ?_⟩
    have neL := hs7.none hL
    refine lc_it (walk_range (lo := 0) (n := rr.toNat)) (fun i H' => ∃ acc rs, H' L = some (.lst acc) ∧ Paired (RuH H') acc rs ∧ rs.length = i ∧ SrcAt H' d cs ∧ Rn d cs H7 H') ⟨[], [], upd_same, .nil, rfl, hs7.upd neL.1 neL.2, rn_same (same_new hL)⟩ (fun i H' _ h => trivial) (fun i x H' H'' hi h y => ?_) (fun H' h => ?_)
    · obtain ⟨rfl, rfl⟩ := y
      obtain ⟨acc, rs, hAc, pA, rl, hs8, rn8⟩ := h
      have al := pA.length
      refine ⟨rfl, _, rfl, _, rfl, pa, _, 0, _, rfl, rfl, sqt (Rn.kt hs7 rn8 _ _ hpa7), rfl, d, cs, .ref xa, p.doms, rfl, hs8, .inl (RowsH.kt (Rn.kt hs7 rn8) hpx7), pn1, p8, okp.d4, (fun e he => (pdom e he).2.1), fun wr r H9 okr hs9 rn9 hr9 => ?_⟩
      have hA9 := rn9 _ _ neL.1 neL.2 hAc
      refine ⟨acc, hA9, by rw [sizeLine_eq]; omega, acc ++ [wr], rs ++ [r], upd_same, paired_app (paired_mono (fun _ _ z => (z.kt (Rn.kt hs8 rn9)).kt (ktL hA9)) pA) (paired_one (hr9.kt (ktL hA9))), by rw [List.length_append, rl]; rfl, hs9.upd neL.1 neL.2, fun b o h1 h2 e => ?_⟩
      rw [upd_ne (fun z => by rw [z, hL] at e; cases e)]
      exact rn9 _ _ h1 h2 (rn8 _ _ h1 h2 e)
    obtain ⟨acc, rs, hAc, pA, rl, hs8, rn8⟩ := h
    have w18 := (w16.rn hs7 rn7).rn hs8 rn8
    have k68 := (Rn.kt hs6 rn7).trans (Rn.kt hs7 rn8)
    clear hpa7 hpx7 neL
    refine ⟨L, acc, rfl, .inl ⟨sql hAc, fun T hT => ⟨(show 2 ≤ sizeLine by decide), fun T7 hT7 => ?_⟩⟩⟩
    have s9 := Same.tr (same_new (o := .tup acc) hT) (same_new (o := .tup [.ref xa, .ref T]) hT7)
    have k69 := k68.trans (kt_same s9)
    have hT9 : upd (upd H' T (.tup acc)) T7 (.tup [.ref xa, .ref T]) T7 = some (.tup [.ref xa, .ref T]) := upd_same
    have hlr : RusH (upd (upd H' T (.tup acc)) T7 (.tup [.ref xa, .ref T])) (.ref T) rs := ⟨T, acc, rfl, upd_at hT7 upd_same, paired_mono (fun _ _ z => z.kt (kt_same s9)) pA⟩
    have w19 := w18.same s9
    generalize upd (upd H' T (.tup acc)) T7 (.tup [.ref xa, .ref T]) = H9 at k69 hT9 hlr w19 ⊢
    have rl3 : rs.length ≤ 3 := by omega
    clear s9 hT7 hT k68 w18 w16 rn8 hs8 pA hAc rl rn7 hs7 e0 e1 hL
    have hp9 := hp6.kt k69
    have hq9 := hq6.kt k69
    have hpa9 := k69 _ _ hpa
    have hpx9 := RowsH.kt k69 hpx
    have hpy9 := RusH.kt k69 hpy
    have hxa9 := k69 _ _ hxa
    have hla9 : PzH H9 (.ref T7) ⟨p.doms, rs⟩ := ⟨T7, _, _, rfl, hT9, hpx9, hlr⟩
    clear hp6 hq6 hpa hpx hpy hxa k69 pxs
    obtain ⟨qa, qx, qy, rfl, hqa9, hqx9, hqy9⟩ := id hq9
    obtain ⟨yb, qvs, rfl, hyb9, pq9⟩ := id hqy9
    have q8 := okq.n8
    -- the whole
    refine ⟨_, rfl, pa, _, 0, _, rfl, rfl, sqt hpa9, rfl, _, rfl, qa, _, 0, _, rfl, rfl, sqt hqa9, rfl, ?_⟩
    refine cat_rows hpx9 hqx9 (by omega) fun wd H10 s10 hwd => ?_
    refine ⟨_, rfl, pa, _, 1, _, rfl, rfl, sqt (s10 _ _ hpa9), rfl, ?_⟩
    refine ⟨_, rfl, qa, _, 1, _, rfl, rfl, sqt (s10 _ _ hqa9), rfl, yb, rfl, ⟨_, sqt (s10 _ _ hyb9)⟩, fun L hL => ?_⟩
    refine lc_it (walk_tup (K := K) (a := yb) (xs := qvs)) (fun i H' => ∃ acc, H' L = some (.lst acc) ∧ Paired (RuH H') acc ((q.rules.take i).map (moveR (xvs.length : Int))) ∧ Same H10 H') ⟨[], upd_same, .nil, same_new hL⟩ (fun i H' _ h => ?_) (fun i x H' H'' hi h y => ?_) (fun H' h => ?_)
    · obtain ⟨_, _, _, s⟩ := h
      exact sqt (s _ _ (s10 _ _ hyb9))
    · obtain ⟨rfl, hx⟩ := y
      obtain ⟨acc, hAc, pA, s⟩ := h
      obtain ⟨r, hr1, ir0⟩ := paired_at pq9 hx
      have al := pA.length
      rw [List.length_map, List.length_take] at al
      have s910 := Same.tr s10 s
      refine ⟨rfl, _, rfl, _, rfl, pa, _, 0, _, rfl, rfl, sqt (s910 _ _ hpa9), rfl, xa, _, rfl, .inr (sqt (s910 _ _ hxa9)), x, r, _, rfl, ir0.kt (kt_same s910), okq.small r (List.mem_of_getElem? hr1), fun ww H11 s11 hw => ?_⟩
      have hA11 := s11 _ _ hAc
      refine ⟨acc, hA11, by rw [sizeLine_eq]; omega, acc ++ [ww], upd_same, ?_, fun b o e => ?_⟩
      · rw [List.take_add_one, hr1, List.map_append]
        exact paired_app (paired_mono (fun _ _ z => (z.kt (kt_same s11)).kt (ktL hA11)) pA) (paired_one (hw.kt (ktL hA11)))
      · rw [upd_ne (fun z => by rw [z, hL] at e; cases e)]
        exact s11 _ _ (s _ _ e)
    obtain ⟨acc, hAc, pA, s⟩ := h
    rw [show qvs.length = q.rules.length from pq9.length, List.take_length, xl] at pA
    refine ⟨L, acc, rfl, .inl ⟨sql hAc, fun T8 hT8 => ?_⟩⟩
    have s12 := same_new (o := .tup acc) hT8
    have s912 := Same.tr (Same.tr s10 s) s12
    refine cat_rules (RusH.kt (kt_same s912) hpy9) (⟨T8, acc, rfl, upd_same, paired_mono (fun _ _ z => z.kt (kt_same s12)) pA⟩ : RusH _ (.ref T8) (q.rules.map (moveR (p.doms.length : Int)))) (by rw [List.length_map]; omega) fun wr H13 s13 hwr => ⟨(show 2 ≤ sizeLine by decide), fun T9 hT9' => ?_⟩
    have s14 := same_new (o := .tup [wd, wr]) hT9'
    have s914 := Same.tr s912 (Same.tr s13 s14)
    have hwh : PzH (upd H13 T9 (.tup [wd, wr])) (.ref T9) (besideP p q) := ⟨T9, wd, wr, rfl, upd_same, RowsH.kt (kt_same (Same.tr (Same.tr s s12) (Same.tr s13 s14))) hwd, RusH.kt (kt_same s14) hwr⟩
    have w1 := w19.same s914
    generalize upd H13 T9 (.tup [wd, wr]) = H14 at s914 hwh w1 ⊢
    clear s14 hT9' hwr s13 s912 s12 hT8 pA hAc s hL hwd s10
    have k914 := kt_same s914
    have hp := hp9.kt k914
    have hq := hq9.kt k914
    have hla := hla9.kt k914
    have hpa := k914 _ _ hpa9
    have hpx := RowsH.kt k914 hpx9
    have hpy := RusH.kt k914 hpy9
    have hT7 := k914 _ _ hT9
    have hlr := RusH.kt k914 hlr
    clear hp9 hq9 hla9 hpa9 hpx9 hpy9 hxa9 hT9 k914 s914 w19 hqa9 hqx9 hqy9 hyb9 pq9
    -- joint
    refine ⟨_, rfl, _, rfl, .ref pa, p, .ref T7, ⟨p.doms, rs⟩, rfl, hp, hla, (by show p.rules.length + rs.length ≤ 1000; omega), fun wj H15 s15 hj => ?_⟩
    refine ⟨_, rfl, pa, _, 0, _, rfl, rfl, sqt (s15 _ _ hpa), rfl, ?_⟩
    refine ⟨_, rfl, pa, _, 1, _, rfl, rfl, sqt (s15 _ _ hpa), rfl, _, rfl, T7, _, 1, _, rfl, rfl, sqt (s15 _ _ hT7), rfl, ?_⟩
    refine cat_rules (RusH.kt (kt_same s15) hpy) (RusH.kt (kt_same s15) hlr) (by omega) fun wc H16 s16 hc => ⟨(show 2 ≤ sizeLine by decide), fun T10 hT10 => ?_⟩
    have s17 := same_new (o := .tup [.ref xa, wc]) hT10
    have s157 := Same.tr s16 s17
    refine ⟨dPuz (addRules p rs), dPuz (addRules p rs), puz_dp (hj.kt (kt_same s157)), puz_dp (⟨T10, .ref xa, wc, rfl, upd_same, RowsH.kt (kt_same (Same.tr s15 s157)) hpx, RusH.kt (kt_same s17) hc⟩ : PzH _ (.ref T10) (addRules p rs)), cmp_puz _, cmp_puz _, _, rfl, ?_⟩
    rw [eqv_puz]
    refine ifF rfl ?_
    have s18 := Same.tr s15 s157
    generalize upd H16 T10 (.tup [.ref xa, wc]) = H17 at s18 ⊢
    clear s157 s17 hT10 hc s16 hj s15
    have k18 := kt_same s18
    have w2 := w1.same s18
    -- beside
    refine ⟨_, rfl, _, rfl, .ref pa, p, .ref qa, q, rfl, hp.kt k18, hq.kt k18, by omega, by omega, okq.small, fun wb H18 s19 hb => ?_⟩
    refine ⟨_, rfl, dPuz (besideP p q), dPuz (besideP p q), puz_dp hb, puz_dp ((hwh.kt k18).kt (kt_same s19)), cmp_puz _, cmp_puz _, _, rfl, ?_⟩
    rw [eqv_puz]
    refine ifF rfl ?_
    have w3 := w2.same s19
    have k19 := k18.trans (kt_same s19)
    have hp3 := hp.kt k19
    have hpa3 := k19 _ _ hpa
    have hpx3 := RowsH.kt k19 hpx
    have hpy3 := RusH.kt k19 hpy
    clear hp hq hla hpa hpx hpy hT7 hlr hwh w1 w2 hb k18 k19 s18 s19
    obtain ⟨ya, yvs, rfl, hya3, pyv⟩ := id hpy3
    have yl := pyv.length
    -- each rule left out
    refine ⟨_, rfl, pa, _, 1, _, rfl, rfl, sqt hpa3, rfl, ya, _, rfl, .inr (sqt hya3), _, rfl, by omega, by omega, ?_⟩
    rw [yl]
    refine for_it (walk_range (lo := 0) (n := ((p.rules.length : Nat) : Int).toNat)) (fun j σ H' => ∃ o9, σ = [some (.ref a), some (.ref d), some (.int (0 + ((i : Nat) : Int))), some (.ref pa), some (.str (dPuz p).shown), some (.ref lr), some (.ref qa), some (.ref T7), some (.ref T9), o9, v10, v11] ∧ Same H18 H')
      ⟨v9, rfl, same_refl H18⟩ (fun j σ H' _ h => trivial) (fun j x σ H' H'' hj h y => ?_) (fun σ H' h => ?_)
    · obtain ⟨rfl, rfl⟩ := y
      obtain ⟨o9, rfl, s⟩ := h
      have jl : j < p.rules.length := by rw [Int.toNat_natCast] at hj; exact hj
      have ks := kt_same s
      rw [show ((fun i : Nat => V.int (0 + (i : Int))) j) = V.int (j : Int) from congrArg V.int (Int.zero_add _)]
      refine ⟨_, rfl, _, rfl, .ref pa, p, j, rfl, hp3.kt ks, jl, by omega, fun ww H20 s20 hw => ?_⟩
      have k20 := ks.trans (kt_same s20)
      refine ⟨_, rfl, pa, _, 0, _, rfl, rfl, sqt (k20 _ _ hpa3), rfl, ?_⟩
      refine ⟨_, rfl, pa, _, 1, _, rfl, rfl, sqt (k20 _ _ hpa3), rfl, _, rfl, _, rfl, ?_⟩
      refine part_rules (RusH.kt k20 hpy3) none (some (j : Int)) fun w1 H21 s21 h1 => ?_
      refine ⟨_, rfl, pa, _, 1, _, rfl, rfl, sqt (s21 _ _ (k20 _ _ hpa3)), rfl, _, rfl, _, _, rfl, rfl, _, rfl, ?_⟩
      dsimp only [tNoPart]
      refine part_rules (RusH.kt (k20.trans (kt_same s21)) hpy3) (some ((j : Int) + 1)) none fun w2 H22 s22 h2 => ?_
      have e0 : HT.sIx p.rules.length 0 none = 0 := rfl
      have e1 : HT.sIx p.rules.length p.rules.length (some (j : Int)) = j := sIx_nat _ (Nat.le_of_lt jl)
      have e2 : HT.sIx p.rules.length 0 (some ((j : Int) + 1)) = j + 1 := sIx_nat (n := p.rules.length) (j := j + 1) _ jl
      have e3 : HT.sIx p.rules.length p.rules.length none = p.rules.length := rfl
      rw [e0, e1, List.drop_zero, Nat.sub_zero] at h1
      rw [e2, e3, List.take_of_length_le (Nat.le_of_eq List.length_drop)] at h2
      refine cat_rules (RusH.kt (kt_same s22) h1) h2 (by rw [List.length_take, List.length_drop]; omega) fun w4 H23 s23 h4 => ⟨(show 2 ≤ sizeLine by decide), fun T hT => ?_⟩
      have s24 := same_new (o := .tup [.ref xa, w4]) hT
      have s204 := Same.tr s21 (Same.tr s22 (Same.tr s23 s24))
      refine ⟨dPuz (dropRule p j), dPuz (dropRule p j), puz_dp (hw.kt (kt_same s204)), puz_dp (⟨T, .ref xa, w4, rfl, upd_same, RowsH.kt (k20.trans (kt_same s204)) hpx3, RusH.kt (kt_same s24) h4⟩ : PzH _ (.ref T) (dropRule p j)), cmp_puz _, cmp_puz _, _, rfl, ?_⟩
      rw [eqv_puz]
      refine ifF rfl ?_
      exact ⟨_, rfl, Same.tr s (Same.tr s20 s204)⟩
    · obtain ⟨o9, rfl, s⟩ := h
      have w4 := w3.same s
      refine ⟨_, rfl, .ref pa, dPuz p, rfl, puz_dp (hp3.kt (kt_same s)), g1, g2, g3, g4, _, rfl, rfl, _, rfl, ?_⟩
      refine ifF (by simp) ?_
      exact ⟨⟨_, _, _, _, _, _, _, _, _, _, rfl⟩, w4.src, w4.tb _ tT, w4.tb _ tJ⟩
  · exact k _
end
end G9

set_option Elab.async false
set_option linter.all false
set_option maxRecDepth 100000
set_option maxHeartbeats 4000000
namespace G9
open PySem PySem.Spec PyProof.Rows L2 GX
/-! the end, where what is around the law's call is known: nothing is being shown -/
abbrev eTab : Obj := { cls := .none, data := .fields #[] }
/-- what is tracked as the law is called: tables, the script (if it is not written) -/
def hpE (K : PySem.W.Frag) (a : Addr) (o : Obj) (xs : List V) (ts : List Addr) : Hp := fun b =>
  if b ∈ ts then some (.tbl #[]) else if b = a ∧ K.lookup a = none then some (.frz o (.lst xs)) else none
theorem hpE_tab {K : PySem.W.Frag} {a : Addr} {o : Obj} {xs : List V} {ts : List Addr} {b : Addr} (h : b ∈ ts) : hpE K a o xs ts b = some (.tbl #[]) := if_pos h
theorem hpE_inv {K : PySem.W.Frag} {a : Addr} {o : Obj} {xs : List V} {ts : List Addr} {b : Addr} {u : HO} (h : hpE K a o xs ts b = some u) : (b ∈ ts ∧ u = .tbl #[]) ∨ (b ∉ ts ∧ b = a ∧ K.lookup a = none ∧ u = .frz o (.lst xs)) := by
  by_cases c : b ∈ ts
  · rw [hpE_tab c] at h
    exact .inl ⟨c, (Option.some.inj h).symm⟩
  · have e : hpE K a o xs ts b = if b = a ∧ K.lookup a = none then some (.frz o (.lst xs)) else none := if_neg c
    rw [e] at h
    by_cases c2 : b = a ∧ K.lookup a = none
    · rw [if_pos c2] at h
      exact .inr ⟨c, c2.1, c2.2, (Option.some.inj h).symm⟩
    · rw [if_neg c2] at h
      cases h
section
variable {P : Program} {w : World} {K : PySem.W.Frag} {mg mb : Str → Option Value} {fa a : Addr} {cs : List (Addr × Addr)} {s : Shared} {us : List Value} {ns : List Int}
theorem call_end (KX : K.In s.heap) (hG : s.heap.Ns mainGlobals mg) (hB : s.heap.Ns builtinsNs mb) (hBB : ∀ x : Str, x ≠ "__name__" → mb x = bootBuiltins x) (hL : s.heap.NoLimit) (hgen : s.gens = #[])
    (tE : ∀ p ∈ cs, s.heap.get? p.2 = some eTab) (tK : ∀ p ∈ cs, K.lookup p.2 = none) (tC : ∀ p ∈ cs, PySem.W.CodeHd s.heap p.1 p.2)
    (hmod : ∃ (m : Addr) (ob : Obj), mg "__builtins__" = some (.ref m) ∧ m ≠ builtinsNs ∧ s.heap.get? m = some ob ∧ ob.cls = .type "module" ∧ ob.dict = some builtinsNs ∧ ob.data = .plain)
    (hs : s.heap.get? a = some { cls := .type "list", data := .seq us.toArray }) (hi : IntsAre us ns) (hn : ns.length ≤ 63)
    (run : ∀ (H : Hp) (base : Heap), Env0 P w K mg base callerA [] s H → (∀ p ∈ cs, GxR.TabB base mg p.1 p.2) → (∀ p ∈ cs, H p.2 = some (.tbl #[])) → SqL K H a (ns.map V.int) →
      codeAny (model P w) callerA (.call (.ref fa) ⟨[.ref a], []⟩) (CR CX0 [] P w H s (fun v _ => v = .bl true) E0) s) :
    codeAny (model P w) callerA (.call (.ref fa) ⟨[.ref a], []⟩) (fun r s' => r = .ok (.ret (.bool true)) ∧ OldK s.heap s'.heap ∧ s'.os = s.os ∧ AllBare s'.gens) s := by
  have tt : ∀ b ∈ cs.map (·.2), s.heap.get? b = some eTab ∧ K.lookup b = none := fun b hb => by
    obtain ⟨p, hp, rfl⟩ := List.mem_map.mp hb
    exact ⟨tE p hp, tK p hp⟩
  have into : ∀ p ∈ cs, p.2 ∈ cs.map (·.2) := fun p hp => List.mem_map_of_mem hp
  generalize hHe : hpE K a { cls := .type "list", data := .seq us.toArray } (ns.map V.int) (cs.map (·.2)) = H
  have inv : ∀ {b : Addr} {u : HO}, H b = some u → (b ∈ cs.map (·.2) ∧ u = .tbl #[]) ∨ (b ∉ cs.map (·.2) ∧ b = a ∧ K.lookup a = none ∧ u = .frz { cls := .type "list", data := .seq us.toArray } (.lst (ns.map V.int))) := fun {b u} e => by
    rw [← hHe] at e
    exact hpE_inv e
  have rv : Vals (ns.map V.int) us := vals_ints hi
  -- what is neither a table nor a list is not tracked
  have off : ∀ {b : Addr} {o : Obj}, s.heap.get? b = some o → o.data ≠ .fields #[] → (∀ xs n, o.data ≠ .seq xs n) → H b = none := fun {b o} e n1 n2 => by
    cases q : H b with
    | none => rfl
    | some u =>
      rcases inv q with ⟨m, _⟩ | ⟨_, m, _⟩
      · rw [(tt b m).1] at e
        exact absurd (congrArg Obj.data (Option.some.inj e)).symm n1
      · rw [m, hs] at e
        exact absurd (congrArg Obj.data (Option.some.inj e)).symm (n2 _ _)
  have nsB : ∀ {b : Addr} {m : Str → Option Value}, s.heap.Ns b m → (hidT s.heap H).Ns b m := fun ⟨o, es, ep, e, d, r⟩ =>
    ⟨o, es, ep, hidT_get e (off e (by rw [d]; exact fun z => nomatch z) (by rw [d]; exact fun _ _ z => nomatch z)), d, r⟩
  have kB : K.In (hidT s.heap H) := fun b o e => hidT_get (KX b o e) (by
    cases q : H b with
    | none => rfl
    | some u =>
      rcases inv q with ⟨m, _⟩ | ⟨_, m, z, _⟩
      · rw [(tt b m).2] at e
        cases e
      · rw [m, z] at e
        cases e)
  have md : L2.Mod K mg (hidT s.heap H) := ⟨kB, nsB hG, ⟨mb, nsB hB, hBB⟩, hL.elim fun m h => ⟨m, nsB h.1, h.2⟩⟩
  have hok : HOk P w H s.heap := fun b u e => by
    rcases inv e with ⟨m, rfl⟩ | ⟨_, rfl, _, rfl⟩
    · exact (tt b m).1
    · exact ⟨hs, by rw [List.length_map, sizeLine_eq]; omega, us, _, rv, hs⟩
  have env : Env0 P w K mg (hidT s.heap H) callerA [] s H := by
    refine ⟨rfl, md, fun b o e => of_hidT e, Nat.le_of_eq (hidT_size _ _), trivial, fun b hb => ?_, hok, .of_eq hgen⟩
    cases hb
  have tab : ∀ p ∈ cs, GxR.TabB (hidT s.heap H) mg p.1 p.2 := fun p hp => by
    refine ⟨?_, ?_, fun z => ?_⟩
    · obtain ⟨o, vs, r1, r2, r3, r4, r5, r6, r7, e, q1, q2, q3, rest⟩ := tC p hp
      refine ⟨o, vs, r1, r2, r3, r4, r5, r6, r7, hidT_get e (off e (fun z => ?_) fun xs n z => ?_), q1, q2, q3, rest⟩
      · rw [q2] at z
        cases z
        simp at q3
      · rw [q2] at z
        cases z
    · obtain ⟨m, ob, b1, b2, b3, b4, b5, b6⟩ := hmod
      refine ⟨m, ob, b1, b2, fun z => ?_, fun z => ?_, hidT_get b3 (off b3 (by rw [b6]; exact fun z => nomatch z) (by rw [b6]; exact fun _ _ z => nomatch z)), b4, b5, b6⟩
      · obtain ⟨o, es, ep, e, d, _⟩ := hG
        rw [z, e] at b3
        rw [← Option.some.inj b3, d] at b6
        cases b6
      · rw [z, tE p hp] at b3
        rw [← Option.some.inj b3] at b6
        cases b6
    · obtain ⟨o, es, ep, e, d, _⟩ := hG
      rw [z, tE p hp] at e
      rw [← Option.some.inj e] at d
      cases d
  have scr : SqL K H a (ns.map V.int) := by
    cases q : K.lookup a with
    | some o =>
      have e := KX a o q
      rw [hs] at e
      exact .inr ⟨o, us.toArray, _, q, by rw [← Option.some.inj e], by rw [← Option.some.inj e], by rw [← Option.some.inj e], by rw [List.size_toArray, ← rv.length, List.length_map, sizeLine_eq]; omega, by simpa using rv⟩
    | none =>
      refine .inl (.inr ⟨{ cls := .type "list", data := .seq us.toArray }, ?_⟩)
      have na : a ∉ cs.map (·.2) := fun z => by
        have e := (tt a z).1
        rw [hs] at e
        cases congrArg Obj.data (Option.some.inj e)
      rw [← hHe]
      exact (if_neg na).trans (if_pos ⟨rfl, q⟩)
  refine codeAny_mono (run H _ env tab (fun p hp => by rw [← hHe]; exact hpE_tab (into p hp)) scr) fun r s' hr => ?_
  match r, hr with
  | .ok (.ret u), ⟨v, H', os, bare, un, hok', rel, q⟩ =>
    subst q
    have eu : u = Value.bool true := rel
    subst eu
    have same : ∀ b o, b ∉ cs.map (·.2) → s.heap.get? b = some o → s'.heap.get? b = some o := fun b o nb e => by
      cases z : H b with
      | none => exact un.keep b o e z (fun m => nomatch m) (fun m => nomatch m)
      | some u =>
        rcases inv z with ⟨m, _⟩ | ⟨_, _, _, ez⟩
        · exact absurd m nb
        · rw [ez] at z
          have i1 := (hok b _ z).1
          rw [e] at i1
          rw [i1]
          exact (hok' b _ (un.frzs b _ _ z)).1
    have more : ∀ b ∈ cs.map (·.2), ∃ m : Array Value, s'.heap.get? b = some { cls := .none, data := .fields m } := fun b hb => by
      obtain ⟨m, z⟩ := un.tbls b #[] (by rw [← hHe]; exact hpE_tab hb)
      exact ⟨_, hok' b _ z⟩
    refine ⟨rfl, ⟨fun b o e => ?_, fun b o e => ?_⟩, os, bare⟩
    · by_cases hb : b ∈ cs.map (·.2)
      · obtain ⟨p, hp, ep⟩ := List.mem_map.mp hb
        obtain ⟨m, hm⟩ := more b hb
        have e2 := (tt b hb).1
        rw [e] at e2
        have e3 := Option.some.inj e2
        subst e3
        refine .inr (.inl ⟨?_, rfl, #[], m, rfl, by rw [Array.empty_append]; exact hm⟩)
        rw [← ep]
        exact ((tC p hp).tab (tE p hp)).isCodeTable
      · exact .inl (same b o hb e)
    · by_cases hb : b ∈ cs.map (·.2)
      · obtain ⟨m, hm⟩ := more b hb
        exact ⟨_, hm⟩
      · exact ⟨o, same b o hb e⟩
end
end G9

set_option Elab.async false
set_option linter.all false
set_option maxRecDepth 100000
set_option maxHeartbeats 0
namespace G9
open PySem PySem.Spec PyProof.Rows L2 GX
/-! what the head tells -/
def dfn (at_ : Str × Option Str) (name qual : Str) (st : Stmt) : He.DefD := ⟨at_, name, qual, defArgs st, defBody st, defScope st, [], []⟩
def glN : List Str := (["is_whole", "cells_of", "stretches", "_partners", "joined_to_first", "fits", "values_under", "_stands_in", "first_broken", "part_of", "cut_to", "_row_lookup"] : List Str) ++ (["_lets", "_let_by_all", "answers", "answers_with", "answer_count", "first_answer", "settled", "judge_answer", "without_rule", "joint", "_moved", "beside"] : List Str) ++ (["free_cells", "answer_values", "common_part", "is_forced", "_law_open_cells", "_law_pick", "_law_any_order", "_law_scope", "_law_runs", "_law_is_joined", "_law_fits", "_law_rows"] : List Str) ++ (["_law_answers", "_law_draw_rule", "_law_draw_puzzle", "_law_with", "_law_draw_part", "_law_fault", "_law_shifted", "_law_common", "_law_told_right", "_law_judged_right", "law"] : List Str)
def frN : List Str := (["len", "all", "any", "enumerate", "tuple", "list", "set", "sum", "max", "min", "sorted", "range"] : List Str) ++ (["zip", "int", "abs", "repr", "isinstance", "dict", "bool"] : List Str)
def fa : List He.Fa := glN.map .glo ++ frN.map .free
def fn : List He.DefD := ([dfn ("is_whole", none) "is_whole" "is_whole" sIsWhole, dfn ("cells_of", none) "cells_of" "cells_of" sCellsOf, dfn ("stretches", none) "stretches" "stretches" sStretch, dfn ("_partners", none) "_partners" "_partners" sPartners, dfn ("joined_to_first", none) "joined_to_first" "joined_to_first" sAreJoined, dfn ("fits", none) "fits" "fits" sFits, dfn ("values_under", none) "values_under" "values_under" sUnder, dfn ("_stands_in", none) "_stands_in" "_stands_in" sStands, dfn ("first_broken", none) "first_broken" "first_broken" sBroken, dfn ("part_of", none) "part_of" "part_of" sPartOf, dfn ("cut_to", none) "cut_to" "cut_to" sCutTo, dfn ("_row_lookup", none) "_row_lookup" "_row_lookup" sLookup] : List He.DefD) ++ ([dfn ("_lets", none) "_lets" "_lets" sLets, dfn ("_let_by_all", none) "_let_by_all" "_let_by_all" sByAll, dfn ("answers", none) "answers" "answers" sAnswers, dfn ("answers_with", none) "answers_with" "answers_with" sAnsWith, dfn ("answer_count", none) "answer_count" "answer_count" sCount, dfn ("first_answer", none) "first_answer" "first_answer" sFirst, dfn ("settled", none) "settled" "settled" sSettled, dfn ("judge_answer", none) "judge_answer" "judge_answer" sJudge, dfn ("without_rule", none) "without_rule" "without_rule" sWithout, dfn ("joint", none) "joint" "joint" sJoint, dfn ("_moved", none) "_moved" "_moved" sMoved, dfn ("beside", none) "beside" "beside" sBeside] : List He.DefD) ++ ([dfn ("free_cells", none) "free_cells" "free_cells" sFree, dfn ("answer_values", none) "answer_values" "answer_values" sAnsVals, dfn ("common_part", none) "common_part" "common_part" sCommon, dfn ("is_forced", none) "is_forced" "is_forced" sForced, dfn ("_law_open_cells", none) "_law_open_cells" "_law_open_cells" sOpen, dfn ("_law_pick", none) "_law_pick" "_law_pick" sPick, dfn ("_law_any_order", none) "_law_any_order" "_law_any_order" sOrder, dfn ("_law_scope", none) "_law_scope" "_law_scope" sScope, dfn ("_law_runs", none) "_law_runs" "_law_runs" sRuns, dfn ("_law_is_joined", none) "_law_is_joined" "_law_is_joined" sLJoined, dfn ("_law_fits", none) "_law_fits" "_law_fits" sLFits, dfn ("_law_rows", none) "_law_rows" "_law_rows" sRows] : List He.DefD) ++ ([dfn ("_law_answers", none) "_law_answers" "_law_answers" sLAnswers, dfn ("_law_draw_rule", none) "_law_draw_rule" "_law_draw_rule" sDrawRule, dfn ("_law_draw_puzzle", none) "_law_draw_puzzle" "_law_draw_puzzle" sDrawPuzzle, dfn ("_law_with", none) "_law_with" "_law_with" sWith, dfn ("_law_draw_part", none) "_law_draw_part" "_law_draw_part" sDrawPart, dfn ("_law_fault", none) "_law_fault" "_law_fault" sFault, dfn ("_law_shifted", none) "_law_shifted" "_law_shifted" sShift, dfn ("_law_common", none) "_law_common" "_law_common" sLCommon, dfn ("_law_told_right", none) "_law_told_right" "_law_told_right" sTold, dfn ("_law_judged_right", none) "_law_judged_right" "_law_judged_right" sJudged, dfn ("law", none) "law" "law" sLaw] : List He.DefD)
def tf : List He.Defn := [("_let_by_all", none), ("judge_answer", none)]
def exK2 (K : PySem.W.Frag) : Bool := true
def loN : List Str := (["is_whole", "cells_of", "stretches", "_partners", "joined_to_first", "fits", "values_under", "_stands_in", "first_broken", "part_of", "cut_to", "_row_lookup"] : List Str) ++ (["_lets", "_let_by_all", "answers", "answers_with", "answer_count", "first_answer", "settled", "judge_answer", "without_rule", "joint", "_moved", "beside"] : List Str) ++ (["free_cells", "answer_values", "common_part", "is_forced", "_law_open_cells", "_law_pick", "_law_any_order", "_law_scope", "_law_runs", "_law_is_joined", "_law_fits", "_law_rows"] : List Str) ++ (["_law_answers", "_law_draw_rule", "_law_draw_puzzle", "_law_with", "_law_draw_part", "_law_fault", "_law_shifted", "_law_common", "_law_told_right", "_law_judged_right"] : List Str)
abbrev R : PySem.W.OpenRow := PySem.W.OpenLaw.row PySem.Challenge.rw_toldreasons_k05_answers_by_trying
abbrev hk : PySem.W.Hook := He.hookX 5 fa fn [] tf exK2
def ob (s : PySem.W.SharedT) : He.AlX := He.obsX 5 fa fn [] tf exK2 (HandSHeadRun.getT s)
theorem ob_eq (s : PySem.W.SharedT) : ob s = hk.obs s.abs := He.obsX_eq (HandSHeadRun.getT_eq s)
theorem run (w : World) : HandSHeadRun.RunEq R (PySem.W.view R.prog [50]) hk ob 5000 loN w := by
  intro os
  kernel_rfl
end G9

set_option Elab.async false
set_option linter.all false
set_option maxRecDepth 100000
set_option maxHeartbeats 8000000
namespace G9
open PySem PySem.Spec PyProof.Rows L2 GX
/-- a def with its code object -/
theorem funC_of {K : PySem.W.Frag} {x qual : Str} {st : Stmt} {p : Str × Option Str} (h : ∃ fd, FunD K x qual (defArgs st) (defBody st) (defScope st) [] [] (He.fAd K p) fd) : ∃ fd, FunC K x qual st (He.fAd K p) (He.codeOf K p) fd := by
  obtain ⟨fd, F⟩ := h
  obtain ⟨oc, od, dV, kV, doc, pm, an, cdv, ct, osl, rfl, lk, hcd, hd, _⟩ := F.ex
  obtain ⟨c, rfl⟩ := He.codeIn_ref hcd
  rcases hd with ⟨_, rfl⟩ | ⟨z, _⟩
  · rw [He.codeOf_eq lk rfl]
    exact ⟨_, funC_mk lk hcd F.kp⟩
  · exact absurd rfl z
theorem funC_at {K : PySem.W.Frag} (D : He.SaysD fa fn K) (i : Nat) {p : Str × Option Str} {x qual : Str} {st : Stmt} (h : fn[i]? = some (dfn p x qual st)) : ∃ fd, FunC K x qual st (He.fAd K p) (He.codeOf K p) fd := funC_of (x := x) (qual := qual) (st := st) (p := p) (D.def_ i h)
theorem bind1 {K : PySem.W.Frag} {x qual : Str} {st : Stmt} {f : Addr} {fd : FuncData} {ps : List Str} (F : Fun K x qual st f fd)
    (h : ∀ (kV doc pm : Value) (an : Option Addr) (cdv ct : Value) (us : List Value), us.length = ps.length → bindArgs (PySem.W.fnOf x qual (defArgs st) (defBody st) (defScope st) .none kV doc pm an cdv ct) ⟨us, []⟩ = pure (ps.zip us)) : Binds K fd ps [] := F.binds h
theorem tabG_mk {H : Hp} {P : Addr} (h : H P = some (.tbl #[])) : GxR.TabG H P := ⟨#[], h, trivial⟩
theorem at_head {w : World} {K : PySem.W.Frag} {h : Heap} {mg : Str → Option Value} {f : Addr} (X : K.In h) (G : h.Ns mainGlobals mg) (hf : mg "law" = some (.ref f)) (c : He.SaysX fa fn [] tf exK2 w h K) :
    ∃ pT pJ cT cJ : Addr, tf.map (He.cT K) = [(cT, pT), (cJ, pJ)] ∧ ∃ fd : FuncData, Fun K "law" "law" sLaw f fd ∧ Binds K fd ["_law_script"] [] ∧
      ∀ {P : Program} {base : Heap}, GxR.TabB base mg cT pT → GxR.TabB base mg cJ pJ → ∀ (cdv : Value) (A : Around) (outer : List Env) (s : Shared) (H : Hp) (vs : List V) (Q : VK) (E : XK), Room 17 (A.deeper (envOfC "law" (defScope sLaw) s.heap.objs.size f cdv)) → A.guards = some [] → spLaw K pT pJ vs H Q E →
        ∃ t, PSs (cxOf CX0 P w K mg base nmLaw "law" (defScope sLaw) f cdv A outer s H E).nox (defBody sLaw) t ∧ t { nx := fun _ H' => Q .non H', rt := Q } (start nmLaw vs) H := by
  have D := c.t.d
  have gl : ∀ (i : Nat) {x : Str}, fa[i]? = some (.glo x) → mg x = some (.ref (He.ga K x)) := fun i x q => He.glo_ok X G (D.fact i q)
  have fr : ∀ (i : Nat) {x : Str}, fa[i]? = some (.free x) → mg x = none := fun i x q => He.free_ok X G (D.fact i q)
  obtain ⟨d_sIsWhole, F_sIsWhole⟩ := funC_at D 0 rfl
  obtain ⟨d_sCellsOf, F_sCellsOf⟩ := funC_at D 1 rfl
  obtain ⟨d_sStretch, F_sStretch⟩ := funC_at D 2 rfl
  obtain ⟨d_sPartners, F_sPartners⟩ := funC_at D 3 rfl
  obtain ⟨d_sAreJoined, F_sAreJoined⟩ := funC_at D 4 rfl
  obtain ⟨d_sFits, F_sFits⟩ := funC_at D 5 rfl
  obtain ⟨d_sUnder, F_sUnder⟩ := funC_at D 6 rfl
  obtain ⟨d_sStands, F_sStands⟩ := funC_at D 7 rfl
  obtain ⟨d_sBroken, F_sBroken⟩ := funC_at D 8 rfl
  obtain ⟨d_sPartOf, F_sPartOf⟩ := funC_at D 9 rfl
  obtain ⟨d_sCutTo, F_sCutTo⟩ := funC_at D 10 rfl
  obtain ⟨d_sLookup, F_sLookup⟩ := funC_at D 11 rfl
  obtain ⟨d_sLets, F_sLets⟩ := funC_at D 12 rfl
  obtain ⟨d_sByAll, F_sByAll⟩ := funC_at D 13 rfl
  obtain ⟨d_sAnswers, F_sAnswers⟩ := funC_at D 14 rfl
  obtain ⟨d_sAnsWith, F_sAnsWith⟩ := funC_at D 15 rfl
  obtain ⟨d_sCount, F_sCount⟩ := funC_at D 16 rfl
  obtain ⟨d_sFirst, F_sFirst⟩ := funC_at D 17 rfl
  obtain ⟨d_sSettled, F_sSettled⟩ := funC_at D 18 rfl
  obtain ⟨d_sJudge, F_sJudge⟩ := funC_at D 19 rfl
  obtain ⟨d_sWithout, F_sWithout⟩ := funC_at D 20 rfl
  obtain ⟨d_sJoint, F_sJoint⟩ := funC_at D 21 rfl
  obtain ⟨d_sMoved, F_sMoved⟩ := funC_at D 22 rfl
  obtain ⟨d_sBeside, F_sBeside⟩ := funC_at D 23 rfl
  obtain ⟨d_sFree, F_sFree⟩ := funC_at D 24 rfl
  obtain ⟨d_sAnsVals, F_sAnsVals⟩ := funC_at D 25 rfl
  obtain ⟨d_sCommon, F_sCommon⟩ := funC_at D 26 rfl
  obtain ⟨d_sForced, F_sForced⟩ := funC_at D 27 rfl
  obtain ⟨d_sOpen, F_sOpen⟩ := funC_at D 28 rfl
  obtain ⟨d_sPick, F_sPick⟩ := funC_at D 29 rfl
  obtain ⟨d_sOrder, F_sOrder⟩ := funC_at D 30 rfl
  obtain ⟨d_sScope, F_sScope⟩ := funC_at D 31 rfl
  obtain ⟨d_sRuns, F_sRuns⟩ := funC_at D 32 rfl
  obtain ⟨d_sLJoined, F_sLJoined⟩ := funC_at D 33 rfl
  obtain ⟨d_sLFits, F_sLFits⟩ := funC_at D 34 rfl
  obtain ⟨d_sRows, F_sRows⟩ := funC_at D 35 rfl
  obtain ⟨d_sLAnswers, F_sLAnswers⟩ := funC_at D 36 rfl
  obtain ⟨d_sDrawRule, F_sDrawRule⟩ := funC_at D 37 rfl
  obtain ⟨d_sDrawPuzzle, F_sDrawPuzzle⟩ := funC_at D 38 rfl
  obtain ⟨d_sWith, F_sWith⟩ := funC_at D 39 rfl
  obtain ⟨d_sDrawPart, F_sDrawPart⟩ := funC_at D 40 rfl
  obtain ⟨d_sFault, F_sFault⟩ := funC_at D 41 rfl
  obtain ⟨d_sShift, F_sShift⟩ := funC_at D 42 rfl
  obtain ⟨d_sLCommon, F_sLCommon⟩ := funC_at D 43 rfl
  obtain ⟨d_sTold, F_sTold⟩ := funC_at D 44 rfl
  obtain ⟨d_sJudged, F_sJudged⟩ := funC_at D 45 rfl
  obtain ⟨d_sLaw, F_sLaw⟩ := funC_at D 46 rfl
  have ef : f = He.ga K "law" := by
    have z := hf.symm.trans (gl 46 rfl)
    cases z
    rfl
  subst ef
  have B : Bl mg := ⟨fr 47 rfl, fr 48 rfl, fr 49 rfl, fr 50 rfl, fr 51 rfl, fr 52 rfl, fr 53 rfl, fr 54 rfl, fr 55 rfl, fr 56 rfl, fr 57 rfl, fr 58 rfl, fr 59 rfl, fr 60 rfl, fr 61 rfl, fr 62 rfl, fr 63 rfl, fr 64 rfl, fr 65 rfl⟩
  have D_sIsWhole : Df K mg "is_whole" sIsWhole ["value"] (He.ga K "is_whole") d_sIsWhole := ⟨F_sIsWhole.fun, bind1 F_sIsWhole.fun fun _ _ _ _ _ _ us hl => match us, hl with | [_], _ => rfl, gl 0 rfl⟩
  have D_sCellsOf : Df K mg "cells_of" sCellsOf ["rule"] (He.ga K "cells_of") d_sCellsOf := ⟨F_sCellsOf.fun, bind1 F_sCellsOf.fun fun _ _ _ _ _ _ us hl => match us, hl with | [_], _ => rfl, gl 1 rfl⟩
  have D_sStretch : Df K mg "stretches" sStretch ["values"] (He.ga K "stretches") d_sStretch := ⟨F_sStretch.fun, bind1 F_sStretch.fun fun _ _ _ _ _ _ us hl => match us, hl with | [_], _ => rfl, gl 2 rfl⟩
  have D_sPartners : Df K mg "_partners" sPartners ["ties", "cell"] (He.ga K "_partners") d_sPartners := ⟨F_sPartners.fun, bind1 F_sPartners.fun fun _ _ _ _ _ _ us hl => match us, hl with | [_, _], _ => rfl, gl 3 rfl⟩
  have D_sAreJoined : Df K mg "joined_to_first" sAreJoined ["marked", "ties"] (He.ga K "joined_to_first") d_sAreJoined := ⟨F_sAreJoined.fun, bind1 F_sAreJoined.fun fun _ _ _ _ _ _ us hl => match us, hl with | [_, _], _ => rfl, gl 4 rfl⟩
  have D_sFits : Df K mg "fits" sFits ["rule", "values"] (He.ga K "fits") d_sFits := ⟨F_sFits.fun, bind1 F_sFits.fun fun _ _ _ _ _ _ us hl => match us, hl with | [_, _], _ => rfl, gl 5 rfl⟩
  have D_sUnder : Df K mg "values_under" sUnder ["rule", "values"] (He.ga K "values_under") d_sUnder := ⟨F_sUnder.fun, bind1 F_sUnder.fun fun _ _ _ _ _ _ us hl => match us, hl with | [_, _], _ => rfl, gl 6 rfl⟩
  have D_sStands : Df K mg "_stands_in" sStands ["domain", "value"] (He.ga K "_stands_in") d_sStands := ⟨F_sStands.fun, bind1 F_sStands.fun fun _ _ _ _ _ _ us hl => match us, hl with | [_, _], _ => rfl, gl 7 rfl⟩
  have D_sBroken : Df K mg "first_broken" sBroken ["puzzle", "values"] (He.ga K "first_broken") d_sBroken := ⟨F_sBroken.fun, bind1 F_sBroken.fun fun _ _ _ _ _ _ us hl => match us, hl with | [_, _], _ => rfl, gl 8 rfl⟩
  have D_sPartOf : Df K mg "part_of" sPartOf ["values", "cells"] (He.ga K "part_of") d_sPartOf := ⟨F_sPartOf.fun, bind1 F_sPartOf.fun fun _ _ _ _ _ _ us hl => match us, hl with | [_, _], _ => rfl, gl 9 rfl⟩
  have D_sCutTo : Df K mg "cut_to" sCutTo ["puzzle", "f"] (He.ga K "cut_to") d_sCutTo := ⟨F_sCutTo.fun, bind1 F_sCutTo.fun fun _ _ _ _ _ _ us hl => match us, hl with | [_, _], _ => rfl, gl 10 rfl⟩
  have D_sLookup : Df K mg "_row_lookup" sLookup ["rule"] (He.ga K "_row_lookup") d_sLookup := ⟨F_sLookup.fun, bind1 F_sLookup.fun fun _ _ _ _ _ _ us hl => match us, hl with | [_], _ => rfl, gl 11 rfl⟩
  have D_sLets : Df K mg "_lets" sLets ["rule", "rows", "values"] (He.ga K "_lets") d_sLets := ⟨F_sLets.fun, bind1 F_sLets.fun fun _ _ _ _ _ _ us hl => match us, hl with | [_, _, _], _ => rfl, gl 12 rfl⟩
  have D_sByAll : Df K mg "_let_by_all" sByAll ["due", "values"] (He.ga K "_let_by_all") d_sByAll := ⟨F_sByAll.fun, bind1 F_sByAll.fun fun _ _ _ _ _ _ us hl => match us, hl with | [_, _], _ => rfl, gl 13 rfl⟩
  have D_sAnswers : Df K mg "answers" sAnswers ["puzzle"] (He.ga K "answers") d_sAnswers := ⟨F_sAnswers.fun, bind1 F_sAnswers.fun fun _ _ _ _ _ _ us hl => match us, hl with | [_], _ => rfl, gl 14 rfl⟩
  have D_sAnsWith : Df K mg "answers_with" sAnsWith ["puzzle", "part"] (He.ga K "answers_with") d_sAnsWith := ⟨F_sAnsWith.fun, bind1 F_sAnsWith.fun fun _ _ _ _ _ _ us hl => match us, hl with | [_, _], _ => rfl, gl 15 rfl⟩
  have D_sCount : Df K mg "answer_count" sCount ["puzzle"] (He.ga K "answer_count") d_sCount := ⟨F_sCount.fun, bind1 F_sCount.fun fun _ _ _ _ _ _ us hl => match us, hl with | [_], _ => rfl, gl 16 rfl⟩
  have D_sFirst : Df K mg "first_answer" sFirst ["puzzle"] (He.ga K "first_answer") d_sFirst := ⟨F_sFirst.fun, bind1 F_sFirst.fun fun _ _ _ _ _ _ us hl => match us, hl with | [_], _ => rfl, gl 17 rfl⟩
  have D_sSettled : Df K mg "settled" sSettled ["puzzle"] (He.ga K "settled") d_sSettled := ⟨F_sSettled.fun, bind1 F_sSettled.fun fun _ _ _ _ _ _ us hl => match us, hl with | [_], _ => rfl, gl 18 rfl⟩
  have D_sJudge : Df K mg "judge_answer" sJudge ["puzzle", "value"] (He.ga K "judge_answer") d_sJudge := ⟨F_sJudge.fun, bind1 F_sJudge.fun fun _ _ _ _ _ _ us hl => match us, hl with | [_, _], _ => rfl, gl 19 rfl⟩
  have D_sWithout : Df K mg "without_rule" sWithout ["puzzle", "j"] (He.ga K "without_rule") d_sWithout := ⟨F_sWithout.fun, bind1 F_sWithout.fun fun _ _ _ _ _ _ us hl => match us, hl with | [_, _], _ => rfl, gl 20 rfl⟩
  have D_sJoint : Df K mg "joint" sJoint ["one", "other"] (He.ga K "joint") d_sJoint := ⟨F_sJoint.fun, bind1 F_sJoint.fun fun _ _ _ _ _ _ us hl => match us, hl with | [_, _], _ => rfl, gl 21 rfl⟩
  have D_sMoved : Df K mg "_moved" sMoved ["rule", "by"] (He.ga K "_moved") d_sMoved := ⟨F_sMoved.fun, bind1 F_sMoved.fun fun _ _ _ _ _ _ us hl => match us, hl with | [_, _], _ => rfl, gl 22 rfl⟩
  have D_sBeside : Df K mg "beside" sBeside ["one", "other"] (He.ga K "beside") d_sBeside := ⟨F_sBeside.fun, bind1 F_sBeside.fun fun _ _ _ _ _ _ us hl => match us, hl with | [_, _], _ => rfl, gl 23 rfl⟩
  have D_sFree : Df K mg "free_cells" sFree ["puzzle", "answer"] (He.ga K "free_cells") d_sFree := ⟨F_sFree.fun, bind1 F_sFree.fun fun _ _ _ _ _ _ us hl => match us, hl with | [_, _], _ => rfl, gl 24 rfl⟩
  have D_sAnsVals : Df K mg "answer_values" sAnsVals ["puzzle", "c"] (He.ga K "answer_values") d_sAnsVals := ⟨F_sAnsVals.fun, bind1 F_sAnsVals.fun fun _ _ _ _ _ _ us hl => match us, hl with | [_, _], _ => rfl, gl 25 rfl⟩
  have D_sCommon : Df K mg "common_part" sCommon ["puzzle"] (He.ga K "common_part") d_sCommon := ⟨F_sCommon.fun, bind1 F_sCommon.fun fun _ _ _ _ _ _ us hl => match us, hl with | [_], _ => rfl, gl 26 rfl⟩
  have D_sForced : Df K mg "is_forced" sForced ["puzzle", "part"] (He.ga K "is_forced") d_sForced := ⟨F_sForced.fun, bind1 F_sForced.fun fun _ _ _ _ _ _ us hl => match us, hl with | [_, _], _ => rfl, gl 27 rfl⟩
  have D_sOpen : Df K mg "_law_open_cells" sOpen ["_law_script"] (He.ga K "_law_open_cells") d_sOpen := ⟨F_sOpen.fun, bind1 F_sOpen.fun fun _ _ _ _ _ _ us hl => match us, hl with | [_], _ => rfl, gl 28 rfl⟩
  have D_sPick : Df K mg "_law_pick" sPick ["_law_source", "_law_most"] (He.ga K "_law_pick") d_sPick := ⟨F_sPick.fun, bind1 F_sPick.fun fun _ _ _ _ _ _ us hl => match us, hl with | [_, _], _ => rfl, gl 29 rfl⟩
  have D_sOrder : Df K mg "_law_any_order" sOrder ["_law_source", "_law_things"] (He.ga K "_law_any_order") d_sOrder := ⟨F_sOrder.fun, bind1 F_sOrder.fun fun _ _ _ _ _ _ us hl => match us, hl with | [_, _], _ => rfl, gl 30 rfl⟩
  have D_sScope : Df K mg "_law_scope" sScope ["_law_rule"] (He.ga K "_law_scope") d_sScope := ⟨F_sScope.fun, bind1 F_sScope.fun fun _ _ _ _ _ _ us hl => match us, hl with | [_], _ => rfl, gl 31 rfl⟩
  have D_sRuns : Df K mg "_law_runs" sRuns ["_law_values"] (He.ga K "_law_runs") d_sRuns := ⟨F_sRuns.fun, bind1 F_sRuns.fun fun _ _ _ _ _ _ us hl => match us, hl with | [_], _ => rfl, gl 32 rfl⟩
  have D_sLJoined : Df K mg "_law_is_joined" sLJoined ["_law_cells", "_law_ties", "_law_marked"] (He.ga K "_law_is_joined") d_sLJoined := ⟨F_sLJoined.fun, bind1 F_sLJoined.fun fun _ _ _ _ _ _ us hl => match us, hl with | [_, _, _], _ => rfl, gl 33 rfl⟩
  have D_sLFits : Df K mg "_law_fits" sLFits ["_law_rule", "_law_values"] (He.ga K "_law_fits") d_sLFits := ⟨F_sLFits.fun, bind1 F_sLFits.fun fun _ _ _ _ _ _ us hl => match us, hl with | [_, _], _ => rfl, gl 34 rfl⟩
  have D_sRows : Df K mg "_law_rows" sRows ["_law_lots"] (He.ga K "_law_rows") d_sRows := ⟨F_sRows.fun, bind1 F_sRows.fun fun _ _ _ _ _ _ us hl => match us, hl with | [_], _ => rfl, gl 35 rfl⟩
  have D_sLAnswers : Df K mg "_law_answers" sLAnswers ["_law_puzzle"] (He.ga K "_law_answers") d_sLAnswers := ⟨F_sLAnswers.fun, bind1 F_sLAnswers.fun fun _ _ _ _ _ _ us hl => match us, hl with | [_], _ => rfl, gl 36 rfl⟩
  have D_sDrawRule : Df K mg "_law_draw_rule" sDrawRule ["_law_source", "_law_domains"] (He.ga K "_law_draw_rule") d_sDrawRule := ⟨F_sDrawRule.fun, bind1 F_sDrawRule.fun fun _ _ _ _ _ _ us hl => match us, hl with | [_, _], _ => rfl, gl 37 rfl⟩
  have D_sDrawPuzzle : Df K mg "_law_draw_puzzle" sDrawPuzzle ["_law_source", "_law_most"] (He.ga K "_law_draw_puzzle") d_sDrawPuzzle := ⟨F_sDrawPuzzle.fun, bind1 F_sDrawPuzzle.fun fun _ _ _ _ _ _ us hl => match us, hl with | [_, _], _ => rfl, gl 38 rfl⟩
  have D_sWith : Df K mg "_law_with" sWith ["_law_puzzle", "_law_part"] (He.ga K "_law_with") d_sWith := ⟨F_sWith.fun, bind1 F_sWith.fun fun _ _ _ _ _ _ us hl => match us, hl with | [_, _], _ => rfl, gl 39 rfl⟩
  have D_sDrawPart : Df K mg "_law_draw_part" sDrawPart ["_law_source", "_law_puzzle", "_law_most"] (He.ga K "_law_draw_part") d_sDrawPart := ⟨F_sDrawPart.fun, bind1 F_sDrawPart.fun fun _ _ _ _ _ _ us hl => match us, hl with | [_, _, _], _ => rfl, gl 40 rfl⟩
  have D_sFault : Df K mg "_law_fault" sFault ["_law_puzzle", "_law_value"] (He.ga K "_law_fault") d_sFault := ⟨F_sFault.fun, bind1 F_sFault.fun fun _ _ _ _ _ _ us hl => match us, hl with | [_, _], _ => rfl, gl 41 rfl⟩
  have D_sShift : Df K mg "_law_shifted" sShift ["_law_rule", "_law_many"] (He.ga K "_law_shifted") d_sShift := ⟨F_sShift.fun, bind1 F_sShift.fun fun _ _ _ _ _ _ us hl => match us, hl with | [_, _], _ => rfl, gl 42 rfl⟩
  have D_sLCommon : Df K mg "_law_common" sLCommon ["_law_rows_here"] (He.ga K "_law_common") d_sLCommon := ⟨F_sLCommon.fun, bind1 F_sLCommon.fun fun _ _ _ _ _ _ us hl => match us, hl with | [_], _ => rfl, gl 43 rfl⟩
  have D_sTold : Df K mg "_law_told_right" sTold ["_law_source", "_law_puzzle", "_law_rows_here"] (He.ga K "_law_told_right") d_sTold := ⟨F_sTold.fun, bind1 F_sTold.fun fun _ _ _ _ _ _ us hl => match us, hl with | [_, _, _], _ => rfl, gl 44 rfl⟩
  have D_sJudged : Df K mg "_law_judged_right" sJudged ["_law_source", "_law_puzzle", "_law_rows_here"] (He.ga K "_law_judged_right") d_sJudged := ⟨F_sJudged.fun, bind1 F_sJudged.fun fun _ _ _ _ _ _ us hl => match us, hl with | [_, _, _], _ => rfl, gl 45 rfl⟩
  have TO : TxtO K mg (He.ga K "_law_open_cells") (He.ga K "_law_pick") d_sOpen d_sPick :=
    { FOpen := D_sOpen.F, bOpen := D_sOpen.b, gOpen := D_sOpen.g, FPick := D_sPick.F, bPick := D_sPick.b, gPick := D_sPick.g, abs := B.abs, int := B.int, len := B.len }
  refine ⟨_, _, _, _, rfl, d_sLaw, F_sLaw.fun, bind1 F_sLaw.fun fun _ _ _ _ _ _ us hl => match us, hl with | [_], _ => rfl, fun {P base} tb tbJ cdv A outer s H vs Q E hr hA hs => ?_⟩
  have g_sCellsOf := ok_cellsOf (P := P) (w := w) (base := base) D_sCellsOf
  have g_sStretch := ok_stretch (P := P) (w := w) (base := base) B D_sStretch
  have g_sPartners := ok_partners (P := P) (w := w) (base := base) D_sPartners
  have g_sAreJoined := ok_areJoined B D_sAreJoined D_sPartners g_sPartners
  have g_sFits := ok_fits B D_sFits D_sStretch g_sStretch D_sAreJoined g_sAreJoined
  have g_sUnder := ok_under B D_sUnder D_sCellsOf g_sCellsOf
  have g_sPartOf := ok_partOf (P := P) (w := w) (base := base) B D_sPartOf
  have g_sCutTo := ok_cut (P := P) (w := w) (base := base) B D_sCutTo
  have g_sLookup := ok_lookup (P := P) (w := w) (base := base) D_sLookup
  have g_sLets := ok_lets D_sLets D_sUnder g_sUnder D_sFits g_sFits
  have g_sByAll := ok_byAll B tb F_sByAll D_sLets g_sLets
  have g_sAnswers := ok_answers B D_sAnswers D_sLookup g_sLookup D_sCellsOf g_sCellsOf D_sByAll g_sByAll
  have g_sAnsWith := ok_ansWith D_sAnsWith D_sAnswers g_sAnswers D_sCutTo g_sCutTo
  have g_sCount := ok_count B D_sCount D_sAnswers g_sAnswers
  have g_sFirst := ok_first B D_sFirst D_sAnswers g_sAnswers
  have g_sWithout := ok_without (P := P) (w := w) (base := base) D_sWithout
  have g_sJoint := ok_joint (P := P) (w := w) (base := base) D_sJoint
  have g_sMoved := ok_moved (P := P) (w := w) (base := base) B D_sMoved
  have g_sBeside := ok_beside B D_sBeside D_sMoved g_sMoved
  have g_sFree := ok_free B D_sFree D_sAnswers g_sAnswers
  have g_sCommon := ok_common B D_sCommon D_sFirst g_sFirst D_sFree g_sFree D_sPartOf g_sPartOf
  have g_sForced := ok_forced B D_sForced D_sAnsWith g_sAnsWith D_sCount g_sCount
  have g_sOpen := ok_open (P := P) (w := w) (base := base) TO
  have g_sPick := ok_pick (P := P) (w := w) (base := base) TO
  have g_sOrder := ok_order B D_sOrder D_sPick g_sPick
  have g_sScope := ok_scope (P := P) (w := w) (base := base) D_sScope
  have g_sRuns := ok_runs (P := P) (w := w) (base := base) B D_sRuns
  have g_sLJoined := ok_ljoined (P := P) (w := w) (base := base) B D_sLJoined
  have g_sLFits := ok_lfits B D_sLFits D_sRuns g_sRuns D_sLJoined g_sLJoined
  have g_sRows := ok_rows (P := P) (w := w) (base := base) D_sRows
  have g_sLAnswers := ok_lanswers B D_sLAnswers D_sRows g_sRows D_sLFits g_sLFits D_sScope g_sScope
  have g_sDrawRule := ok_drawRule B D_sDrawRule D_sPick g_sPick D_sOrder g_sOrder D_sRows g_sRows
  have g_sDrawPuzzle := ok_drawPuzzle B D_sDrawPuzzle D_sPick g_sPick D_sDrawRule g_sDrawRule
  have g_sWith := ok_with B D_sWith D_sLAnswers g_sLAnswers
  have g_sDrawPart := ok_drawPart B D_sDrawPart D_sPick g_sPick D_sOrder g_sOrder
  have g_sOrderV := ok_orderV B D_sOrder D_sPick g_sPick
  have g_sIsWhole := ok_whole (P := P) (w := w) (base := base) B D_sIsWhole
  have g_sStands := ok_stands D_sStands D_sIsWhole g_sIsWhole
  have g_sBroken := ok_broken B D_sBroken D_sStands g_sStands D_sFits g_sFits D_sUnder g_sUnder
  have g_sSettled := ok_settled D_sSettled D_sAnswers g_sAnswers
  have g_sAnsVals := ok_ansVals B D_sAnsVals D_sAnswers g_sAnswers
  have g_sJudge := ok_judge B tbJ F_sJudge D_sIsWhole g_sIsWhole D_sBroken g_sBroken
  have g_sFault := ok_fault B D_sFault D_sLFits g_sLFits D_sScope g_sScope
  have g_sShift := ok_shift (P := P) (w := w) (base := base) B D_sShift
  have g_sLCommon := ok_lcommon (P := P) (w := w) (base := base) B D_sLCommon
  have g_sTold := ok_told B D_sTold ⟨D_sAnswers, g_sAnswers⟩ ⟨D_sCount, g_sCount⟩ ⟨D_sFirst, g_sFirst⟩ ⟨D_sSettled, g_sSettled⟩ ⟨D_sAnsWith, g_sAnsWith⟩ ⟨D_sAnsVals, g_sAnsVals⟩ ⟨D_sCommon, g_sCommon⟩ ⟨D_sForced, g_sForced⟩ ⟨D_sFree, g_sFree⟩ ⟨D_sPick, g_sPick⟩ ⟨D_sWith, g_sWith⟩ ⟨D_sDrawPart, g_sDrawPart⟩ ⟨D_sLCommon, g_sLCommon⟩
  have g_sJudged := ok_judged B D_sJudged ⟨D_sPick, g_sPick⟩ ⟨D_sOrder, g_sOrderV⟩ ⟨D_sRows, g_sRows⟩ ⟨D_sJudge, g_sJudge⟩ ⟨D_sFault, g_sFault⟩
  exact law_body B ⟨D_sOpen, g_sOpen⟩ ⟨D_sPick, g_sPick⟩ ⟨D_sDrawPuzzle, g_sDrawPuzzle⟩ ⟨D_sLAnswers, g_sLAnswers⟩ ⟨D_sDrawRule, g_sDrawRule⟩ ⟨D_sShift, g_sShift⟩ ⟨D_sJoint, g_sJoint⟩ ⟨D_sBeside, g_sBeside⟩ ⟨D_sWithout, g_sWithout⟩ ⟨D_sTold, g_sTold⟩ ⟨D_sJudged, g_sJudged⟩ hr hA hs
end G9
open PySem PySem.W PySem.Calls PyProof.Rows
set_option maxHeartbeats 0 in
theorem PySem.Challenge.cw_toldreasons_k05_answers_by_trying_holds : PySem.Challenge.rw_toldreasons_k05_answers_by_trying.Holds := by
  w_on; o_law
  refine HandSHeadRun.head_any (r := OpenLaw.row PySem.Challenge.rw_toldreasons_k05_answers_by_trying) (q := view (OpenLaw.row PySem.Challenge.rw_toldreasons_k05_answers_by_trying).prog [50]) (H := G9.hk) (ob := G9.ob) (M := 5000) (loose := G9.loN) (d := HandSHeadRun.topDef (OpenLaw.row PySem.Challenge.rw_toldreasons_k05_answers_by_trying).prog 50) (kwd := []) G9.ob_eq
    (by kernel_rfl) (fun s => by kernel_rfl) G9.run (by kernel_rfl) (by kernel_rfl) (by kernel_rfl) (by rfl) (by first | assumption | decide +kernel) (by decide +kernel) ⟨rfl, rfl, rfl, rfl, rfl, by decide +kernel⟩ ?hw ?hc
  case hw => w_witness2
  case hc =>
    refine Att.attach_callB (l := PySem.Challenge.rw_toldreasons_k05_answers_by_trying) (n := 63) rfl (by kernel_rfl) fun w s₀ s₁ mg mb fa o pm cd doc a vs ns GG Y ho hd hcd hmg hobj hints hlen hbits hg => ?_
    obtain ⟨K, KX, c⟩ := Y
    have hmg2 : mg ("law" : PySem.Str) = some (.ref fa) := by
      have e : (HandSHeadRun.topDef (OpenLaw.row PySem.Challenge.rw_toldreasons_k05_answers_by_trying).prog 50).name = ("law" : PySem.Str) := by kernel_rfl
      rw [← e]
      exact hmg
    obtain ⟨pT, pJ, cT, cJ, ecs, fd, FL, bL, body⟩ := G9.at_head KX GG.T.g hmg2 c
    refine G9.call_end (cs := G9.tf.map (He.cT K)) KX GG.T.g GG.T.b GG.T.builtins GG.T.nolimit hg (fun p hp => ?_) (fun p hp => ?_) (fun p hp => ?_) GG.T.bmain hobj hints hlen (fun H base env tb tE scr => ?_)
    · obtain ⟨q, hq, rfl⟩ := List.mem_map.mp hp
      exact c.empty q hq
    · obtain ⟨q, hq, rfl⟩ := List.mem_map.mp hp
      exact c.out q hq
    · obtain ⟨q, hq, rfl⟩ := List.mem_map.mp hp
      exact PySem.W.codeHd_of_K KX (c.hd q hq)
    · rw [ecs] at tb tE
      have t1 := tb _ (List.mem_cons_self)
      have t2 := tb _ (List.mem_cons_of_mem _ List.mem_cons_self)
      have g1 := G9.tabG_mk (tE _ List.mem_cons_self)
      have g2 := G9.tabG_mk (tE _ (List.mem_cons_of_mem _ List.mem_cons_self))
      refine G9.run_at (k := 17) (ps := ["_law_script"]) (N := G9.nmLaw) (us := [.ref a]) (vs := [.ref a]) (sp := G9.spLaw K pT pJ) FL G9.scLaw ⟨rfl, by decide, by decide⟩ (fun cdv hr => body t1 t2 cdv callerA [] s₁ H [.ref a] (fun v _ => v = .bl true) L2.E0 hr rfl ⟨a, ns, rfl, scr, hlen, g1, g2, fun _ => rfl⟩) rfl env (bL _ _ ?_ rfl) (.cons rfl .nil)
      exact KX

