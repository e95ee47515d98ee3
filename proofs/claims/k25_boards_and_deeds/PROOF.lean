import PyProof.Rows.All
import Wide.All
import OpenK.AllK
import Wide.FinOn
import HandS.ForMost
import HandS.ForExc
import HandS.Deep
import HandS.SetFor
import HandS.Strs
import PyProof.NeData
import HandS.Zip
import HandS.DictComp
import HandS.DictTup
import HandS.TupAny
import KE.GoesEnum
import PyProof.Rows.SumGenD
import HandS.Walk
import HandS.GenOver
import HandS.AnyAll
import HandS.JoinGen
import HandS.Words
import HandS.Style
import KE.GoesZip
import HandS.Conv
import HandS.SortInts
import KE.GoesMore
import HandS.Base
import HandS.Iter
import HandS.Sort
import PyProof.ReprLen
import HandS.IsInst
import HandS.TryOnly
import HandS.DeepEq
import HandS.Small
import KE.KEqDict
import PyProof.EqKinds
import HandS.Dict
import HandS.SortRule
import HandS.Lambda
import HandS.EndBits
import HandS.EndTab
import HandS.Head0
import HandS.Head1
import HandS.Head2
import HandS.HeadHook1
import HandS.HeadHook2
import HandS.HeadHook3
import HandS.HeadHook4
import Lean
import PySem.Challenge.RW_toldreasons_k25_boards_and_deeds
set_option Elab.async false
set_option linter.all false
set_option maxRecDepth 100000
set_option maxHeartbeats 4000000
/-! rules on data: ==, !=, in; sum, max, set of tuples of ints -/
namespace GX
open PySem PySem.Spec PyProof.Rows L2
/-- what may be compared so -/
def Cmp (d : PyData) : Prop := d.canLay0 = true ∧ d.depth ≤ 40
section
variable {X : Cx}
theorem op_eqDD (hu : X.A.units + 64 < cLine) : OpR X (compareOp .Eq) (fun x y H Q => ∃ d e, Dp X.K H x d ∧ Dp X.K H y e ∧ Cmp d ∧ Cmp e ∧ Q (.bl (PyData.eqv d e)) H) := by
  intro pins s σ H x y v u Q I rx ry h
  obtain ⟨d, e, hd, he, cd, ce, q⟩ := h
  obtain ⟨as, r1⟩ := Dp.reads I d x v hd rx
  obtain ⟨bs, r2⟩ := Dp.reads I e y u he ry
  have := cd.2
  exact SeqAt.compareEq_reads r1 r2 cd.1 ce.1 (by have := Nat.min_le_left d.depth e.depth; omega) ⟨.bl _, H, I, rfl, q⟩
theorem op_neDD (hu : X.A.units + 64 < cLine) : OpR X (compareOp .NotEq) (fun x y H Q => ∃ d e, Dp X.K H x d ∧ Dp X.K H y e ∧ Cmp d ∧ Cmp e ∧ Q (.bl (!PyData.eqv d e)) H) := by
  intro pins s σ H x y v u Q I rx ry h
  obtain ⟨d, e, hd, he, cd, ce, q⟩ := h
  obtain ⟨as, r1⟩ := Dp.reads I d x v hd rx
  obtain ⟨bs, r2⟩ := Dp.reads I e y u he ry
  have := cd.2
  exact SeqAt.compareNe_reads r1 r2 cd.1 ce.1 (by have := Nat.min_le_left d.depth e.depth; omega) ⟨.bl _, H, I, rfl, q⟩
/-- x in a tuple or a list of data -/
theorem op_inDD (hu : X.A.units + 64 < cLine) : OpR X (compareOp .In) (fun x y H Q => ∃ d ds, Dp X.K H x d ∧ (Dp X.K H y (.tuple ds) ∨ Dp X.K H y (.list ds)) ∧ Cmp d ∧ PyData.canLayAll0 ds = true ∧ Q (.bl (ds.any fun z => PyData.eqv z d)) H) := by
  intro pins s σ H x y v u Q I rx ry h
  obtain ⟨d, ds, hd, he, cd, ce, q⟩ := h
  obtain ⟨as, r1⟩ := Dp.reads I d x v hd rx
  have := cd.2
  have room : X.A.units + 1 + min (PyData.depthAll ds) d.depth < cLine := by
    have := Nat.min_le_right (PyData.depthAll ds) d.depth
    omega
  rcases he with he | he
  · obtain ⟨bs, r2⟩ := Dp.reads I _ y u he ry
    exact SeqAt.in_tuple_reads r2 r1 ce cd.1 room ⟨.bl _, H, I, rfl, q⟩
  · obtain ⟨bs, r2⟩ := Dp.reads I _ y u he ry
    exact SeqAt.in_list_reads r2 r1 ce cd.1 room ⟨.bl _, H, I, rfl, q⟩
theorem op_notInDD (hu : X.A.units + 64 < cLine) : OpR X (compareOp .NotIn) (fun x y H Q => ∃ d ds, Dp X.K H x d ∧ (Dp X.K H y (.tuple ds) ∨ Dp X.K H y (.list ds)) ∧ Cmp d ∧ PyData.canLayAll0 ds = true ∧ Q (.bl (!ds.any fun z => PyData.eqv z d)) H) := by
  intro pins s σ H x y v u Q I rx ry h
  obtain ⟨d, ds, hd, he, cd, ce, q⟩ := h
  obtain ⟨as, r1⟩ := Dp.reads I d x v hd rx
  have := cd.2
  have room : X.A.units + 1 + min (PyData.depthAll ds) d.depth < cLine := by
    have := Nat.min_le_right (PyData.depthAll ds) d.depth
    omega
  rcases he with he | he
  · obtain ⟨bs, r2⟩ := Dp.reads I _ y u he ry
    exact SeqAt.notIn_tuple_reads r2 r1 ce cd.1 room ⟨.bl _, H, I, rfl, q⟩
  · obtain ⟨bs, r2⟩ := Dp.reads I _ y u he ry
    exact SeqAt.notIn_list_reads r2 r1 ce cd.1 room ⟨.bl _, H, I, rfl, q⟩
end
end GX

set_option Elab.async false
set_option linter.all false
set_option maxRecDepth 100000
set_option maxHeartbeats 4000000
/-! sum, max, len(set(..)) of a tuple of ints; enumerate of a tuple -/
namespace GX
open PySem PySem.Spec PyProof.Rows L2
section
variable {X : Cx}
theorem vals_at {ns : List Int} {its : List Value} (r : Vals (ns.map V.int) its) {i : Nat} {v : Value} (h : its.toArray[i]? = some v) : ∃ t, v = Value.int (ns.getD i 0) t := by
  have h2 : its[i]? = some v := by simpa using h
  have hl := r.length
  rw [List.length_map] at hl
  have hi : i < its.length := by
    rcases Nat.lt_or_ge i its.length with z | z
    · exact z
    · rw [List.getElem?_eq_none z] at h2
      cases h2
  have hn : ns[i]? = some (ns.getD i 0) := by
    rw [List.getD_eq_getElem?_getD, List.getElem?_eq_getElem (by omega)]
    rfl
  obtain ⟨u, hu, ru⟩ := r.get (i := i) (x := V.int (ns.getD i 0)) (by rw [List.getElem?_map, hn]; rfl)
  rw [hu] at h2
  cases h2
  exact ru
theorem cr_sumT (hc : X.calm = true) : CallR X (.builtin "sum") (fun vs H Q => ∃ (a : Addr) (ns : List Int), vs = [V.ref a] ∧ SqT X.K H a (ns.map V.int) ∧ Q (.int ns.sum) H) := by
  intro pins s σ H vs us Q I r h
  obtain ⟨a, ns, rfl, hs, q⟩ := h
  obtain ⟨its, rv, ht, hz⟩ := I.tuple hs
  obtain ⟨u, rfl, rx⟩ := vals1 r
  cases rx
  have hlt : a < s.heap.objs.size := by
    obtain ⟨_, e, _⟩ := id ht
    exact Heap.lt_size e
  have hlen : its.toArray.size = ns.length := by rw [List.size_toArray, ← rv.length, List.length_map]
  refine call_sum_walkG (wpAny_pyIter_tuple ht ⟨s.heap.objs.size, _, _, _, _, _, fun i => ns.getD i 0, rfl, Walks.tuple (A := X.A.in1) (I.ok.hd hc) s.heap.objs.size a (Nat.ne_of_lt hlt) its.toArray, ⟨⟨_, Heap.get?_push_size _ rfl, rfl, rfl⟩, ht.push _⟩, fun b hb => ?_, fun i v hv => vals_at rv hv, fun h' tk t' hk => ?_⟩)
  · have hsz : (s.heap.push { cls := .type "tuple_iterator", data := .fields #[.ref a, .int 0 0] }).objs.size = s.heap.objs.size + 1 := Heap.size_push ..
    have hb' : b = s.heap.objs.size ∨ b = a := by simpa using hb
    show b < (s.heap.push { cls := .type "tuple_iterator", data := .fields #[.ref a, .int 0 0] }).objs.size
    rw [hsz]
    rcases hb' with z | z
    · rw [z]; exact Nat.lt_succ_self _
    · rw [z]; exact Nat.lt_succ_of_lt hlt
  · refine ⟨.int ns.sum, H, I.kept (t' := tk) fun b o e => hk b o (fun z => ?_) (Heap.get?_push_of_some _ e), ⟨t', ?_⟩, q⟩
    · have z' : b = s.heap.objs.size := by simpa using z
      rw [z'] at e
      exact absurd (Heap.lt_size e) (Nat.lt_irrefl _)
    · rw [hlen, preSum_getD, List.take_length]
theorem cr_maxT (hc : X.calm = true) : CallR X (.builtin "max") (fun vs H Q => ∃ (a : Addr) (ns : List Int), vs = [V.ref a] ∧ SqT X.K H a (ns.map V.int) ∧ 0 < ns.length ∧ ∀ m, m ∈ ns → (∀ y, y ∈ ns → y ≤ m) → Q (.int m) H) := by
  intro pins s σ H vs us Q I r h
  obtain ⟨a, ns, rfl, hs, h0, q⟩ := h
  obtain ⟨its, rv, ht, hz⟩ := I.tuple hs
  obtain ⟨u, rfl, rx⟩ := vals1 r
  cases rx
  have hlt : a < s.heap.objs.size := by
    obtain ⟨_, e, _⟩ := id ht
    exact Heap.lt_size e
  have hlen : its.toArray.size = ns.length := by rw [List.size_toArray, ← rv.length, List.length_map]
  refine call_max_walk (wpAny_pyIter_tuple ht ⟨s.heap.objs.size, _, _, _, _, _, _, rfl, Walks.tuple (A := X.A.in1) (I.ok.hd hc) s.heap.objs.size a (Nat.ne_of_lt hlt) its.toArray, ⟨⟨_, Heap.get?_push_size _ rfl, rfl, rfl⟩, ht.push _⟩, fun b hb => ?_, by omega, CmpOf.ints_gt (fun i => ns.getD i 0) (fun i v hv => vals_at rv hv), fun v h' tk hP hk => ?_⟩)
  · have hsz : (s.heap.push { cls := .type "tuple_iterator", data := .fields #[.ref a, .int 0 0] }).objs.size = s.heap.objs.size + 1 := Heap.size_push ..
    have hb' : b = s.heap.objs.size ∨ b = a := by simpa using hb
    show b < (s.heap.push { cls := .type "tuple_iterator", data := .fields #[.ref a, .int 0 0] }).objs.size
    rw [hsz]
    rcases hb' with z | z
    · rw [z]; exact Nat.lt_succ_self _
    · rw [z]; exact Nat.lt_succ_of_lt hlt
  · obtain ⟨t, rfl⟩ := vals_at rv hP
    obtain ⟨g1, g2⟩ := argBest_gt (fun i => ns.getD i 0) (its.toArray.size - 1)
    refine ⟨.int _, H, I.kept (t' := tk) fun b o e => hk b o (fun z => ?_) (Heap.get?_push_of_some _ e), ⟨t, rfl⟩, q _ (getD_mem (by omega)) fun y hy => ?_⟩
    · have z' : b = s.heap.objs.size := by simpa using z
      rw [z'] at e
      exact absurd (Heap.lt_size e) (Nat.lt_irrefl _)
    · obtain ⟨j, hj, rfl⟩ := mem_getD hy
      exact g2 j (by omega)
/-- the unlike ones -/
def unlikes : List Int → List Int
  | [] => []
  | a :: l => if a ∈ l then unlikes l else a :: unlikes l
theorem mem_unlikes : ∀ {l : List Int} {k : Int}, k ∈ unlikes l ↔ k ∈ l
  | [], _ => Iff.rfl
  | a :: l, k => by
    unfold unlikes
    by_cases e : a ∈ l
    · rw [if_pos e, mem_unlikes, List.mem_cons]
      exact ⟨.inr, fun z => z.elim (fun q => q ▸ e) id⟩
    · rw [if_neg e, List.mem_cons, List.mem_cons, mem_unlikes]
theorem nodup_unlikes : ∀ l : List Int, (unlikes l).Nodup
  | [] => List.nodup_nil
  | a :: l => by
    unfold unlikes
    by_cases e : a ∈ l
    · rw [if_pos e]; exact nodup_unlikes l
    · rw [if_neg e]; exact List.nodup_cons.mpr ⟨fun z => e (mem_unlikes.mp z), nodup_unlikes l⟩
theorem unlikes_of_nodup : ∀ {l : List Int}, l.Nodup → unlikes l = l
  | [], _ => rfl
  | a :: l, h => by
    obtain ⟨h1, h2⟩ := List.nodup_cons.mp h
    unfold unlikes
    rw [if_neg h1, unlikes_of_nodup h2]
theorem unlikes_le : ∀ l : List Int, (unlikes l).length ≤ l.length
  | [] => Nat.le_refl _
  | a :: l => by
    have := unlikes_le l
    unfold unlikes
    by_cases e : a ∈ l
    · rw [if_pos e, List.length_cons]; omega
    · rw [if_neg e, List.length_cons, List.length_cons]; omega
theorem nodup_of_unlikes : ∀ {l : List Int}, (unlikes l).length = l.length → l.Nodup
  | [], _ => List.nodup_nil
  | a :: l, h => by
    have := unlikes_le l
    unfold unlikes at h
    by_cases e : a ∈ l
    · rw [if_pos e, List.length_cons] at h; omega
    · rw [if_neg e, List.length_cons, List.length_cons] at h
      exact List.nodup_cons.mpr ⟨e, nodup_of_unlikes (by omega)⟩
/-- how many unlike ones -/
def distinct (ns : List Int) : Nat := (unlikes ns).length
theorem distinct_of {ns ks : List Int} (nd : ks.Nodup) (h : ∀ k, k ∈ ks ↔ k ∈ ns) : ks.length = distinct ns :=
  ((List.perm_ext_iff_of_nodup nd (nodup_unlikes ns)).mpr fun k => by rw [h k, mem_unlikes]).length_eq
/-- len(set(e)) of a tuple of ints -/
theorem pe_lenSetT {a : Expr} {ta : TE} {p p2 q pos : Pos} (hg : Gl X "len") (hm : X.mg "len" = none) (hg2 : Gl X "set") (hm2 : X.mg "set" = none) (ha : PE X a ta) (hc : X.calm = true := by rfl)
    (na : starEach [a] X.env = (false, eval a X.env) :: starEach [] X.env := by rfl) :
    PE X (.Call (.Name "len" p) [.Call (.Name "set" p2) [a] [] q] [] pos) (fun σ H Q => ta σ H fun x H1 => ∃ (l : Addr) (ns : List Int), x = .ref l ∧ SqT X.K H1 l (ns.map V.int) ∧ ns.length ≤ 4000 ∧ Q (.int (distinct ns : Nat)) H1) := by
  refine ⟨fun pins s σ H Q I h => ?_⟩
  refine Call_ (ld_blt I hg hm PySem.boot_len (PyProof.Rows.callWith_builtin1 (PyProof.Rows.args_cons (Call_ (ld_blt I hg2 hm2 PyProof.Rows.boot_set ?_)) rfl) rfl rfl))
  refine PyProof.Rows.callWith_type1 (PyProof.Rows.args_cons (thn (ha.run pins s σ H _ I h) fun v s1 hx => PyProof.Rows.args_nil ?_) na) na rfl
  obtain ⟨x, H1, I1, r1, l, ns, rfl, hq, hl, q1⟩ := hx
  cases r1
  obtain ⟨its, rv, pt, hz⟩ := I1.tuple hq
  refine call_set_tupI ns (I1.ok.hd hc) (show s1.heap.IsTuple l its.toArray from pt) (by simpa using RZ.intsAre_vals rv) (by unfold scanBound; omega) fun h' tk c hS hcn hk => ?_
  refine PyProof.Rows.args_nil ?_
  obtain ⟨o, es, ep, t, ho, hex, hd, hgood, hnd, hmem, hsz, hf, hn, _⟩ := hS
  have I2 : Inv X pins σ H1 { s1 with heap := h', toks := tk } := I1.kept hk
  have hdis : es.size = distinct ns := by
    have := distinct_of hnd (ns := ns) fun k => by
      rw [← hmem k]
      simp
    rw [List.length_map, Array.length_toList] at this
    exact this
  have hlt : (es.size : Int) < 2 ^ 63 := by
    unfold scanBound at hsz
    omega
  exact call_len_set ho hex hd hf hlt ⟨.int (distinct ns : Nat), H1, I2.tok _, ⟨_, by rw [hdis]⟩, q1⟩
end
end GX

set_option Elab.async false
set_option linter.all false
set_option maxRecDepth 100000
set_option maxHeartbeats 4000000
/-! enumerate of a tuple -/
namespace GX
open PySem PySem.Spec PyProof.Rows L2
set_option maxHeartbeats 1000000 in
theorem meets_enum1 {v : Value} {o : Obj} {G : Heap → Prop} (B : Begins v o G) :
    Meets (Builtin.«enumerate.__new__» ⟨[.type "enumerate", v], []⟩) (fun _ R s => G s.heap ∧
      R (.ok (.ret (.ref (s.heap.push o).objs.size))) { s with heap := (s.heap.push o).push { cls := .type "enumerate", data := .fields #[.none, .bool false, .ref s.heap.objs.size, rawInt 0, .none, .none] } }) :=
  .of_wp fun prog w A R s h => by
    obtain ⟨hp, g, d, tk, os⟩ := s
    obtain ⟨hG, hR⟩ := h
    have sub := sub_enumerate
    have begins : ∀ {A' : Around} {E : Value → Shared → Prop} {Q : Value → Shared → Prop}, Q (.ref hp.objs.size) ⟨hp.push o, g, d, tk, os⟩ → wpAny (model prog w) A' (pyIter v) Q E ⟨hp, g, d, tk, os⟩ :=
      fun hq => B.iter prog w _ _ ⟨hp, g, d, tk, os⟩ _ hG hq
    wp_walk using begins
    refine wpAny_stack_any fun st => wpAny_pure ?_
    split
    · next c _ _ _ _ _ =>
      cases (c == Value.type "enumerate") <;> (wp_walk using begins; exact ⟨_, rfl, hR⟩)
    · wp_walk using begins
      exact ⟨_, rfl, hR⟩
theorem call_enumT {prog : Program} {w : World} {A : Around} {E : Value → Shared → Prop} {s : Shared} {t : Addr} {items : Array Value} {Q : Value → Shared → Prop} (ht : s.heap.IsTuple t items)
    (h : ∀ h', IsEnum h' (s.heap.objs.size + 1) s.heap.objs.size 0 .none → h'.IsTupleIter s.heap.objs.size t 0 → (∀ b o, s.heap.get? b = some o → h'.get? b = some o) → Q (.ref (s.heap.objs.size + 1)) { s with heap := h' }) :
    wpAny (model prog w) A (call (.type "enumerate") [.ref t]) Q E s := by
  refine callType_new F.called_enumerate (by decide) (F.typeCall_enumerate_1 _) (F.newCall_enumerate_1 _) (fun obj => F.args_object_init_2 obj _) F.entry_enumerate_new (meets_enum1 (begins_tuple t items)) ⟨ht, ?_⟩
  generalize ho : ({ cls := .type "tuple_iterator", data := .fields #[.ref t, .int 0 0] } : Obj) = o
  have hz : (s.heap.push o).objs.size = s.heap.objs.size + 1 := Heap.size_push ..
  show _ ∧ _
  rw [hz]
  generalize hx : ({ cls := .type "enumerate", data := .fields #[.none, .bool false, .ref s.heap.objs.size, rawInt 0, .none, .none] } : Obj) = x
  have fx : x.isFreed = false := by rw [← hx]; rfl
  have fo : o.isFreed = false := by rw [← ho]; rfl
  have gx : ((s.heap.push o).push x).get? (s.heap.objs.size + 1) = some x := by
    have := Heap.get?_push_size (s.heap.push o) fx
    rw [hz] at this
    exact this
  have go : ((s.heap.push o).push x).get? s.heap.objs.size = some o := Heap.get?_push_of_some _ (Heap.get?_push_size _ fo)
  have ie : IsEnum ((s.heap.push o).push x) (s.heap.objs.size + 1) s.heap.objs.size 0 .none := by
    show ((s.heap.push o).push x).get? (s.heap.objs.size + 1) = _
    rw [gx, ← hx]
  have ti : ((s.heap.push o).push x).IsTupleIter s.heap.objs.size t 0 := ⟨o, go, by rw [← ho], by rw [← ho]; rfl⟩
  exact ⟨⟨x, gx, by rw [← hx]⟩, h _ ie ti fun b u e => Heap.get?_push_of_some _ (Heap.get?_push_of_some _ e)⟩
/-- the tuple at a, each item in a new pair behind its number -/
def IteT (K : PySem.W.Frag) (a : Addr) : It :=
  ⟨fun i H => ∃ (xs : List V) (x : V), SqT K H a xs ∧ xs[i]? = some x, fun i H v H' => ∃ T x, v = .ref T ∧ H T = none ∧ H' = upd H T (.tup [.int (i : Nat), x]) ∧ ∀ xs, SqT K H a xs → xs[i]? = some x, fun i H => ∃ xs : List V, SqT K H a xs ∧ xs.length ≤ i⟩
theorem walk_enumT {K : PySem.W.Frag} {a : Addr} {xs : List V} : Walk (IteT K a) xs.length (fun H => SqT K H a xs) (YPair (fun i => some (.int (i : Nat))) (fun i => xs[i]?)) where
  goes := fun i H hi hq => ⟨xs, xs[i], hq, List.getElem?_eq_getElem hi⟩
  stops := fun H hq => ⟨xs, hq, Nat.le_refl _⟩
  yields := fun i H x H' hi hq ⟨T, y, e, n, u, z⟩ => ⟨T, _, y, e, n, u, rfl, z xs hq⟩
theorem wpAny_pyNext_enumT_end {prog : Program} {w : World} {A : Around} {E : Value → Shared → Prop} {s : Shared} {e it t : Addr} {n : Nat} {c : Int} {items : Array Value} {old : Value} {Q : Option Value → Shared → Prop} (hh : A.handled = none)
    (he : IsEnum s.heap e it c old) (hit : s.heap.IsTupleIter it t n) (ht : s.heap.IsTuple t items) (hx : items[n]? = none)
    (hQ : ∀ h', Heap.ExtBut it s.heap h' → Q none { s with heap := h' }) : wpAny (model prog w) A (pyNext (.ref e)) Q E s := by
  have hT : s.TypeIs (.ref e) "enumerate" := ⟨_, he, rfl⟩
  unfold pyNext
  refine wpAny_bind (wpAny_attempt (wpAny_callSpecial?_slot (name := Str.ofString "__next__") hT F.slot_enumerate_next (wpAny_call_entry F.slot_enumerate_next hT F.entry_enumerate_next ?_ (F.args_enumerate_next_1 _))))
  show wpAny _ _ (field (.ref e) 2 >>= _) _ _ _
  refine wpAny_bind (wpAny_field he rfl (x := .ref it) rfl (wpAny_bind (wpAny_nextOf_tuple_end (A := A.in1) hh hit ht hx fun h' x ext ⟨o, ho, hc⟩ => ?_)))
  exact wpAny_bind (wpAny_isInstance (T := "StopIteration") (b := true) ⟨o, ho, hc⟩ isSubtype_stop (wpAny_pure (hQ _ ext)))
theorem turn_enumT {P : Program} {w : World} {K : PySem.W.Frag} {elts : List Expr} {kk : Nat} {tpos : Pos} (a e it : Addr) :
    Turn P w K (.Tuple elts kk tpos) (IteT K a) [e, it] e (fun i h => (∃ old, IsEnum h e it ((i : Nat) : Int) old) ∧ h.IsTupleIter it a i ∧ e ≠ it ∧ a ≠ it) where
  mem := List.mem_cons_self ..
  obj := fun i h st b hb => by
    obtain ⟨⟨old, he⟩, ⟨o, ho, hc, hd⟩, _⟩ := st
    rcases List.mem_cons.mp hb with rfl | hb
    · exact ⟨_, he, fun v q => nomatch q⟩
    · rw [List.mem_singleton.mp hb]
      exact ⟨o, ho, fun v q => by rw [hd] at q; cases q⟩
  keep := fun i h h' st k => let ⟨⟨old, he⟩, hi, hne⟩ := st; ⟨⟨old, k e (by simp) _ he⟩, hi.at fun o q => k it (by simp) o q, hne⟩
  item := by
    intro X hP hw hK hc i pins s σ H E I hf st hg
    subst hP hw hK
    obtain ⟨⟨old, he⟩, hit, hne, hna⟩ := st
    obtain ⟨xs, x, hq, hx⟩ := hg
    obtain ⟨its, rv, pt, hz⟩ := I.tuple hq
    have hT0 : s.heap.IsTuple a its.toArray := pt
    obtain ⟨u, hu, ru⟩ := rv.get hx
    have hel : e < s.heap.objs.size := Heap.lt_size he
    have hil : it < s.heap.objs.size := by obtain ⟨_, q, _⟩ := id hit; exact Heap.lt_size q
    have hea : e ≠ a := fun z => by
      obtain ⟨_, q, hc, n, hd⟩ := id hT0
      rw [← z] at q
      have q' := q.symm.trans he
      obtain rfl := Option.some.inj q'
      exact absurd (Value.type.inj hc) (by decide)
    have isz : i < its.toArray.size := by
      rw [List.size_toArray]
      rcases Nat.lt_or_ge i its.length with z | z
      · exact z
      · rw [List.getElem?_eq_none z] at hu
        cases hu
    refine wpAny_pyNext_enum_itemD (Draws.tuple (A := X.A.in1) (I.ok.hd hc) it a hna its.toArray) he ⟨hit, hT0⟩ isz hne (by simp [hne, hea]) fun x' h' tk hx' ho hst' hT hsz hk => ?_
    have hxu : x' = u := by
      have z : its[i]? = some x' := by simpa using hx'
      rw [hu] at z
      exact (Option.some.inj z).symm
    subst hxu
    refine ⟨_, rfl, wpAny_letOwnedTupleGo_enum (s := { s with heap := h', toks := tk + 1 }) ho fun h'' he' sb => ?_⟩
    have hT2 : h''.get? s.heap.objs.size = some { cls := .type "tuple", data := .seq #[.int i tk, x'] } := (sb.2 _ (Nat.ne_of_gt hel)).trans hT
    have new : ObjOk X.prog X.w (upd H s.heap.objs.size (.tup [.int (i : Nat), x])) h'' s.heap.objs.size (.tup [.int (i : Nat), x]) :=
      ⟨by show 2 ≤ sizeLine; decide, [.int i tk, x'], .cons ⟨_, rfl⟩ (.cons ru .nil), ⟨_, hT2, rfl, _, rfl⟩⟩
    have I1 : Inv X pins σ (upd H s.heap.objs.size (.tup [.int (i : Nat), x])) { s with heap := h'', toks := tk + 1 } :=
      I.turnedNew (ch := [e, it]) (fun b ob hb q => (sb.2 b (fun z => hb (by simp [z]))).trans (hk b ob (fun z => hb (by simp [z])) (fun z => hb (by simp [z])) q)) hf (Nat.le_refl _) new
    refine ⟨.ref s.heap.objs.size, _, I1, rfl, ⟨_, x, rfl, I.hok.fresh (Nat.le_refl _), rfl, fun ys hy => ?_⟩, ⟨⟨x', ?_⟩, hst'.1.at fun o q => (sb.2 it (Ne.symm hne)).trans q, hne, hna⟩, fun b hb => ?_⟩
    · rw [I.tuple_inj hy hq]
      exact hx
    · have e1 : ((i + 1 : Nat) : Int) = (i : Int) + 1 := by omega
      rw [e1]
      exact he'
    · have hb' : b < s.heap.objs.size := by
        rcases List.mem_cons.mp hb with z | z
        · rw [z]; exact hel
        · rw [List.mem_singleton.mp z]; exact hil
      rw [upd_ne (Nat.ne_of_lt hb')]
      exact (hf b hb).1
  done := by
    intro X hP hw hK hc i pins s σ H E I hf st hg
    subst hP hw hK
    obtain ⟨⟨old, he⟩, hit, hne, hna⟩ := st
    obtain ⟨xs, hq, hx⟩ := hg
    obtain ⟨its, rv, pt, hz⟩ := I.tuple hq
    obtain ⟨f0, f1, f2, f3, f4, f5⟩ := hf it (by simp)
    have hl := rv.length
    have hT0 : s.heap.IsTuple a its.toArray := pt
    have hend : i = its.toArray.size ∨ its.toArray.size < i := by
      have z : its.toArray.size ≤ i := by rw [List.size_toArray]; omega
      omega
    have he' := he
    refine wpAny_pyNext_enumT_end (I.ok.hd hc) he hit hT0 (by simp; omega) fun h' eb => ⟨rfl, I.turned (t' := s.toks) (fun b o hb q => eb b o hb q) f0 f1 f3 f4 f5⟩
  self := fun A i s Q E st h => let ⟨⟨_, he⟩, _⟩ := st; wpAny_pyIter_enum he h
def iEnumT (K : PySem.W.Frag) (ta : TA) : TI := fun σ H R => ta σ H fun vs H1 => ∃ a xs, vs = [.ref a] ∧ SqT K H1 a xs ∧ R (IteT K a) H1
theorem pi_enumT {X : Cx} {e : Expr} {ta : TA} {p pos tpos : Pos} {elts : List Expr} {kk : Nat} (hg : Gl X "enumerate") (hm : X.mg "enumerate" = none) (ha : PA X [e] ta) (hs : starEach [e] X.env = [(false, eval e X.env)] := by rfl) :
    PI X (.Tuple elts kk tpos) (.Call (.Name "enumerate" p) [e] [] pos) (iEnumT X.K ta) := by
  refine ⟨fun pins s σ H R I h => Call_ (ld_blt I hg hm boot_enumerate (PyProof.Rows.callWith_type1 (thn (ha.run pos pins s σ H _ I h) fun us s1 hx => ?_) hs rfl))⟩
  obtain ⟨vs, H1, I1, r1, a, xs, rfl, hq, q⟩ := hx
  obtain ⟨u, rfl, rx⟩ := vals1 r1
  cases rx
  obtain ⟨its, rv, pt, hz⟩ := I1.tuple hq
  have hT0 : s1.heap.IsTuple a its.toArray := pt
  have alt : a < s1.heap.objs.size := by
    obtain ⟨_, z, _⟩ := id hT0
    exact Heap.lt_size z
  refine call_enumT hT0 fun h' he hit hk => wpAny_pyIter_enum he ?_
  refine ⟨s1.heap.objs.size + 1, [s1.heap.objs.size + 1, s1.heap.objs.size], _, _, H1, rfl, I1.kept (t' := s1.toks) hk, turn_enumT a (s1.heap.objs.size + 1) s1.heap.objs.size, ⟨⟨.none, he⟩, hit, Nat.succ_ne_self _, Nat.ne_of_lt alt⟩, fun b hb => ?_, q⟩
  have hle : s1.heap.objs.size ≤ b := by
    rcases List.mem_cons.mp hb with z | z
    · rw [z]; exact Nat.le_add_right _ _
    · rw [List.mem_singleton.mp z]; exact Nat.le_refl _
  exact I1.fpOk hle (I1.hok.fresh hle)
end GX

set_option Elab.async false
set_option linter.all false
set_option maxRecDepth 100000
set_option maxHeartbeats 4000000
/-! {k: v for t in i if ..}, the keys new tuples -/
namespace GX
open PySem PySem.Spec PyProof.Rows L2
section
variable {X : Cx} {pins : List (Addr × Obj)} {σ : L2.St} {H : Hp} {s : Shared}
theorem dictSet_t {E : Value → Shared → Prop} {D b : Addr} {kvs : List (List L2.Key × V)} {k : List L2.Key} {v : V} {r : Value} {Q : Unit → Shared → Prop} (hu : X.A.units < cLine) (I : L2.Inv X pins σ H s) (hD : H D = some (.dT kvs)) (hb : H b = some (.tup (k.map kV)))
    (hz : kvs.length < sizeLine) (rv : L2.RelV v r) (fin : ∀ s', L2.Inv X pins σ (upd H D (.dT (putK kvs k v))) s' → Q () s') : wpAny (model X.prog X.w) X.A (dictSet D (.ref b) r) Q E s := by
  obtain ⟨z, low, xs, rel, dd⟩ := dt_of I.hok hD
  have lxs : xs.length ≤ sizeLine := Nat.le_trans (Nat.le_of_eq (Paired.length rel).symm) z
  have lput : (putK kvs k v).length ≤ sizeLine := Nat.le_trans (length_putK kvs k v) hz
  refine wpAny_dictSet_heap (knd := tupleKind (mixKind X.prog X.w)) (hsz := lxs) hu (key_of I.hok hb) dd fun h' dd' same => fin _ ?_
  obtain ⟨q, es, ep, hq, g2, g3, g4, _, g5⟩ := dd'
  have stays : KT (upd H D (.dT (putK kvs k v))) (putK kvs k v) (storedH xs k b r) := (rel.put k hb rv).keeps fun c ys ec => (upd_ne (ne_of ec hD fun z => nomatch z)).trans ec
  exact d_write I (by rw [hD]; trivial) same ⟨q, hq⟩ ⟨lput, low, _, stays, q, es, ep, hq, g2, g3, g4, g5⟩
end
/-- the reading -/
def tDcT (wi : TI) (g : TG) (tt : TT) (tk tv : TE) (vs : List Nat) : TE := fun σ H Q => wi σ H fun J H1 => ∀ D, H1 D = none → ∃ W : Nat → Nat → Hp → Prop, (∃ m, W 0 m (upd H1 D (.dT []))) ∧ ∀ i m H, W i m H →
  (J.stop i H ∧ Q (.ref D) H) ∨ (J.go i H ∧ ∃ Nx : Hp → Prop, (∀ H', Nx H' → ∃ m', m' < m ∧ W (i + 1) m' H') ∧ ∀ x H', J.yld i H x H' → g x (wipe σ vs) H' fun σ2 H2 => wipe σ2 vs = wipe σ vs ∧ tt σ2 H2 fun b H3 =>
    if b = true then tk σ2 H3 fun y H4 => tv σ2 H4 fun z H5 => ∃ kvs k b, y = .ref b ∧ H5 b = some (.tup (k.map kV)) ∧ H5 D = some (.dT kvs) ∧ kvs.length < sizeLine ∧ Nx (upd H5 D (.dT (putK kvs k z))) else Nx H3)
section
variable {X : Cx} {kx vx tg iter : Expr} {ifs : List Expr} {scope : Scope} {own : List (Str × Nat)} {pos : Pos} {wi : TI} {g : TG} {tt : TT} {tk tv : TE}
theorem pe_dcT (hu : X.A.units < cLine) (hc : X.calm = true) (hN : X.N.Nodup) (hi : PI X tg iter wi) (ok : BlkOk X.N X.env.scope scope own)
    (hg : ∀ s H C cl fp, PG (X.blk s H scope (compEnvC scope cl C X.env) fp) tg g) (ht : ∀ s H C cl fp, PTs (X.blk s H scope (compEnvC scope cl C X.env) fp) ifs tt)
    (hk : ∀ s H C cl fp, PE (X.blk s H scope (compEnvC scope cl C X.env) fp) kx tk) (he : ∀ s H C cl fp, PE (X.blk s H scope (compEnvC scope cl C X.env) fp) vx tv) (hs : ∀ x, foldedSetIterable iter X.env x = pure x := by intro _; rfl) :
    PE X (.DictComp kx vx [⟨tg, iter, ifs, 0⟩] scope pos) (tDcT wi g tt tk tv (own.map (·.2))) := by
  refine ⟨fun pins s σ H Q I h => ?_⟩
  rw [arm_eval_DictComp]
  have cellsOf : ∀ y ∈ scope.names, y.2 = .free → ∃ c, X.env.cells.lookup y.1 = some c := fun y hy e => (ok.free y hy e).elim (fun k => I.ok.has _ (.inl k)) fun k => I.ok.has _ (.inr k)
  refine wpAny_comprehension_free (use := none) rfl hs (closure_ok cellsOf) ok.kind (fun y hy e => (ok.uniq y hy).trans (congrArg some e)) (thn (hi.run pins s σ H _ I h) fun xv s1 hx => thn hx fun itv s2 z2 => ?_)
  obtain ⟨it, fp, tn, J, H2, rfl, I2, T, at2, free2, spec⟩ := z2
  refine wpAny_newObj_type (newEnv_comp ?_)
  generalize eD : s2.heap.objs.size = D
  have freshD : H2 D = none := I2.hok.fresh (Nat.le_of_eq eD)
  obtain ⟨W, ⟨m0, w0⟩, turn⟩ := spec D freshD
  generalize es3 : ({ s2 with heap := s2.heap.push { cls := .type "dict", data := .dict #[] } } : Shared) = s3
  have hp3 : s3.heap = s2.heap.push { cls := .type "dict", data := .dict #[] } := by rw [← es3]
  have keep3 : ∀ b o, s2.heap.get? b = some o → s3.heap.get? b = some o := fun b o e => by
    rw [hp3]
    exact Heap.get?_push_of_some _ e
  generalize eH3 : upd H2 D (.dT []) = H3 at w0
  have I3 : L2.Inv X pins σ H3 s3 := by
    rw [← eH3, ← es3]
    refine I2.laid (t' := s2.toks) (fun b o e => Heap.get?_push_of_some _ e) (Nat.le_of_eq eD) ?_
    rw [← eD]
    exact dt_empty s2.heap I2.big
  have low : ∀ b ∈ fp, b < s2.heap.objs.size := fun b hb => let ⟨_, e, _⟩ := T.obj _ _ at2 b hb; Heap.lt_size e
  have free3 : ∀ b ∈ fp, FpOk X pins H3 b ∧ b < s3.heap.objs.size := fun b hb => by
    refine ⟨⟨?_, (free2 b hb).2⟩, ?_⟩
    · rw [← eH3, upd_ne (fun z => Nat.lt_irrefl _ (Nat.lt_of_lt_of_le (low b hb) (Nat.le_of_eq (eD.trans z.symm))))]
      exact (free2 b hb).1
    · rw [hp3, Heap.size_push]
      exact Nat.lt_succ_of_lt (low b hb)
  have at3 : tn 0 s3.heap := T.keep _ _ _ at2 fun b _ o e => keep3 b o e
  have I4 := block_start I3 ok hN free3
  show codeAny (model X.prog X.w) X.A (.compStart (.DictComp kx vx [⟨tg, iter, ifs, 0⟩] scope pos) 0 (.ref it) (.ref D) (compEnvC scope (cellsFrom (s3.heap.objs.size + 1) scope.names (cloFrom X.env.cells scope.names [])) s3.heap.objs.size X.env)) (compPost (model X.prog X.w) X.A X.xe none (EP X pins σ Q) (.ref D) s3.heap.objs.size)
    { s3 with heap := pushCells (s3.heap.push { cls := .type "dict", data := .dict #[] }) scope.names }
  generalize eC : s3.heap.objs.size = C at I4 ⊢
  generalize ecl : cellsFrom (C + 1) scope.names (cloFrom X.env.cells scope.names []) = cl at I4 ⊢
  have gg := hg s3 H3 C cl fp
  have gt := ht s3 H3 C cl fp
  have gk := hk s3 H3 C cl fp
  have ge := he s3 H3 C cl fp
  generalize ece : compEnvC scope cl C X.env = ce at I4 gg gt gk ge ⊢
  have loc : ce.locals = C := by rw [← ece]; rfl
  generalize es4 : ({ s3 with heap := pushCells (s3.heap.push { cls := .type "dict", data := .dict #[] }) scope.names } : Shared) = s4 at I4 ⊢
  have at4 : tn 0 s4.heap := T.keep _ _ _ at3 fun b _ o e => by
    rw [← es4]
    exact pushCells_keeps _ _ _ _ (Heap.get?_push_of_some _ e)
  generalize eY : X.blk s3 H3 scope ce fp = Y at I4 gg gt gk ge
  have apart : ∀ {σ' : L2.St} {H' : Hp} {s' : Shared}, L2.Inv Y [] σ' H' s' → (∀ b ∈ fp, H' b = none) → ∀ b ∈ fp, FpOk Y [] H' b := by
    subst eY
    exact fun I' nn b hb => ⟨nn b hb, (I'.ok.exf b hb).1, I'.ok.exfs b hb, .inl hb, fun x c e => (I'.ok.exf b hb).2 x c e, fun p hp => absurd hp (by simp)⟩
  have back : ∀ {σ' : L2.St} {H' : Hp} {s' : Shared}, L2.Inv Y [] σ' H' s' → L2.Inv X pins σ H' s' := by
    subst eY
    exact fun I' => I3.call' (ch := fp) I'.os I'.base I'.hok I'.bare fun b hb => ⟨(free3 b hb).1.2.2.2.1, (free3 b hb).1.2.1, (free3 b hb).1.2.2.2.2.1, (free3 b hb).1.2.2.2.2.2⟩
  have yp : Y.prog = X.prog ∧ Y.w = X.w ∧ Y.K = X.K ∧ Y.calm = true ∧ Y.A = X.A ∧ Y.env = ce := by
    subst eY
    exact ⟨rfl, rfl, rfl, hc, rfl, rfl⟩
  have yx : Y.xe = fun _ _ => False := by
    subst eY
    rfl
  obtain ⟨y1, y2, y3, y4, y5, y6⟩ := yp
  have loop : codeAny (model X.prog X.w) X.A (.compLoop (.DictComp kx vx [⟨tg, iter, ifs, 0⟩] scope pos) 0 (.ref it) (.ref D) ce) (compPost (model X.prog X.w) X.A X.xe none (EP X pins σ Q) (.ref D) C) s4 := by
    refine compLoop_anyD (fun n s' => ∃ i H', L2.Inv Y [] (wipe σ (own.map (·.2))) H' s' ∧ tn i s'.heap ∧ (∀ b ∈ fp, H' b = none) ∧ W i n H') (fun n s5 hI5 => ?_) m0 ⟨0, H3, I4, at4, fun b hb => (free3 b hb).1.1, w0⟩
    obtain ⟨i, H5, I5, at5, nn5, w5⟩ := hI5
    rcases turn i n H5 w5 with ⟨stop, fin⟩ | ⟨go, Nx, less, step⟩
    · have z := T.done Y y1 y2 y3 y4 i [] s5 _ H5 (fun _ _ => False) I5 (apart I5 nn5) at5 stop
      rw [y5] at z
      refine thnF z fun r s6 ⟨er, I6⟩ => ?_
      subst er
      have noC : H5 C = none := by
        have q := I6.free
        rw [y6, loc] at q
        exact q
      obtain ⟨m, hn, _⟩ := I6.loc
      rw [y6, loc] at hn
      have IX := back I6
      obtain ⟨f0, f1, f2, f3, f4, f5⟩ := I3.fpOk (b := C) (H' := H5) (Nat.le_of_eq eC) noC
      exact ⟨m, hn, fun h'' sb => ⟨.ref D, H5, IX.turned (t' := s6.toks) (fun b o hb e => (sb.2 b hb).trans e) f0 f1 f3 f4 f5, rfl, fin⟩⟩
    · have z := T.item Y y1 y2 y3 y4 i [] s5 _ H5 (fun _ _ => False) I5 (apart I5 nn5) at5 go
      rw [y5] at z
      refine thnF z fun r s6 ⟨u, er, h6⟩ => ?_
      subst er
      refine thnF h6 fun _ s7 ⟨x, H7, I7, r7, yl, at7, nn7⟩ => ?_
      have P7 := I7.pinned (apart I7 nn7) (T.obj _ _ at7)
      have zg := gg.run _ s7 _ H7 x u _ P7 r7 (step x H7 yl)
      rw [y1, y2, y5, y6, yx] at zg
      refine thnF zg fun _ s8 ⟨σ8, H8, I8, hw8, q8⟩ => ?_
      have zt := gt.run _ s8 σ8 H8 _ I8 q8
      rw [y1, y2, y5, y6, yx] at zt
      refine thnF zt fun b s9 ⟨H9, I9, q9⟩ => ?_
      have fin : ∀ {s' : Shared} {H' : Hp}, L2.Inv Y ([] ++ pinsAt fp s7.heap) σ8 H' s' → Nx H' → ∃ m, m < n ∧ ∃ i H', L2.Inv Y [] (wipe σ (own.map (·.2))) H' s' ∧ tn i s'.heap ∧ (∀ b ∈ fp, H' b = none) ∧ W i m H' := fun {s' H'} I' nx => by
        obtain ⟨m', lt, w'⟩ := less H' nx
        have stay : ∀ b ∈ fp, ∀ o, s7.heap.get? b = some o → s'.heap.get? b = some o ∧ H' b = none := fun b hb o e => by
          have z := I'.pin (b, o) (List.mem_append_right _ (List.mem_append_right _ (mem_pinsAt hb e)))
          exact ⟨z.1, z.2.1⟩
        have len8 : (wipe σ (own.map (·.2))).length = σ8.length := (congrArg List.length hw8).symm.trans (wipe_length ..)
        refine ⟨m', lt, i + 1, H', (I'.unpinned (pins := [])).weak len8 (fun j v e => ?_), T.keep _ _ _ at7 fun b hb o e => (stay b hb o e).1, fun b hb => ?_, w'⟩
        · exact (wipe_some (hw8 ▸ e)).1
        · obtain ⟨o, e, _⟩ := T.obj _ _ at7 b hb
          exact (stay b hb o e).2
      cases b with
      | true =>
        simp only [if_true] at q9 ⊢
        have zk := gk.run _ s9 σ8 H9 _ I9 q9
        rw [y1, y2, y5, y6, yx] at zk
        refine thnF zk fun u1 s10 ⟨yk, H10, I10, r10, q10⟩ => ?_
        have ze := ge.run _ s10 σ8 H10 _ I10 q10
        rw [y1, y2, y5, y6, yx] at ze
        refine thnF ze fun u2 s11 ⟨yv, H11, I11, r11, kvs, k, kb, ek, hkb, hD11, hz11, nx⟩ => ?_
        subst ek
        cases r10
        have zd := dictSet_t (X := Y) (E := fun _ _ => False) (Q := fun _ s' => ∃ m, m < n ∧ ∃ i H', L2.Inv Y [] (wipe σ (own.map (·.2))) H' s' ∧ tn i s'.heap ∧ (∀ b ∈ fp, H' b = none) ∧ W i m H') (by rw [y5]; exact hu) I11 hD11 hkb hz11 r11 fun s12 I12 => fin I12 nx
        rw [y1, y2, y5] at zd
        exact thnF zd fun _ _ q => q
      | false =>
        simp only [Bool.false_eq_true, if_false] at q9 ⊢
        exact fin I9 q9
  exact codeAny_compStart_dict loop (T.self X.A 0 _ _ _ at4 loop)
end
end GX

set_option Elab.async false
set_option linter.all false
set_option maxRecDepth 100000
set_option maxHeartbeats 4000000
/-! generator expressions whose element may call: the frame's run, turn by turn -/
namespace GX
open PySem PySem.Spec PyProof.Rows L2
/-- what stands ahead of turn i -/
structure GAt (X : Cx) (pl : List (Addr × Obj)) (fp : List Addr) (tn : Nat → Heap → Prop) (W : Nat → L2.St → Hp → Prop) (gz : Nat) (i : Nat) (s : Shared) : Prop where
  ex : ∃ σ H, Inv X pl σ H s ∧ tn i s.heap ∧ (∀ b ∈ fp, FpOk X pl H b) ∧ W i σ H
  gs : gz < s.gens.size
/-- what is told where an item is handed out -/
def GYp (X : Cx) (pl : List (Addr × Obj)) (fp : List Addr) (tn : Nat → Heap → Prop) (W : Nat → L2.St → Hp → Prop) (gz n : Nat) (F : Nat → V → Prop) : Protocol := fun m s₀ v s kap =>
  ∃ (i : Nat) (x : V), m + 1 + i = n ∧ RelV x v ∧ F i x ∧ GAt X pl fp tn W gz (i + 1) s ∧ ∀ s'', GAt X pl fp tn W gz (i + 1) s'' → kap (.send .none) s''
def GEnd (X : Cx) (pl : List (Addr × Obj)) (W : Nat → L2.St → Hp → Prop) (gz n : Nat) (s : Shared) : Prop := (∃ σ H, Inv X pl σ H s ∧ W n σ H) ∧ gz < s.gens.size
abbrev loopC (target elt iter : Expr) (scope : Scope) (pos : Pos) (it : Addr) (env : Env) : Code := .compLoop (.GeneratorExp elt [⟨target, iter, [], 0⟩] scope pos) 0 (.ref it) .none env
section
variable {X : Cx} {pl : List (Addr × Obj)} {A : Around} {target elt iter : Expr} {scope : Scope} {pos : Pos} {it : Addr} {fp : List Addr} {tn : Nat → Heap → Prop} {J : It} {g : TG} {te : TE} {n gz : Nat} {W : Nat → L2.St → Hp → Prop} {F : Nat → V → Prop}
theorem gen_loop (hX : X.A = A.over (loopC target elt iter scope pos it X.env) []) (hc : X.calm = true) (hco : X.env.scope.isCoroutine = false) (hxe : ∀ e s, X.xe e s → False)
    (T : Turn X.prog X.w X.K target J fp it tn) (hg : PG X target g) (he : PE X elt te)
    (step : ∀ i σ H, i < n → W i σ H → J.go i H ∧ ∀ x H', J.yld i H x H' → g x σ H' fun σ2 H2 => te σ2 H2 fun v H3 => F i v ∧ W (i + 1) σ2 H3) (stop : ∀ σ H, W n σ H → J.stop n H) :
    ∀ (k i : Nat) (s₀ s : Shared), n - i = k → i ≤ n → GAt X pl fp tn W gz i s →
      Seg (model X.prog X.w) A (fun m _ r s₁ => r = .ok .next ∧ (m = 0 ∧ GEnd X pl W gz n s₁)) (GYp X pl fp tn W gz n F) k s₀ (loopC target elt iter scope pos it X.env) ((model X.prog X.w).den (loopC target elt iter scope pos it X.env)) [] s := by
  intro k
  induction k with
  | zero =>
    intro i s₀ s hk hi ⟨⟨σ, H, I, st, fr, w⟩, hgs⟩
    have e : i = n := by omega
    subst e
    show Seg _ A _ _ _ s₀ _ ((compTurn (.GeneratorExp elt [⟨target, iter, [], 0⟩] scope pos) 0 (.ref it) .none X.env).onRaise (leaving X.env)) [] s
    rw [compTurn_gen, Sem.onRaise_eq_wrap]
    refine seg_bind_wrap (wpAny_standAt (seg_bind_wrap ?_))
    rw [← hX]
    refine GenW.wpAny_gsz (n := gz + 1) hgs (wpAny_mono (T.done X rfl rfl rfl hc i pl s σ H (fun _ _ => False) I fr st (stop σ H w)) (fun r s1 ⟨hr, I1⟩ hz => ?_) fun _ _ z => z.elim)
    subst hr
    exact seg_end (.ok .next) ⟨rfl, rfl, ⟨σ, H, I1, w⟩, hz⟩
  | succ k ih =>
    intro i s₀ s hk hi ⟨⟨σ, H, I, st, fr, w⟩, hgs⟩
    have lt : i < n := by omega
    obtain ⟨go, turn⟩ := step i σ H lt w
    have stat : ∀ {H' : Hp}, (∀ b ∈ fp, H' b = none) → ∀ b ∈ fp, FpOk X pl H' b := fun hn b hb => ⟨hn b hb, (fr b hb).2⟩
    show Seg _ A _ _ _ s₀ _ ((compTurn (.GeneratorExp elt [⟨target, iter, [], 0⟩] scope pos) 0 (.ref it) .none X.env).onRaise (leaving X.env)) [] s
    rw [compTurn_gen, Sem.onRaise_eq_wrap]
    refine seg_bind_wrap (wpAny_standAt (seg_bind_wrap ?_))
    rw [← hX]
    refine GenW.wpAny_gsz (n := gz + 1) hgs (wpAny_mono (T.item X rfl rfl rfl hc i pl s σ H (fun _ _ => False) I fr st go) (fun r s1 ⟨u, hr, h1⟩ z1 => ?_) fun _ _ z => z.elim)
    subst hr
    refine seg_bind_wrap ?_
    rw [← hX]
    refine GenW.wpAny_gsz (n := gz + 1) z1 (wpAny_mono h1 (fun _ s2 ⟨x, H2, I2, r2, y2, st2, fr2⟩ z2 => ?_) fun _ _ z => z.elim)
    have I2' := I2.pinned (stat fr2) (T.obj _ _ st2)
    refine seg_bind_wrap ?_
    rw [← hX]
    refine GenW.wpAny_gsz (n := gz + 1) z2 (wpAny_mono (hg.run _ s2 σ H2 x u _ I2' r2 (turn x H2 y2)) (fun _ s3 ⟨σ3, H3, I3, q3⟩ z3 => ?_) fun e s' z => (hxe e s' z).elim)
    refine seg_bind_wrap ?_
    rw [← hX]
    simp only [List.forIn_nil]
    refine wpAny_pure ?_
    simp only [if_true]
    have hy : ∀ v, yieldOut X.env v = yieldValue v := fun v => by simp only [yieldOut, hco, Bool.false_eq_true, if_false]
    simp only [hy]
    rw [Sem.bind_eq_wrap', Sem.bind_eq_wrap', Sem.wrap_wrap, Sem.wrap_wrap]
    refine seg_wrap ?_
    rw [← hX]
    refine GenW.wpAny_gsz (n := gz + 1) z3 (wpAny_mono (he.run _ s3 σ3 H3 _ I3 q3) (fun y s4 ⟨v, H4, I4, r4, hF, w4⟩ z4 => ?_) fun e s' z => (hxe e s' z).elim)
    have same : ∀ b ∈ fp, ∀ o, s2.heap.get? b = some o → s4.heap.get? b = some o ∧ H4 b = none := fun b hb o e => by
      have q := I4.pin (b, o) (List.mem_append_right _ (List.mem_append_right _ (mem_pinsAt hb e)))
      exact ⟨q.1, q.2.1⟩
    have at4 : GAt X pl fp tn W gz (i + 1) s4 := ⟨⟨σ3, H4, I4.unpinned, T.keep _ _ _ st2 fun b hb o e => (same b hb o e).1, stat fun b hb => by
      obtain ⟨o, e, _⟩ := T.obj _ _ st2 b hb
      exact (same b hb o e).2, w4⟩, z4⟩
    refine seg_at (seg_yield rfl rfl rfl ⟨i, v, by omega, r4, hF, at4, fun s5 at5 => ?_⟩)
    exact seg_again rfl (ih (i + 1) s5 s5 (by omega) (by omega) at5)
abbrev startC (target elt iter : Expr) (scope : Scope) (pos : Pos) (it : Addr) (env : Env) : Code := .compStart (.GeneratorExp elt [⟨target, iter, [], 0⟩] scope pos) 0 (.ref it) .none env
theorem gen_start (hX : X.A = A.over (loopC target elt iter scope pos it X.env) []) (hc : X.calm = true) (hco : X.env.scope.isCoroutine = false) (hxe : ∀ e s, X.xe e s → False)
    (T : Turn X.prog X.w X.K target J fp it tn) (hg : PG X target g) (he : PE X elt te)
    (step : ∀ i σ H, i < n → W i σ H → J.go i H ∧ ∀ x H', J.yld i H x H' → g x σ H' fun σ2 H2 => te σ2 H2 fun v H3 => F i v ∧ W (i + 1) σ2 H3) (stop : ∀ σ H, W n σ H → J.stop n H)
    (s₀ s : Shared) (h : GAt X pl fp tn W gz 0 s) :
    Seg (model X.prog X.w) A (fun m _ r s₁ => r = .ok .next ∧ (m = 0 ∧ GEnd X pl W gz n s₁)) (GYp X pl fp tn W gz n F) n s₀ (startC target elt iter scope pos it X.env) ((model X.prog X.w).den (startC target elt iter scope pos it X.env)) [] s := by
  have loop : Seg (model X.prog X.w) A (fun m _ r s₁ => r = .ok .next ∧ (m = 0 ∧ GEnd X pl W gz n s₁)) (GYp X pl fp tn W gz n F) n s₀ (loopC target elt iter scope pos it X.env) ((model X.prog X.w).den (loopC target elt iter scope pos it X.env)) [] s :=
    gen_loop hX hc hco hxe T hg he step stop n 0 s₀ s (Nat.sub_zero n) (Nat.zero_le n) h
  obtain ⟨σ, H, I, st, fr, w⟩ := h.ex
  show Seg _ A _ _ _ s₀ _ ((compStart (.GeneratorExp elt [⟨target, iter, [], 0⟩] scope pos) 0 (.ref it) .none X.env).onRaise (leaving X.env)) [] s
  unfold compStart
  rw [Sem.onRaise_eq_wrap]
  refine seg_bind_wrap (m := ask) (wpAny_askSetting ?_)
  split
  · exact seg_again rfl loop
  · refine seg_bind_wrap (wpAny_rule ?_)
    refine seg_bind_wrap (wpAny_standAt ?_)
    refine seg_bind_wrap (T.self _ 0 s _ _ st ?_)
    exact seg_again rfl loop
end
end GX

set_option Elab.async false
set_option linter.all false
set_option maxRecDepth 100000
set_option maxHeartbeats 4000000
/-! what walks such a generator: next, all, any -/
namespace GX
open PySem PySem.Spec PyProof.Rows L2
theorem bare_set {gens : Array GenState} {g : Nat} {x : GenState} (h : AllBare gens) (hx : x.bare = true) : AllBare (gens.setIfInBounds g x) := fun y hy => by
  obtain ⟨i, hi, e⟩ := Array.mem_iff_getElem.mp hy
  rw [← e, Array.getElem_setIfInBounds (by simpa using hi)]
  split
  · exact hx
  · exact h _ (Array.getElem_mem _)
theorem inv_gens {X : Cx} {pl : List (Addr × Obj)} {σ : L2.St} {H : Hp} {s : Shared} (I : Inv X pl σ H s) {gens : Array GenState} (hb : AllBare gens) : Inv X pl σ H { s with gens := gens } :=
  ⟨I.ok, I.os, hb, I.base, I.loc, I.cell, I.free, I.freeC, I.pin, I.hok, I.len⟩
section
variable {X : Cx} {pl : List (Addr × Obj)} {A : Around} {fp : List Addr} {tn : Nat → Heap → Prop} {n gz : Nat} {W : Nat → L2.St → Hp → Prop} {F : Nat → V → Prop}
theorem GAt.set {i : Nat} {s : Shared} (h : GAt X pl fp tn W gz i s) {x : GenState} (hx : x.bare = true) : GAt X pl fp tn W gz i (s.setGen gz x) := by
  obtain ⟨⟨σ, H, I, st, fr, w⟩, hg⟩ := h
  refine ⟨⟨σ, H, inv_gens I (bare_set I.bare hx), st, fr, w⟩, ?_⟩
  show gz < (s.gens.setIfInBounds gz x).size
  rw [Array.size_setIfInBounds]
  exact hg
/-- the generator at a stands ahead of turn j -/
structure GRun (X : Cx) (pl : List (Addr × Obj)) (A : Around) (fp : List Addr) (tn : Nat → Heap → Prop) (n gz : Nat) (W : Nat → L2.St → Hp → Prop) (F : Nat → V → Prop) (j : Nat) (s : Shared) : Prop where
  at_ : GAt X pl fp tn W gz j s
  run : ∃ gs, s.gens[gz]? = some gs ∧ ∀ s'', GAt X pl fp tn W gz j s'' →
    gs.Goes (model X.prog X.w) A.in1 (fun m _ r s₁ => r = .ok .next ∧ (m = 0 ∧ GEnd X pl W gz n s₁)) (GYp X pl fp tn W gz n F) (n - j) (.send .none) s''
theorem GAt.limit {i : Nat} {s : Shared} (h : GAt X pl fp tn W gz i s) : s.heap.NoLimit := by
  obtain ⟨⟨σ, H, I, _⟩, _⟩ := h
  exact I.nolimit
theorem GAt.gen {i : Nat} {s : Shared} {a : Addr} {oa : Obj} (h : GAt X pl fp tn W gz i s) (hm : (a, oa) ∈ pl) : s.heap.get? a = some oa := by
  obtain ⟨⟨σ, H, I, _⟩, _⟩ := h
  exact (I.pin (a, oa) (List.mem_append_right _ hm)).1
theorem next_item {a : Addr} {j : Nat} {s : Shared} {Q : Option Value → Shared → Prop} {E : Value → Shared → Prop} (hh : A.handled = none) (hroom : A.depth < recursionLimit) (hgen : ∀ i s, GAt X pl fp tn W gz i s → s.heap.IsGen a gz) (hj : j < n)
    (h : GRun X pl A fp tn n gz W F j s) (hQ : ∀ x v s', RelV x v → F j x → GRun X pl A fp tn n gz W F (j + 1) s' → Q (some v) s') : wpAny (model X.prog X.w) A (pyNext (.ref a)) Q E s := by
  obtain ⟨at_, gs, hgs, hgo⟩ := h
  obtain ⟨m, hm⟩ : ∃ m, n - j = m + 1 := ⟨n - j - 1, by omega⟩
  rw [hm] at hgo
  refine wpAny_pyNext_genexpQ (P := fun m _ s₁ => m = 0 ∧ GEnd X pl W gz n s₁) hh at_.limit hroom (hgen _ _ at_) hgs (hgo _ (at_.set rfl)) (fun v s₁ gs' hb hv => ?_) (fun s₁ hp h' hk => ?_)
  · obtain ⟨i, x, hi, rv, hF, a1, kap⟩ := hv
    have e : i = j := by omega
    subst e
    refine hQ x v _ rv hF ⟨a1.set hb, gs', ?_, fun s'' hs => ?_⟩
    · show (s₁.gens.setIfInBounds gz gs')[gz]? = some gs'
      rw [Array.getElem?_setIfInBounds_self, if_pos a1.gs]
    · have e2 : n - (i + 1) = m := by omega
      rw [e2]
      exact kap s'' hs
  · exact absurd hp.1 (Nat.succ_ne_zero m)
theorem next_done {a : Addr} {s : Shared} {Q : Option Value → Shared → Prop} {E : Value → Shared → Prop} (hh : A.handled = none) (hroom : A.depth < recursionLimit) (hgen : ∀ i s, GAt X pl fp tn W gz i s → s.heap.IsGen a gz)
    (h : GRun X pl A fp tn n gz W F n s) (hQ : ∀ σ H s', Inv X pl σ H s' → W n σ H → Q none s') : wpAny (model X.prog X.w) A (pyNext (.ref a)) Q E s := by
  obtain ⟨at_, gs, hgs, hgo⟩ := h
  rw [Nat.sub_self] at hgo
  refine wpAny_pyNext_genexpQ (P := fun m _ s₁ => m = 0 ∧ GEnd X pl W gz n s₁) hh at_.limit hroom (hgen _ _ at_) hgs (hgo _ (at_.set rfl)) (fun v s₁ gs' hb hv => ?_) (fun s₁ hp h' hk => ?_)
  · obtain ⟨i, x, hi, rv, hF, a1, kap⟩ := hv
    exact (kap s₁ a1).elim
  · obtain ⟨_, ⟨σ, H, I, w⟩, _⟩ := hp
    exact hQ σ H _ ((inv_gens I (bare_set I.bare rfl)).kept (h' := h') (t' := s₁.toks) hk) w
/-- all: the walk of a generator -/
theorem all_loop {a : Addr} (hh : A.handled = none) (hroom : A.depth < recursionLimit) (hgen : ∀ i s, GAt X pl fp tn W gz i s → s.heap.IsGen a gz) (tr : Nat → Bool) {R : Result → Shared → Prop}
    (hF : ∀ i x, i < n → F i x → x = .bl (tr i)) (hR : ∀ i σ H s', i ≤ n → Inv X pl σ H s' → W i σ H → R (.ok (.ret (.bool ((List.range n).all tr)))) s') :
    ∀ (k j : Nat) (s : Shared), n - j = k → j ≤ n → (∀ i, i < j → tr i = true) → GRun X pl A.in1 fp tn n gz W F j s → codeAny (model X.prog X.w) A (.builtin "all.loop" ⟨[.ref a], []⟩) R s := by
  intro k
  induction k with
  | zero =>
    intro j s hk hj hb h
    have e : j = n := by omega
    subst e
    refine codeAny_builtin PySem.F.entry_all_loop ?_
    rw [Around.under_plainId PySem.F.plain_all_loop _]
    refine wpAny_bind (m := pyNext (.ref a)) (next_done hh hroom hgen h fun σ H s' I w => ?_)
    refine wpAny_bind (wpAny_rule (wpAny_pure ?_))
    have q := hR j σ H s' (Nat.le_refl j) I w
    have e2 : (List.range j).all tr = true := List.all_eq_true.mpr fun i hi => hb i (List.mem_range.mp hi)
    rw [e2] at q
    exact q
  | succ k ih =>
    intro j s hk hj hb h
    have lt : j < n := by omega
    refine codeAny_builtin PySem.F.entry_all_loop ?_
    rw [Around.under_plainId PySem.F.plain_all_loop _]
    refine wpAny_bind (m := pyNext (.ref a)) (next_item hh hroom hgen lt h fun x v s' rv hx h' => ?_)
    have ex := hF j x lt hx
    subst ex
    have ev : v = Value.bool (tr j) := rv
    subst ev
    refine wpAny_bind (wpAny_holding (wpAny_truthy_bool (wpAny_bind (wpAny_letGo ?_))))
    cases q : tr j with
    | true =>
      refine wpAny_pure ⟨plainId_quiet PySem.F.plain_all_loop _, ih (j + 1) _ (by omega) lt (fun i hi => ?_) h'⟩
      by_cases c : i = j
      · rw [c, q]
      · exact hb i (by omega)
    | false =>
      refine wpAny_bind (wpAny_rule (wpAny_pure ?_))
      obtain ⟨⟨σ, H, I, _, _, w⟩, _⟩ := h'.at_
      have z := hR (j + 1) σ H s' lt I w
      have e2 : (List.range n).all tr = false := by
        rw [Bool.eq_false_iff]
        intro e
        have := List.all_eq_true.mp e j (List.mem_range.mpr lt)
        rw [q] at this
        cases this
      rw [e2] at z
      exact z
/-- any: likewise -/
theorem any_loop {a : Addr} (hh : A.handled = none) (hroom : A.depth < recursionLimit) (hgen : ∀ i s, GAt X pl fp tn W gz i s → s.heap.IsGen a gz) (tr : Nat → Bool) {R : Result → Shared → Prop}
    (hF : ∀ i x, i < n → F i x → x = .bl (tr i)) (hR : ∀ i σ H s', i ≤ n → Inv X pl σ H s' → W i σ H → R (.ok (.ret (.bool ((List.range n).any tr)))) s') :
    ∀ (k j : Nat) (s : Shared), n - j = k → j ≤ n → (∀ i, i < j → tr i = false) → GRun X pl A.in1 fp tn n gz W F j s → codeAny (model X.prog X.w) A (.builtin "any.loop" ⟨[.ref a], []⟩) R s := by
  intro k
  induction k with
  | zero =>
    intro j s hk hj hb h
    have e : j = n := by omega
    subst e
    refine codeAny_builtin PySem.F.entry_any_loop ?_
    rw [Around.under_plainId PySem.F.plain_any_loop _]
    refine wpAny_bind (m := pyNext (.ref a)) (next_done hh hroom hgen h fun σ H s' I w => ?_)
    refine wpAny_bind (wpAny_rule (wpAny_pure ?_))
    have q := hR j σ H s' (Nat.le_refl j) I w
    have e2 : (List.range j).any tr = false := by
      rw [Bool.eq_false_iff]
      intro e
      obtain ⟨i, hi, z⟩ := List.any_eq_true.mp e
      rw [hb i (List.mem_range.mp hi)] at z
      cases z
    rw [e2] at q
    exact q
  | succ k ih =>
    intro j s hk hj hb h
    have lt : j < n := by omega
    refine codeAny_builtin PySem.F.entry_any_loop ?_
    rw [Around.under_plainId PySem.F.plain_any_loop _]
    refine wpAny_bind (m := pyNext (.ref a)) (next_item hh hroom hgen lt h fun x v s' rv hx h' => ?_)
    have ex := hF j x lt hx
    subst ex
    have ev : v = Value.bool (tr j) := rv
    subst ev
    refine wpAny_bind (wpAny_holding (wpAny_truthy_bool (wpAny_bind (wpAny_letGo ?_))))
    cases q : tr j with
    | false =>
      refine wpAny_pure ⟨plainId_quiet PySem.F.plain_any_loop _, ih (j + 1) _ (by omega) lt (fun i hi => ?_) h'⟩
      by_cases c : i = j
      · rw [c, q]
      · exact hb i (by omega)
    | true =>
      refine wpAny_bind (wpAny_rule (wpAny_pure ?_))
      obtain ⟨⟨σ, H, I, _, _, w⟩, _⟩ := h'.at_
      have z := hR (j + 1) σ H s' lt I w
      have e2 : (List.range n).any tr = true := List.any_eq_true.mpr ⟨j, List.mem_range.mpr lt, q⟩
      rw [e2] at z
      exact z
end
end GX

set_option Elab.async false
set_option linter.all false
set_option maxRecDepth 100000
set_option maxHeartbeats 4000000
/-! such a generator is made -/
namespace GX
open PySem PySem.Spec PyProof.Rows L2
/-- the frame's context -/
def gcx (X : Cx) (s4 : Shared) (H4 : Hp) (cenv : Env) (N : List Str) (ex : List Addr) (A' : Around) : Cx where
  prog := X.prog
  w := X.w
  K := X.K
  mg := X.mg
  base := X.base
  A := A'
  N := N
  s_0 := s4
  H_0 := H4
  env := cenv
  outer := X.stack
  stack := cenv :: X.stack
  ex := ex
  fn := fun _ => false
  calm := true
  pn := []
  xe := fun _ _ => False
/-- a generator expression's scope within the def that runs -/
structure GSc (env : Env) (scope : Scope) : Prop where
  kind : scope.kind = .function
  co : scope.isCoroutine = false
  cell : ∀ y ∈ scope.names, y.2 ≠ .cell
  dot : scope.names.lookup (".0" : Str) = some NameKind.local
  free : ∀ y ∈ scope.names, y.2 = .free → ∃ c, env.cells.lookup y.1 = some c
theorem clo_some {cells : List (Str × Addr)} {names : List (Str × NameKind)} (hf : ∀ y ∈ names, y.2 = .free → ∃ c, cells.lookup y.1 = some c) {x : Str} {c : Addr} (h : (cloFrom cells names []).lookup x = some c) : cells.lookup x = some c := by
  rcases cloFrom_mem (PySem.mem_of_lookup h) with z | ⟨z, e⟩
  · cases z
  · obtain ⟨d, hd⟩ := hf _ z rfl
    rw [hd] at e
    rw [e, hd]
    rfl
theorem clo_has {cells : List (Str × Addr)} {names : List (Str × NameKind)} {x : Str} (h : names.lookup x = some .free) : ∃ c, (cloFrom cells names []).lookup x = some c := by
  have z := cloFrom_has (cells := cells) (acc := []) (PySem.mem_of_lookup h)
  cases q : (cloFrom cells names []).lookup x with
  | some c => exact ⟨c, rfl⟩
  | none =>
    have := List.lookup_eq_none_iff.mp q _ z
    simp at this
section
variable {X : Cx} {pins : List (Addr × Obj)} {σ σg : L2.St} {H : Hp} {s : Shared} {scope : Scope} {N : List Str} {fp : List Addr}
theorem gcx_inv (I : Inv X pins σ H s) (S : GSc X.env scope) (hf : ∀ b ∈ fp, FpOk X pins H b) (hthere : ∀ b ∈ fp, ∃ o, s.heap.get? b = some o) {A' : Around} {code : Value} (hA : A'.handled = none) (hA2 : A'.frames = some (genEnv scope (cloFrom X.env.cells scope.names []) s.heap.objs.size code builtinsNs X.env :: X.stack))
    (hcap : ∀ (i : Nat) (x : Str) (v : V), N[i]? = some x → σg[i]? = some (some v) → scope.names.lookup x = some .free ∧ (X.env.kindOf x = some .cell ∨ X.env.kindOf x = some .free) ∧ ∃ k : Nat, X.N[k]? = some x ∧ σ[k]? = some (some v)) (hlen : σg.length = N.length)
    {h5 : Heap} {gens : Array GenState} {tk : Nat} {m : Str → Option Value} {a : Addr} {oa : Obj} (hb : AllBare gens) (keep : ∀ b o, s.heap.get? b = some o → h5.get? b = some o) (hn : h5.Ns s.heap.objs.size m) (ha : h5.get? a = some oa) (hsz : s.heap.objs.size < a) (hd : ∀ v, oa.data ≠ .cell v) :
    Inv (gcx X s H (genEnv scope (cloFrom X.env.cells scope.names []) s.heap.objs.size code builtinsNs X.env) N fp A') [(a, oa)] σg H { s with heap := h5, gens := gens, toks := tk } := by
  have sub : ∀ {x : Str} {c : Addr}, (cloFrom X.env.cells scope.names []).lookup x = some c → X.env.cells.lookup x = some c := fun h => clo_some S.free h
  have isfree : ∀ {x : Str}, scope.names.lookup x = some .cell ∨ scope.names.lookup x = some .free → scope.names.lookup x = some .free := fun {x} h => by
    rcases h with h | h
    · exact absurd rfl (S.cell _ (PySem.mem_of_lookup h))
    · exact h
  have stk : ∀ {b : Addr} {o : Obj}, b ∈ frs X.stack → b < s.heap.objs.size := fun {b o} hb => by
    rcases List.mem_cons.mp (I.stkSub b hb) with e | e
    · rw [e]
      exact I.lt
    · obtain ⟨_, o, ho, _⟩ := I.ok.funs.mem e
      exact Nat.lt_of_lt_of_le (Heap.lt_size ho) I.sz
  refine ⟨⟨I.ok.mod, S.kind, I.ok.glob, rfl, Nat.le_refl _, fun x y c h1 h2 => I.ok.inj x y c (sub h1) (sub h2), fun x h => clo_has (isfree h), (fun x c h _ => nomatch h), fun _ => hA, hA2, .inr ⟨rfl, rfl⟩, fun b hb => ⟨fun e => ?_, fun x c h => (hf b hb).2.2.2.2.1 x c (sub h)⟩, I.bs, Nat.le_trans I.ok.bsz I.sz, fun b o e hb => ?_, fun b hb hs => ?_, I.stack, I.stkFree⟩,
    rfl, hb, Un.kept keep, ⟨m, hn, fun i x v h1 h2 h3 => ?_⟩, fun x c h => ?_, I.hok.fresh (Nat.le_refl _), fun x c h => I.freeC x c (sub h), fun p hp => ?_, I.hok.kept keep, hlen⟩
  · obtain ⟨o, e2⟩ := hthere b hb
    have := Heap.lt_size e2
    rw [e] at this
    exact Nat.lt_irrefl _ this
  · rcases (hf b hb).2.2.2.1 with z | z
    · exact I.ok.noex b o e z
    · exact absurd (Nat.lt_of_lt_of_le (Heap.lt_size (I.ok.bs b o e).1) z) (Nat.lt_irrefl _)
  · rcases List.mem_cons.mp (I.stkSub b hs) with e | e
    · exact (hf b hb).2.1 e
    · exact (hf b hb).2.2.1 e
  · obtain ⟨k1, k2, j, k3, k4⟩ := hcap i x v h1 h2
    obtain ⟨mX, _, hl⟩ := I.loc
    have vis : Vis X.env.scope x := .inr k2
    obtain ⟨u, ru, lk⟩ := hl j x v k3 k4 vis
    rcases lk with ⟨z, _⟩ | ⟨_, c, hc, ic⟩
    · rcases k2 with k2 | k2
      · rw [z] at k2
        cases k2
      · rw [z] at k2
        cases k2
    · obtain ⟨c2, hc2⟩ := clo_has (cells := X.env.cells) k1
      have e := sub hc2
      rw [hc] at e
      refine ⟨u, ru, .inr ⟨.inr k1, c2, hc2, ?_⟩⟩
      rw [← Option.some.inj e]
      obtain ⟨o, ho, r⟩ := ic
      exact ⟨o, keep _ o ho, r⟩
  · obtain ⟨v, o, ho, r⟩ := I.cell x c (sub h)
    exact ⟨v, o, keep _ o ho, r⟩
  · have e : p = (a, oa) := List.mem_singleton.mp (show p ∈ ([(a, oa)] : List (Addr × Obj)) from hp)
    subst e
    refine ⟨ha, I.hok.fresh (Nat.le_of_lt hsz), Nat.ne_of_gt hsz, fun z => ?_, hd⟩
    exact Nat.lt_irrefl _ (Nat.lt_trans hsz (stk (o := oa) z))
/-- behind the generator's life the consumer goes on -/
theorem gcx_back (I : Inv X pins σ H s) (hf : ∀ b ∈ fp, FpOk X pins H b) {cenv : Env} {A' : Around} {pl : List (Addr × Obj)} {H' : Hp} {s' : Shared} (J : Inv (gcx X s H cenv N fp A') pl σg H' s') : Inv X pins σ H' s' :=
  I.call' (ch := fp) J.os J.base J.hok J.bare fun b hb => ⟨(hf b hb).2.2.2.1, (hf b hb).2.1, (hf b hb).2.2.2.2.1, (hf b hb).2.2.2.2.2⟩
end
end GX

set_option Elab.async false
set_option linter.all false
set_option maxRecDepth 100000
set_option maxHeartbeats 4000000
/-! such a generator is made and walked -/
namespace GX
open PySem PySem.Spec PyProof.Rows L2
abbrev cenvOf (X : Cx) (scope : Scope) (s4 : Shared) (code : Value) : Env := genEnv scope (cloFrom X.env.cells scope.names []) s4.heap.objs.size code builtinsNs X.env
abbrev gA (X : Cx) (target elt iter : Expr) (scope : Scope) (pos : Pos) (it : Addr) (cenv : Env) : Around := X.A.in1.in1.over (loopC target elt iter scope pos it cenv) []
/-- the context of the expression's frame, as it runs for all, any -/
abbrev gX (X : Cx) (target elt iter : Expr) (scope : Scope) (pos : Pos) (N : List Str) (s4 : Shared) (H4 : Hp) (code : Value) (fp : List Addr) (it : Addr) : Cx :=
  gcx X s4 H4 (cenvOf X scope s4 code) N fp (gA X target elt iter scope pos it (cenvOf X scope s4 code))
theorem gA_frames {X : Cx} {target elt iter : Expr} {scope : Scope} {pos : Pos} {it : Addr} {cenv : Env} (h : X.A.frames = some X.stack) : (gA X target elt iter scope pos it cenv).frames = some (cenv :: X.stack) := by
  have e : (gA X target elt iter scope pos it cenv).frames = X.A.frames.map (cenv :: ·) := by
    unfold gA Around.over Around.in1
    cases X.A.frames <;> rfl
  rw [e, h]
  rfl
theorem gA_room {X : Cx} {target elt iter : Expr} {scope : Scope} {pos : Pos} {it : Addr} {cenv : Env} {k : Nat} (h : Room (k + 1) X.A) : Room k (gA X target elt iter scope pos it cenv) := by
  refine ⟨h.hd, ?_, ?_⟩
  · have := h.dp
    show X.A.depth + 1 + 3 * k + 5 < _
    omega
  · have := h.un
    show X.A.units + 1 + 1 + 3 + 16 * k + 200 < _
    omega
/-- the captured names' slots -/
def gsl (caps : List (Option Nat)) (σ : L2.St) : L2.St := caps.map fun o => match o with
  | some k => (σ[k]?).getD none
  | none => none
structure Caps (X : Cx) (scope : Scope) (N : List Str) (caps : List (Option Nat)) : Prop where
  len : caps.length = N.length
  ok : ∀ (i k : Nat) (x : Str), caps[i]? = some (some k) → N[i]? = some x → scope.names.lookup x = some .free ∧ (X.env.kindOf x = some .cell ∨ X.env.kindOf x = some .free) ∧ X.N[k]? = some x
section
variable {X : Cx} {pins : List (Addr × Obj)} {σ : L2.St} {H : Hp} {s : Shared} {c P : Addr}
/-- the expression's code object, out of the def's table -/
theorem code_step (I : Inv X pins σ H s) (TB : GxR.TabB X.base X.mg c P) (hcode : X.env.code = .ref c) (hP : GxR.TabG H P) {pos : Pos} {q : Str} {scope : Scope} {Q : Value → Shared → Prop} {E : Value → Shared → Prop}
    (hQ : ∀ (code : Value) (s3 : Shared) (H3 : Hp), Inv X pins σ H3 s3 → GxR.Tabbed P H H3 → (∀ b o, b ≠ P → s.heap.get? b = some o → s3.heap.get? b = some o) → Q code s3) : wpAny (model X.prog X.w) X.A (genexprCode X.env pos q scope) Q E s := by
  obtain ⟨ps, hp, ht⟩ := hP
  have hget : s.heap.get? P = some { cls := .none, data := .fields ps } := I.hok P _ hp
  have cd : PySem.W.CodeHd s.heap c P := TB.code.keeps I.bk
  cases hf : codeAmong pos ps.toList with
  | some cv => exact wpAny_genexprCode_hit hcode (cd.code hget ht) hf (hQ cv s H I ⟨⟨ps, hp, ht⟩, fun _ _ => rfl⟩ fun _ _ _ e => e)
  | none =>
    refine wpAny_genexprCodeX hcode (cd.code hget ht) (cd.tab hget) hf fun c' h' tk hx hge hlt hco _ htab _ => ?_
    obtain ⟨_, _, _, _, _, _, _, _, _, _, _, _, _, _, _, _, _, _, _, htr, _⟩ := hco
    refine hQ (.ref c') { s with heap := h', toks := tk } _ (GxR.inv_tab (more := #[rawInt pos.line, rawInt pos.col, Value.ref c']) (g' := s.gens) (d' := s.drawn) I hp (fun b u hb e => hx b u hb e) htab.2 I.bare) ⟨⟨_, upd_same, htr⟩, fun b hb => upd_ne hb⟩ fun b o hb e => hx b o hb e
theorem blt_step (I : Inv X pins σ H s) (TB : GxR.TabB X.base X.mg c P) {Q : Addr → Shared → Prop} {E : Value → Shared → Prop} (hQ : Q builtinsNs s) : wpAny (model X.prog X.w) X.A (builtinsFor X.env.globals X.env.builtins) Q E s := by
  obtain ⟨m, ob, e1, e2, e3, e4, e5, e6, e7, e8⟩ := TB.bm
  exact wpAny_builtinsFor (m := X.mg) (by rw [I.ok.glob]; exact I.mod.glob.keeps I.bk) e1 e2 (I.bk _ _ e5) e6 e7 e8 hQ
/-- a generator that is ready to be walked by all, any: what is handed out at turn i is told by F, what holds ahead of it by W -/
def Made (X : Cx) (pins : List (Addr × Obj)) (σ : L2.St) (n : Nat) (W : Nat → L2.St → Hp → Prop) (F : Nat → V → Prop) (a : Addr) (s5 : Shared) : Prop :=
  ∃ (Y : Cx) (pl : List (Addr × Obj)) (fp : List Addr) (tn : Nat → Heap → Prop) (gz : Nat), Y.prog = X.prog ∧ Y.w = X.w ∧ (∀ σ' H' s', Inv Y pl σ' H' s' → Inv X pins σ H' s') ∧
    (∀ i s, GAt Y pl fp tn W gz i s → s.heap.IsGen a gz) ∧ GRun Y pl X.A.in1 fp tn n gz W F 0 s5
theorem gsl_at {caps : List (Option Nat)} {σ : L2.St} {i : Nat} {v : V} (h : (gsl caps σ)[i]? = some (some v)) : ∃ k, caps[i]? = some (some k) ∧ σ[k]? = some (some v) := by
  unfold gsl at h
  rw [List.getElem?_map] at h
  cases e : caps[i]? with
  | none =>
    rw [e] at h
    cases h
  | some o =>
    rw [e] at h
    cases o with
    | none => cases Option.some.inj h
    | some k =>
      have h2 : (σ[k]?).getD none = some v := Option.some.inj h
      refine ⟨k, rfl, ?_⟩
      cases e2 : σ[k]? with
      | none =>
        rw [e2] at h2
        cases h2
      | some u =>
        rw [e2] at h2
        have h3 : u = some v := h2
        rw [h3]
theorem gen_made {target elt iter : Expr} {scope : Scope} {gpos : Pos} {N : List Str} {caps : List (Option Nat)} {wi : TI} {g : TG} {te : TE} {k : Nat} {Q' : Value → Shared → Prop}
    (hr : Room (k + 1) X.A) (TB : GxR.TabB X.base X.mg c P) (hcode : X.env.code = .ref c) (S : GSc X.env scope) (CP : Caps X scope N caps) (hi : PI X target iter wi) (hs : ∀ v, genFold iter X.env v = pure v)
    (hg : ∀ s4 H4 code fp it, PG (gX X target elt iter scope gpos N s4 H4 code fp it) target g) (he : ∀ s4 H4 code fp it, PE (gX X target elt iter scope gpos N s4 H4 code fp it) elt te) (I : Inv X pins σ H s)
    {Rw : It → Hp → Prop} (h : wi σ H Rw) (hR : ∀ J H2, Rw J H2 → GxR.TabG H2 P ∧ ∀ H3, GxR.Tabbed P H2 H3 → ∃ (n : Nat) (W : Nat → L2.St → Hp → Prop) (F : Nat → V → Prop), W 0 (gsl caps σ) H3 ∧
      (∀ i σ' H', i < n → W i σ' H' → J.go i H' ∧ ∀ x H'', J.yld i H' x H'' → g x σ' H'' fun σ2 H4 => te σ2 H4 fun v H5 => F i v ∧ W (i + 1) σ2 H5) ∧ (∀ σ' H', W n σ' H' → J.stop n H') ∧
      ∀ a s5, Made X pins σ n W F a s5 → Q' (.ref a) s5) :
    wpAny (model X.prog X.w) X.A (eval (.GeneratorExp elt [⟨target, iter, [], 0⟩] scope gpos) X.env) Q' X.xe s := by
  refine wpAny_GeneratorExp_make S.co (closure_ok S.free) S.cell S.dot S.kind (by have := hr.dp; omega) ?_ hs
  refine wpAny_mono (hi.run pins s σ H _ I h) (fun xv s1 h1 => wpAny_mono h1 (fun itv s2 h2 => ?_) fun _ _ z => z) fun _ _ z => z
  obtain ⟨it, fp, tn, J, H2, rfl, I2, T, st2, f2, rJ⟩ := h2
  obtain ⟨hP, spec⟩ := hR J H2 rJ
  refine ⟨I2.nolimit, code_step I2 TB hcode hP fun code s3 H3 I3 tb keep3 => blt_step I3 TB fun h' hn' hs' => ?_⟩
  obtain ⟨n, W, F, w0, step, stop, hQ⟩ := spec H3 tb
  -- what is walked stands as it stood
  have nP : ∀ b ∈ fp, b ≠ P := fun b hb z => by
    obtain ⟨ps, hp, _⟩ := hP
    have := (f2 b hb).1
    rw [z, hp] at this
    cases this
  have st3 : tn 0 s3.heap := T.keep _ _ _ st2 fun b hb o e => keep3 b o (nP b hb) e
  have f3 : ∀ b ∈ fp, FpOk X pins H3 b := fun b hb => ⟨(tb.2 b (nP b hb)).trans (f2 b hb).1, (f2 b hb).2⟩
  have there : ∀ b ∈ fp, ∃ o, s3.heap.get? b = some o := fun b hb => by
    obtain ⟨o, e, _⟩ := T.obj _ _ st3 b hb
    exact ⟨o, e⟩
  have hsz : h'.objs.size = s3.heap.objs.size + 1 := by rw [hs'.1, Heap.size_push]
  have keep' : ∀ b o, s3.heap.get? b = some o → h'.get? b = some o := fun b o e => hs'.extBut b o (Nat.ne_of_lt (Heap.lt_size e)) (Heap.get?_push_of_some _ e)
  generalize hoa : ({ cls := .type "generator", data := .fields #[.int s3.gens.size 0, .str "<genexpr>" (s3.toks + 1), .str (X.env.qual ++ "<genexpr>") (s3.toks + 1 + 1)] } : Obj) = oa
  have nc : ∀ v, oa.data ≠ .cell v := fun v z => by
    rw [← hoa] at z
    cases z
  have fr : oa.isFreed = false := by
    rw [← hoa]
    rfl
  have J5 : Inv (gX X target elt iter scope gpos N s3 H3 code fp it) [(h'.objs.size, oa)] (gsl caps σ) H3 { s3 with heap := h'.push oa, gens := s3.gens.push (.fresh (startC target elt iter scope gpos it (cenvOf X scope s3 code))), toks := s3.toks + 1 + 1 + 1 } := by
    refine gcx_inv (A' := gA X target elt iter scope gpos it (cenvOf X scope s3 code)) (code := code) (N := N) I3 S f3 there hr.hd (gA_frames I3.ok.frames) (fun i x v hN hv => ?_) ?_ (by exact I3.bare.push rfl) (fun b o e => Heap.get?_push_of_some _ (keep' b o e)) (hn'.push _) (Heap.get?_push_size _ fr) (by omega) nc
    · obtain ⟨k, h1, h2⟩ := gsl_at hv
      obtain ⟨k1, k2, k3⟩ := CP.ok i k x h1 hN
      exact ⟨k1, k2, k, k3, h2⟩
    · unfold gsl
      rw [List.length_map]
      exact CP.len
  have at5 : GAt (gX X target elt iter scope gpos N s3 H3 code fp it) [(h'.objs.size, oa)] fp tn W s3.gens.size 0 { s3 with heap := h'.push oa, gens := s3.gens.push (.fresh (startC target elt iter scope gpos it (cenvOf X scope s3 code))), toks := s3.toks + 1 + 1 + 1 } := by
    refine ⟨⟨gsl caps σ, H3, J5, T.keep _ _ _ st3 fun b hb o e => Heap.get?_push_of_some _ (keep' b o e), fun b hb => ?_, w0⟩, ?_⟩
    · have fb := f3 b hb
      obtain ⟨ob, e⟩ := there b hb
      have lt := Heap.lt_size e
      refine ⟨fb.1, Nat.ne_of_lt lt, J5.ok.exfs b hb, .inl hb, (J5.ok.exf b hb).2, fun p hp => ?_⟩
      have ep : p = (h'.objs.size, oa) := List.mem_singleton.mp (show p ∈ ([(h'.objs.size, oa)] : List (Addr × Obj)) from hp)
      rw [ep]
      exact Nat.ne_of_gt (show b < h'.objs.size by rw [hsz]; exact Nat.lt_succ_of_lt lt)
    · show s3.gens.size < (s3.gens.push _).size
      rw [Array.size_push]
      omega
  refine hQ h'.objs.size _ ⟨gX X target elt iter scope gpos N s3 H3 code fp it, [(h'.objs.size, oa)], fp, tn, s3.gens.size, rfl, rfl, fun σ' H' s' J' => gcx_back I3 f3 J', fun i s' ha => ?_, at5, ⟨_, Array.getElem?_push_size .., fun s'' h'' => ⟨rfl, ?_⟩⟩⟩
  · have e := ha.gen (a := h'.objs.size) (oa := oa) List.mem_cons_self
    rw [← hoa] at e
    exact ⟨_, _, _, e, rfl, rfl, rfl⟩
  · exact gen_start (X := gX X target elt iter scope gpos N s3 H3 code fp it) (A := X.A.in1.in1) rfl rfl S.co (fun _ _ z => z) T (hg _ _ _ _ _) (he _ _ _ _ _) step stop s'' s'' h''
end
end GX

set_option Elab.async false
set_option linter.all false
set_option maxRecDepth 100000
set_option maxHeartbeats 4000000
/-! all(e for t in i), any(e for t in i) -/
namespace GX
open PySem PySem.Spec PyProof.Rows L2
/-- the reading: n turns, W ahead of each, tr what each element is -/
def tGen (P : Addr) (caps : List (Option Nat)) (wi : TI) (g : TG) (te : TE) (out : List Bool → Bool) : TE := fun σ H Q => wi σ H fun J H2 => GxR.TabG H2 P ∧ ∀ H3, GxR.Tabbed P H2 H3 → ∃ (n : Nat) (W : Nat → L2.St → Hp → Prop) (tr : Nat → Bool), W 0 (gsl caps σ) H3 ∧
  (∀ i σ' H', i < n → W i σ' H' → J.go i H' ∧ ∀ x H'', J.yld i H' x H'' → g x σ' H'' fun σ2 H4 => te σ2 H4 fun v H5 => v = .bl (tr i) ∧ W (i + 1) σ2 H5) ∧ (∀ σ' H', W n σ' H' → J.stop n H') ∧
  ∀ i σ' H', i ≤ n → W i σ' H' → Q (.bl (out ((List.range n).map tr))) H'
abbrev tAllG (P : Addr) (caps : List (Option Nat)) (wi : TI) (g : TG) (te : TE) : TE := tGen P caps wi g te fun l => l.all id
abbrev tAnyG (P : Addr) (caps : List (Option Nat)) (wi : TI) (g : TG) (te : TE) : TE := tGen P caps wi g te fun l => l.any id
section
variable {X : Cx} {c P : Addr} {target elt iter : Expr} {scope : Scope} {gpos p pos : Pos} {N : List Str} {caps : List (Option Nat)} {wi : TI} {g : TG} {te : TE} {k : Nat}
theorem pe_allG (hr : Room (k + 1) X.A) (hgl : Gl X "all") (hm : X.mg "all" = none) (TB : GxR.TabB X.base X.mg c P) (hcode : X.env.code = .ref c) (S : GSc X.env scope) (CP : Caps X scope N caps) (hi : PI X target iter wi)
    (hg : ∀ s4 H4 code fp it, PG (gX X target elt iter scope gpos N s4 H4 code fp it) target g) (he : ∀ s4 H4 code fp it, PE (gX X target elt iter scope gpos N s4 H4 code fp it) elt te)
    (hs : ∀ v, genFold iter X.env v = pure v := by intro _; rfl)
    (hst : starEach [.GeneratorExp elt [⟨target, iter, [], 0⟩] scope gpos] X.env = (false, eval (.GeneratorExp elt [⟨target, iter, [], 0⟩] scope gpos) X.env) :: starEach [] X.env := by rfl) :
    PE X (.Call (.Name "all" p) [.GeneratorExp elt [⟨target, iter, [], 0⟩] scope gpos] [] pos) (tAllG P caps wi g te) := by
  refine ⟨fun pins s σ H Q I h => wpAny_Call_Name_kw (ld_blt I hgl hm PyProof.Rows.boot_all (PyProof.Rows.callWith_builtin1 ?_ hst (by rfl)))⟩
  rw [hst]
  show wpAny _ _ (spliced ((false, eval (.GeneratorExp elt [⟨target, iter, [], 0⟩] scope gpos) X.env) :: backTo pos (starEach [] X.env))) _ _ s
  refine Calls.spliced_cons (gen_made hr TB hcode S CP hi hs hg he I h fun J H2 ⟨hP, spec⟩ => ⟨hP, fun H3 tb => ?_⟩)
  obtain ⟨n, W, tr, w0, step, stop, hQ⟩ := spec H3 tb
  refine ⟨n, W, fun i v => v = .bl (tr i), w0, step, stop, fun a s5 ⟨Y, pl, fp, tn, gz, e1, e2, back, isg, run⟩ => ?_⟩
  refine Calls.spliced_nil ?_
  refine call_function_tree PySem.F.kind_all PySem.F.plain_all PySem.F.entry_all (PySem.F.args_all1 _) ?_
  unfold Builtin.«all»
  refine wpAny_bind (m := oneArg "all" _) (wpAny_pure ?_)
  refine wpAny_bind (wpAny_pyIter_gen (isg 0 s5 run.at_) (wpAny_pure ⟨plainId_quiet PySem.F.plain_all_loop _, ?_⟩))
  rw [← e1, ← e2]
  refine all_loop hr.hd (by have := hr.dp; show X.A.depth < _; omega) isg tr (fun i x _ hx => hx) (fun i σ' H' s' hi' I' w' => ?_) n 0 s5 (Nat.sub_zero n) (Nat.zero_le n) (fun i hi' => absurd hi' (Nat.not_lt_zero i)) run
  refine ⟨.bl ((List.range n).all tr), H', back σ' H' s' I', rfl, ?_⟩
  have q : Q (.bl (((List.range n).map tr).all id)) H' := hQ i σ' H' hi' w'
  have e : ((List.range n).map tr).all id = (List.range n).all tr := by
    rw [List.all_map]
    rfl
  rw [e] at q
  exact q
theorem pe_anyG (hr : Room (k + 1) X.A) (hgl : Gl X "any") (hm : X.mg "any" = none) (TB : GxR.TabB X.base X.mg c P) (hcode : X.env.code = .ref c) (S : GSc X.env scope) (CP : Caps X scope N caps) (hi : PI X target iter wi)
    (hg : ∀ s4 H4 code fp it, PG (gX X target elt iter scope gpos N s4 H4 code fp it) target g) (he : ∀ s4 H4 code fp it, PE (gX X target elt iter scope gpos N s4 H4 code fp it) elt te)
    (hs : ∀ v, genFold iter X.env v = pure v := by intro _; rfl)
    (hst : starEach [.GeneratorExp elt [⟨target, iter, [], 0⟩] scope gpos] X.env = (false, eval (.GeneratorExp elt [⟨target, iter, [], 0⟩] scope gpos) X.env) :: starEach [] X.env := by rfl) :
    PE X (.Call (.Name "any" p) [.GeneratorExp elt [⟨target, iter, [], 0⟩] scope gpos] [] pos) (tAnyG P caps wi g te) := by
  refine ⟨fun pins s σ H Q I h => wpAny_Call_Name_kw (ld_blt I hgl hm PyProof.Rows.boot_any (PyProof.Rows.callWith_builtin1 ?_ hst (by rfl)))⟩
  rw [hst]
  show wpAny _ _ (spliced ((false, eval (.GeneratorExp elt [⟨target, iter, [], 0⟩] scope gpos) X.env) :: backTo pos (starEach [] X.env))) _ _ s
  refine Calls.spliced_cons (gen_made hr TB hcode S CP hi hs hg he I h fun J H2 ⟨hP, spec⟩ => ⟨hP, fun H3 tb => ?_⟩)
  obtain ⟨n, W, tr, w0, step, stop, hQ⟩ := spec H3 tb
  refine ⟨n, W, fun i v => v = .bl (tr i), w0, step, stop, fun a s5 ⟨Y, pl, fp, tn, gz, e1, e2, back, isg, run⟩ => ?_⟩
  refine Calls.spliced_nil ?_
  refine call_function_tree PySem.F.kind_any PySem.F.plain_any PySem.F.entry_any (PySem.F.args_any1 _) ?_
  unfold Builtin.«any»
  refine wpAny_bind (m := oneArg "any" _) (wpAny_pure ?_)
  refine wpAny_bind (wpAny_pyIter_gen (isg 0 s5 run.at_) (wpAny_pure ⟨plainId_quiet PySem.F.plain_any_loop _, ?_⟩))
  rw [← e1, ← e2]
  refine any_loop hr.hd (by have := hr.dp; show X.A.depth < _; omega) isg tr (fun i x _ hx => hx) (fun i σ' H' s' hi' I' w' => ?_) n 0 s5 (Nat.sub_zero n) (Nat.zero_le n) (fun i hi' => absurd hi' (Nat.not_lt_zero i)) run
  refine ⟨.bl ((List.range n).any tr), H', back σ' H' s' I', rfl, ?_⟩
  have q : Q (.bl (((List.range n).map tr).any id)) H' := hQ i σ' H' hi' w'
  have e : ((List.range n).map tr).any id = (List.range n).any tr := by
    rw [List.any_map]
    rfl
  rw [e] at q
  exact q
end
end GX

set_option Elab.async false
set_option linter.all false
set_option maxRecDepth 100000
set_option maxHeartbeats 4000000
/-! data of puzzles on the heap: tuples of ints, rows, rules, puzzles; what keeps them; list comprehensions by walks -/
namespace GX
open PySem PySem.Spec PyProof.Rows L2
/-- all tuples stay -/
def Kt (H H' : Hp) : Prop := ∀ b xs, H b = some (.tup xs) → H' b = some (.tup xs)
/-- all but tables of codes stays -/
def Kb (H H' : Hp) : Prop := (∀ b o, (∀ ps, o ≠ .tbl ps) → H b = some o → H' b = some o) ∧ ∀ P, GxR.TabG H P → GxR.TabG H' P
theorem Kt.refl (H : Hp) : Kt H H := fun _ _ e => e
theorem Kt.trans {A B C : Hp} (h : Kt A B) (g : Kt B C) : Kt A C := fun b xs e => g b xs (h b xs e)
theorem kt_same {H H' : Hp} (h : Same H H') : Kt H H' := fun b xs e => h b _ e
theorem kt_kb {H H' : Hp} (h : Kb H H') : Kt H H' := fun b xs e => h.1 b _ (fun ps z => by cases z) e
theorem kb_same {H H' : Hp} (h : Same H H') : Kb H H' := ⟨fun b o _ e => h b o e, fun P ⟨ps, e, t⟩ => ⟨ps, h _ _ e, t⟩⟩
theorem Kb.refl (H : Hp) : Kb H H := ⟨fun _ _ _ e => e, fun _ e => e⟩
theorem Kb.trans {A B C : Hp} (h : Kb A B) (g : Kb B C) : Kb A C := ⟨fun b o n e => g.1 b o n (h.1 b o n e), fun P e => g.2 P (h.2 P e)⟩
theorem kb_tab {P : Addr} {H H' : Hp} (hT : GxR.TabG H P) (h : GxR.Tabbed P H H') : Kb H H' := by
  obtain ⟨ps, e, t⟩ := hT
  refine ⟨fun b o n eb => ?_, fun R hR => ?_⟩
  · by_cases z : b = P
    · subst z
      rw [e] at eb
      cases eb
      exact absurd rfl (n ps)
    · rw [h.2 b z]
      exact eb
  · by_cases z : R = P
    · subst z
      exact h.1
    · obtain ⟨qs, e2, t2⟩ := hR
      exact ⟨qs, by rw [h.2 R z]; exact e2, t2⟩
theorem same_new {H : Hp} {p : Addr} {o : HO} (h : H p = none) : Same H (upd H p o) := fun b o' e => by
  rw [upd_ne (fun z => by rw [z, h] at e; cases e)]
  exact e
theorem Same.tr {A B C : Hp} (h : Same A B) (g : Same B C) : Same A C := fun b o e => g b o (h b o e)
/-- a tuple of ints -/
def IH (H : Hp) (v : V) (ns : List Int) : Prop := ∃ a, v = .ref a ∧ H a = some (.tup (ns.map V.int))
/-- a tuple of such tuples -/
def RowsH (H : Hp) (v : V) (rows : List (List Int)) : Prop := ∃ a vs, v = .ref a ∧ H a = some (.tup vs) ∧ Paired (IH H) vs rows
/-- a tie as a row -/
def tie2 (p : Int × Int) : List Int := [p.1, p.2]
inductive Rul
  | table (cs : List Int) (rows : List (List Int))
  | unlike (cs : List Int)
  | sum (cs : List Int) (lo hi : Int)
  | count (cs vs : List Int) (lo hi : Int)
  | below (a b : Int)
  | runs (cs ls : List Int)
  | joined (cs : List Int) (ties : List (Int × Int)) (vs : List Int)
structure Puz where
  doms : List (List Int)
  rules : List Rul
/-- a rule -/
def RuH (H : Hp) (v : V) : Rul → Prop
  | .table cs rows => ∃ a x y, v = .ref a ∧ H a = some (.tup [.str "table", x, y]) ∧ IH H x cs ∧ RowsH H y rows
  | .unlike cs => ∃ a x, v = .ref a ∧ H a = some (.tup [.str "unlike", x]) ∧ IH H x cs
  | .sum cs lo hi => ∃ a x, v = .ref a ∧ H a = some (.tup [.str "sum", x, .int lo, .int hi]) ∧ IH H x cs
  | .count cs vs lo hi => ∃ a x y, v = .ref a ∧ H a = some (.tup [.str "count", x, y, .int lo, .int hi]) ∧ IH H x cs ∧ IH H y vs
  | .below i j => ∃ a, v = .ref a ∧ H a = some (.tup [.str "below", .int i, .int j])
  | .runs cs ls => ∃ a x y, v = .ref a ∧ H a = some (.tup [.str "runs", x, y]) ∧ IH H x cs ∧ IH H y ls
  | .joined cs ties vs => ∃ a x y z, v = .ref a ∧ H a = some (.tup [.str "joined", x, y, z]) ∧ IH H x cs ∧ RowsH H y (ties.map tie2) ∧ IH H z vs
def RusH (H : Hp) (v : V) (rs : List Rul) : Prop := ∃ a vs, v = .ref a ∧ H a = some (.tup vs) ∧ Paired (RuH H) vs rs
def PzH (H : Hp) (v : V) (p : Puz) : Prop := ∃ a x y, v = .ref a ∧ H a = some (.tup [x, y]) ∧ RowsH H x p.doms ∧ RusH H y p.rules
theorem IH.kt {H H' : Hp} (k : Kt H H') {v : V} {ns : List Int} (h : IH H v ns) : IH H' v ns := let ⟨a, e, q⟩ := h; ⟨a, e, k _ _ q⟩
theorem paired_mono {α β : Type} {R S : α → β → Prop} (h : ∀ a b, R a b → S a b) : ∀ {xs : List α} {ys : List β}, Paired R xs ys → Paired S xs ys
  | _, _, .nil => .nil
  | _, _, .cons a r => .cons (h _ _ a) (paired_mono h r)
theorem RowsH.kt {H H' : Hp} (k : Kt H H') {v : V} {rows : List (List Int)} (h : RowsH H v rows) : RowsH H' v rows := let ⟨a, vs, e, q, p⟩ := h; ⟨a, vs, e, k _ _ q, paired_mono (fun _ _ => IH.kt k) p⟩
theorem RuH.kt {H H' : Hp} (k : Kt H H') {v : V} : ∀ {r : Rul}, RuH H v r → RuH H' v r
  | .table _ _, ⟨a, x, y, e, q, i, j⟩ => ⟨a, x, y, e, k _ _ q, i.kt k, j.kt k⟩
  | .unlike _, ⟨a, x, e, q, i⟩ => ⟨a, x, e, k _ _ q, i.kt k⟩
  | .sum _ _ _, ⟨a, x, e, q, i⟩ => ⟨a, x, e, k _ _ q, i.kt k⟩
  | .count _ _ _ _, ⟨a, x, y, e, q, i, j⟩ => ⟨a, x, y, e, k _ _ q, i.kt k, j.kt k⟩
  | .below _ _, ⟨a, e, q⟩ => ⟨a, e, k _ _ q⟩
  | .runs _ _, ⟨a, x, y, e, q, i, j⟩ => ⟨a, x, y, e, k _ _ q, i.kt k, j.kt k⟩
  | .joined _ _ _, ⟨a, x, y, z, e, q, i, j, l⟩ => ⟨a, x, y, z, e, k _ _ q, i.kt k, j.kt k, l.kt k⟩
theorem RusH.kt {H H' : Hp} (k : Kt H H') {v : V} {rs : List Rul} (h : RusH H v rs) : RusH H' v rs := let ⟨a, vs, e, q, p⟩ := h; ⟨a, vs, e, k _ _ q, paired_mono (fun _ _ => RuH.kt k) p⟩
theorem PzH.kt {H H' : Hp} (k : Kt H H') {v : V} {p : Puz} (h : PzH H v p) : PzH H' v p := let ⟨a, x, y, e, q, i, j⟩ := h; ⟨a, x, y, e, k _ _ q, i.kt k, j.kt k⟩
theorem sqt {K : PySem.W.Frag} {H : Hp} {a : Addr} {xs : List V} (h : H a = some (.tup xs)) : SqT K H a xs := .inl (.inl h)
theorem sql {K : PySem.W.Frag} {H : Hp} {a : Addr} {xs : List V} (h : H a = some (.lst xs)) : SqL K H a xs := .inl (.inl h)
/-! as data -/
def dI (ns : List Int) : PyData := .tuple (ns.map .int)
theorem dpAll_ints {K : PySem.W.Frag} {H : Hp} : ∀ ns : List Int, DpAll K H (ns.map V.int) (ns.map PyData.int)
  | [] => .nil
  | n :: ns => .cons (.int n) (dpAll_ints ns)
theorem IH.dp {K : PySem.W.Frag} {H : Hp} {v : V} {ns : List Int} (h : IH H v ns) : Dp K H v (dI ns) := by
  obtain ⟨a, rfl, q⟩ := h
  exact .tup (sqt q) (dpAll_ints ns)
theorem dpAll_rows {K : PySem.W.Frag} {H : Hp} : ∀ {vs : List V} {rows : List (List Int)}, Paired (IH H) vs rows → DpAll K H vs (rows.map dI)
  | _, _, .nil => .nil
  | _, _, .cons a r => .cons a.dp (dpAll_rows r)
def dRows (rows : List (List Int)) : PyData := .tuple (rows.map dI)
theorem RowsH.dp {K : PySem.W.Frag} {H : Hp} {v : V} {rows : List (List Int)} (h : RowsH H v rows) : Dp K H v (dRows rows) := by
  obtain ⟨a, vs, rfl, q, p⟩ := h
  exact .tup (sqt q) (dpAll_rows p)
theorem cmp_int (i : Int) : Cmp (.int i) := ⟨rfl, by show PyData.depth (.int i) ≤ 40; unfold PyData.depth; omega⟩
theorem canAll_ints : ∀ ns : List Int, PyData.canLayAll0 (ns.map PyData.int) = true
  | [] => by simp [PyData.canLayAll0]
  | n :: ns => by
    simp only [List.map_cons, PyData.canLayAll0, PyData.canLay0, canAll_ints ns, Bool.and_true, Bool.true_and]
theorem can_dI (ns : List Int) : (dI ns).canLay0 = true := by
  unfold dI PyData.canLay0
  exact canAll_ints ns
theorem canAll_rows : ∀ rows : List (List Int), PyData.canLayAll0 (rows.map dI) = true
  | [] => by simp [PyData.canLayAll0]
  | r :: rows => by
    simp only [List.map_cons, PyData.canLayAll0, can_dI, canAll_rows rows, Bool.and_true]
theorem depth_ints : ∀ ns : List Int, PyData.depthAll (ns.map PyData.int) = 0
  | [] => by simp [PyData.depthAll]
  | n :: ns => by simp only [List.map_cons, PyData.depthAll, PyData.depth, depth_ints ns, Nat.max_self]
theorem depth_dI (ns : List Int) : (dI ns).depth = 1 := by
  unfold dI PyData.depth
  rw [depth_ints]
theorem depth_rows : ∀ rows : List (List Int), PyData.depthAll (rows.map dI) ≤ 1
  | [] => by simp [PyData.depthAll]
  | r :: rows => by
    simp only [List.map_cons, PyData.depthAll, depth_dI]
    exact Nat.max_le.mpr ⟨Nat.le_refl _, depth_rows rows⟩
theorem cmp_dI (ns : List Int) : Cmp (dI ns) := ⟨can_dI ns, by rw [depth_dI]; decide⟩
theorem cmp_rows (rows : List (List Int)) : Cmp (dRows rows) := by
  refine ⟨by unfold dRows PyData.canLay0; exact canAll_rows rows, ?_⟩
  have := depth_rows rows
  unfold dRows PyData.depth
  omega
theorem cmp_lrows (rows : List (List Int)) : Cmp (.list (rows.map dI)) := by
  refine ⟨by unfold PyData.canLay0; exact canAll_rows rows, ?_⟩
  have := depth_rows rows
  unfold PyData.depth
  omega
theorem cmp_lints (ns : List Int) : Cmp (.list (ns.map .int)) := by
  refine ⟨by unfold PyData.canLay0; exact canAll_ints ns, ?_⟩
  unfold PyData.depth
  rw [depth_ints]
  decide
theorem eqvAll_ints : ∀ a b : List Int, PyData.eqvAll (a.map .int) (b.map .int) = decide (a = b)
  | [], [] => by simp [PyData.eqvAll]
  | [], _ :: _ => by simp [PyData.eqvAll]
  | _ :: _, [] => by simp [PyData.eqvAll]
  | x :: a, y :: b => by
    simp only [List.map_cons, PyData.eqvAll, PyData.eqv, eqvAll_ints a b, List.cons.injEq, Bool.decide_and]
    by_cases e : x = y <;> simp [e]
theorem eqv_dI (a b : List Int) : PyData.eqv (dI a) (dI b) = decide (a = b) := by
  unfold dI PyData.eqv
  exact eqvAll_ints a b
theorem eqvAll_rows : ∀ a b : List (List Int), PyData.eqvAll (a.map dI) (b.map dI) = decide (a = b)
  | [], [] => by simp [PyData.eqvAll]
  | [], _ :: _ => by simp [PyData.eqvAll]
  | _ :: _, [] => by simp [PyData.eqvAll]
  | x :: a, y :: b => by
    simp only [List.map_cons, PyData.eqvAll, eqv_dI, eqvAll_rows a b, List.cons.injEq, Bool.decide_and]
theorem eqv_rows (a b : List (List Int)) : PyData.eqv (dRows a) (dRows b) = decide (a = b) := by
  unfold dRows PyData.eqv
  exact eqvAll_rows a b
theorem eqv_lrows (a b : List (List Int)) : PyData.eqv (.list (a.map dI)) (.list (b.map dI)) = decide (a = b) := by
  unfold PyData.eqv
  exact eqvAll_rows a b
theorem eqv_lints (a b : List Int) : PyData.eqv (.list (a.map .int)) (.list (b.map .int)) = decide (a = b) := by
  unfold PyData.eqv
  exact eqvAll_ints a b
theorem any_rows (rows : List (List Int)) (r : List Int) : (rows.map dI).any (fun z => PyData.eqv z (dI r)) = decide (r ∈ rows) := by
  rw [List.any_map]
  by_cases h : r ∈ rows
  · rw [decide_eq_true h, List.any_eq_true]
    exact ⟨r, h, by show PyData.eqv (dI r) (dI r) = true; rw [eqv_dI]; exact decide_eq_true rfl⟩
  · rw [decide_eq_false h, List.any_eq_false]
    intro x hx
    show ¬ PyData.eqv (dI x) (dI r) = true
    rw [eqv_dI]
    simp only [decide_eq_true_eq]
    exact fun z => h (z ▸ hx)
theorem any_ints (ns : List Int) (n : Int) : (ns.map PyData.int).any (fun z => PyData.eqv z (.int n)) = decide (n ∈ ns) := by
  rw [List.any_map]
  by_cases h : n ∈ ns
  · rw [decide_eq_true h, List.any_eq_true]
    exact ⟨n, h, by show PyData.eqv (.int n) (.int n) = true; unfold PyData.eqv; simp⟩
  · rw [decide_eq_false h, List.any_eq_false]
    intro x hx
    show ¬ PyData.eqv (.int x) (.int n) = true
    unfold PyData.eqv
    simp only [beq_iff_eq]
    exact fun z => h (z ▸ hx)
theorem cmp_str (x : Str) (h : (PyData.str x).canLay0 = true) : Cmp (.str x) := ⟨h, by unfold PyData.depth; omega⟩
theorem cmp_nil : Cmp (dI []) := cmp_dI []
/-! comprehensions by walks -/
section
variable {J J1 : It} {n : Nat} {G : Hp → Prop} {Y : Nat → Hp → V → Hp → Prop} {g g1 : TG} {tt tt1 : TT} {te tk tv : TE} {wi1 : TI} {vs vs1 : List Nat} {σ : L2.St} {H1 : Hp} {D : Addr} {Qd : Hp → Prop}
theorem dcTW (w : Walk J n G Y) (Pv : Nat → Hp → Prop) (h0 : Pv 0 (upd H1 D (.dT []))) (hG : ∀ i H, i ≤ n → Pv i H → G H)
    (hs : ∀ i x H H', i < n → Pv i H → Y i H x H' → g x (wipe σ vs) H' fun σ2 H2 => wipe σ2 vs = wipe σ vs ∧ tt σ2 H2 fun b H3 =>
      if b = true then tk σ2 H3 fun y H4 => tv σ2 H4 fun z H5 => ∃ es ky kb, y = .ref kb ∧ H5 kb = some (.tup (ky.map kV)) ∧ H5 D = some (.dT es) ∧ es.length < sizeLine ∧ Pv (i + 1) (upd H5 D (.dT (putK es ky z))) else Pv (i + 1) H3) (hd : ∀ H, Pv n H → Qd H) :
    ∃ W : Nat → Nat → Hp → Prop, (∃ m, W 0 m (upd H1 D (.dT []))) ∧ ∀ i m H, W i m H →
      (J.stop i H ∧ Qd H) ∨ (J.go i H ∧ ∃ Nx : Hp → Prop, (∀ H', Nx H' → ∃ m', m' < m ∧ W (i + 1) m' H') ∧ ∀ x H', J.yld i H x H' → g x (wipe σ vs) H' fun σ2 H2 => wipe σ2 vs = wipe σ vs ∧ tt σ2 H2 fun b H3 =>
        if b = true then tk σ2 H3 fun y H4 => tv σ2 H4 fun z H5 => ∃ es ky kb, y = .ref kb ∧ H5 kb = some (.tup (ky.map kV)) ∧ H5 D = some (.dT es) ∧ es.length < sizeLine ∧ Nx (upd H5 D (.dT (putK es ky z))) else Nx H3) := by
  refine ⟨fun i m H => m = n - i ∧ i ≤ n ∧ Pv i H, ⟨n, rfl, Nat.zero_le _, h0⟩, fun i m H ⟨em, hi, p⟩ => ?_⟩
  subst em
  by_cases hlt : i < n
  · exact .inr ⟨w.goes i H hlt (hG i H hi p), Pv (i + 1), fun H' p' => ⟨n - (i + 1), by omega, rfl, hlt, p'⟩, fun x H' y => hs i x H H' hlt p (w.yields i H x H' hlt (hG i H hi p) y)⟩
  · have e : i = n := by omega
    subst e
    exact .inl ⟨w.stops H (hG i H hi p), hd H p⟩
end
theorem walk_zipT {K : PySem.W.Frag} {a b : Addr} {xs ys : List V} {n : Nat} (hn : n = min xs.length ys.length) : Walk (RZ.ItzT K a b) n (fun H => SqT K H a xs ∧ SqT K H b ys) (YPair (fun i => xs[i]?) (fun i => ys[i]?)) where
  goes := fun i H hi hq => ⟨xs, ys, xs[i]'(by omega), ys[i]'(by omega), hq.1, hq.2, List.getElem?_eq_getElem _, List.getElem?_eq_getElem _⟩
  stops := fun H hq => ⟨xs, ys, hq.1, hq.2, by omega⟩
  yields := fun i H x H' hi hq ⟨T, u, v, e, nn, w, z1, z2⟩ => ⟨T, u, v, e, nn, w, z1 xs hq.1, z2 ys hq.2⟩
/-! heap steps -/
theorem upd_at {H : Hp} {p b : Addr} {o o' : HO} (hp : H p = none) (e : H b = some o') : upd H p o b = some o' := by
  rw [upd_ne (fun z => by rw [z, hp] at e; cases e)]
  exact e
theorem paired_at {α β : Type} {R : α → β → Prop} : ∀ {xs : List α} {ys : List β} {i : Nat} {x : α}, Paired R xs ys → xs[i]? = some x → ∃ y, ys[i]? = some y ∧ R x y
  | _, _, i, x, .nil, h => by simp at h
  | _, _, 0, x, .cons a r, h => by
    simp only [List.getElem?_cons_zero, Option.some.injEq] at h
    subst h
    exact ⟨_, rfl, a⟩
  | _, _, i + 1, x, .cons a r, h => by
    simp only [List.getElem?_cons_succ] at h
    obtain ⟨y, e, q⟩ := paired_at r h
    exact ⟨y, by simpa using e, q⟩
theorem paired_at' {α β : Type} {R : α → β → Prop} : ∀ {xs : List α} {ys : List β} {i : Nat} {y : β}, Paired R xs ys → ys[i]? = some y → ∃ x, xs[i]? = some x ∧ R x y
  | _, _, i, y, .nil, h => by simp at h
  | _, _, 0, y, .cons a r, h => by
    simp only [List.getElem?_cons_zero, Option.some.injEq] at h
    subst h
    exact ⟨_, rfl, a⟩
  | _, _, i + 1, y, .cons a r, h => by
    simp only [List.getElem?_cons_succ] at h
    obtain ⟨x, e, q⟩ := paired_at' r h
    exact ⟨x, by simpa using e, q⟩
theorem paired_app {α β : Type} {R : α → β → Prop} : ∀ {xs us : List α} {ys ws : List β}, Paired R xs ys → Paired R us ws → Paired R (xs ++ us) (ys ++ ws)
  | _, _, _, _, .nil, h => h
  | _, _, _, _, .cons a r, h => .cons a (paired_app r h)
theorem paired_one {α β : Type} {R : α → β → Prop} {x : α} {y : β} (h : R x y) : Paired R [x] [y] := .cons h .nil
theorem at_ints {ns : List Int} {i : Nat} {x : V} (h : (ns.map V.int)[i]? = some x) : ∃ z, ns[i]? = some z ∧ x = V.int z := by
  rw [List.getElem?_map] at h
  cases e : ns[i]? with
  | none =>
    rw [e] at h
    cases h
  | some z =>
    rw [e] at h
    exact ⟨z, rfl, (Option.some.inj h).symm⟩
/-! rules with the known frame told apart from the context (for comprehensions) -/
section
variable {X : Cx}
theorem ixT (K : PySem.W.Frag) (h : X.K = K := by rfl) : IxR X (rIxT K) := h ▸ ix_tup
theorem ixL (K : PySem.W.Frag) (h : X.K = K := by rfl) : IxR X (rIxL K) := h ▸ ix_list
theorem catA (K : PySem.W.Frag) (h : X.K = K := by rfl) : OpR X (binaryOp .Add) (rCatA K) := h ▸ op_catA
theorem tupleOf (K : PySem.W.Frag) (h : X.K = K := by rfl) : CallR X (.type "tuple") (fun xs H Q => ∃ p ys, xs = [.ref p] ∧ ((SqL K H p ys ∧ ∀ l, H l = none → Q (.ref l) (upd H l (.tup ys))) ∨ (SqT K H p ys ∧ Q (.ref p) H))) := h ▸ call_tuple_of
theorem eqDD (K : PySem.W.Frag) (hu : X.A.units + 64 < cLine) (h : X.K = K := by rfl) : OpR X (compareOp .Eq) (fun x y H Q => ∃ d e, Dp K H x d ∧ Dp K H y e ∧ Cmp d ∧ Cmp e ∧ Q (.bl (PyData.eqv d e)) H) := h ▸ op_eqDD hu
theorem neDD (K : PySem.W.Frag) (hu : X.A.units + 64 < cLine) (h : X.K = K := by rfl) : OpR X (compareOp .NotEq) (fun x y H Q => ∃ d e, Dp K H x d ∧ Dp K H y e ∧ Cmp d ∧ Cmp e ∧ Q (.bl (!PyData.eqv d e)) H) := h ▸ op_neDD hu
theorem inDD (K : PySem.W.Frag) (hu : X.A.units + 64 < cLine) (h : X.K = K := by rfl) : OpR X (compareOp .In) (fun x y H Q => ∃ d ds, Dp K H x d ∧ (Dp K H y (.tuple ds) ∨ Dp K H y (.list ds)) ∧ Cmp d ∧ PyData.canLayAll0 ds = true ∧ Q (.bl (ds.any fun z => PyData.eqv z d)) H) := h ▸ op_inDD hu
theorem notInDD (K : PySem.W.Frag) (hu : X.A.units + 64 < cLine) (h : X.K = K := by rfl) : OpR X (compareOp .NotIn) (fun x y H Q => ∃ d ds, Dp K H x d ∧ (Dp K H y (.tuple ds) ∨ Dp K H y (.list ds)) ∧ Cmp d ∧ PyData.canLayAll0 ds = true ∧ Q (.bl (!ds.any fun z => PyData.eqv z d)) H) := h ▸ op_notInDD hu
theorem piT (K : PySem.W.Frag) {tg l : Expr} {tl : TE} (he : PE X l tl) (h : X.K = K := by rfl) : PI X tg l (iTup K tl) := h ▸ pi_tup he
theorem pg_tupK (K : PySem.W.Frag) {es : List Expr} {kk n : Nat} {t : TGs} {pos : Pos} (hc : X.calm = true) (h : PGs X es t) (hn : (assignEach es X.env).length = n := by rfl) (hst : (assignEach es X.env).findIdx? (·.1) = none := by rfl) (e : X.K = K := by rfl) : PG X (.Tuple es kk pos) (gTup K n t) := e ▸ pg_tup hc h hn hst
theorem piL (K : PySem.W.Frag) {tg l : Expr} {tl : TE} (he : PE X l tl) (h : X.K = K := by rfl) : PI X tg l (iList K tl) := h ▸ pi_list he
end
theorem IH.rd {K : PySem.W.Frag} {H : Hp} {v : V} {ns : List Int} (h : IH H v ns) : ∃ a, v = .ref a ∧ SqT K H a (ns.map V.int) := let ⟨a, e, q⟩ := h; ⟨a, e, sqt q⟩
end GX
namespace GX
open PySem PySem.Spec PyProof.Rows L2
/-- xs[-1] -/
theorem pget_last {X : Cx} : PGet X (fun o i H Q => ∃ p xs v, o = .ref p ∧ i = .int (-1) ∧ SqL X.K H p xs ∧ xs[xs.length - 1]? = some v ∧ Q v H) := by
  intro pins s σ H o i ov iv Q I ro ri h
  obtain ⟨p, xs, v, rfl, rfl, hq, hv, q⟩ := h
  cases ro
  obtain ⟨t, rfl⟩ := ri
  obtain ⟨its, r, pl, hz⟩ := I.list hq
  obtain ⟨w, ew, rw'⟩ := r.get hv
  have hl := r.length
  have hlt : xs.length - 1 < xs.length := (List.getElem?_eq_some_iff.mp hv).1
  have e : ((-1 : Int) + (its.toArray.size : Int)).toNat = xs.length - 1 := by
    rw [List.size_toArray, ← hl]
    omega
  have hs : its.toArray.size = xs.length := by rw [List.size_toArray, hl]
  have hn := line63
  exact wpAny_getItem_list_neg pl.isList (by omega) (by omega) (by omega) (by rw [e]; simpa using ew) ⟨v, H, I, rw', q⟩
end GX

set_option Elab.async false
set_option linter.all false
set_option maxRecDepth 100000
set_option maxHeartbeats 4000000
/-! y = {k: v for t in i}, y a local name -/
namespace GX
open PySem PySem.Spec PyProof.Rows L2
theorem swapD {kx vx : Expr} {gs : List Comprehension} {scope : Scope} {pos py : Pos} {y : Str} {l : Nat} {env : Env} (hk : env.scope.kind = .function) (hy : env.scope.names.lookup y = some .local) (hl : (py.line == pos.line) = true)
    (ha : (scope.names.any fun p => p.1 == y && (p.2 == .local || p.2 == .cell)) = false) : swapsWith (.DictComp kx vx gs scope pos) (some (.Name y py)) l env = pure true := by
  have kind : env.kindOf y = some .local := hy
  have block : env.blockKind = .function := by
    unfold Env.blockKind
    rw [hk]
    rfl
  have ha' : (scope.names.any fun (n, k) => n == y && (k == .local || k == .cell)) = false := ha
  unfold swapsWith
  simp only [block, kind, ha', Expr.pos, hl]
  rfl
theorem ps_setDc {X : Cx} {i : Nat} {y : Str} {py : Pos} {kx vx tg iter : Expr} {ifs : List Expr} {scope : Scope} {own : List (Str × Nat)} {pos spos : Pos} {wi : TI} {g : TG} {tt : TT} {tk tv : TE} (hc : X.calm = true) (hN : X.N.Nodup) (hy : X.N[i]? = some y) (loc : X.env.scope.names.lookup y = some .local)
    (sw : swapsWith (.DictComp kx vx [⟨tg, iter, ifs, 0⟩] scope pos) (some (.Name y py)) spos.line X.env = pure true) (hi : PI X tg iter wi) (ok : BlkOk X.N X.env.scope scope own)
    (hg : ∀ s H C cl fp, PG (X.blk s H scope (compEnvC scope cl C X.env) fp) tg g) (ht : ∀ s H C cl fp, PTs (X.blk s H scope (compEnvC scope cl C X.env) fp) ifs tt)
    (hk : ∀ s H C cl fp, PE (X.blk s H scope (compEnvC scope cl C X.env) fp) kx tk) (hv : ∀ s H C cl fp, PE (X.blk s H scope (compEnvC scope cl C X.env) fp) vx tv) (hs : ∀ x, foldedSetIterable iter X.env x = pure x := by intro _; rfl) :
    PS X (.Assign [.Name y py] (.DictComp kx vx [⟨tg, iter, ifs, 0⟩] scope pos) spos) (tAsg (tDc wi g tt tk tv (own.map (·.2))) (gName i)) := by
  refine ⟨fun pins s σ H D I h => ?_⟩
  rw [exec_Assign_Name_used _ _ _ _ sw]
  have reading : tDc wi g tt tk tv (own.map (·.2)) σ H (fun x H1 => gName i x σ H1 D.nx) := h
  refine wpAny_bind (wpAny_standAt (wpAny_bind ?_))
  show wpAny _ X.A (comprehension (.DictComp kx vx [⟨tg, iter, ifs, 0⟩] scope pos) scope X.env (firstIterPos [⟨tg, iter, ifs, 0⟩] pos) newDict false (eval iter X.env) (some (assign (.Name y py) X.env)) >>= _) _ _ s
  refine wpAny_bind (thn (dc_core (Qf := fun _ s' => SP X pins D .next s') hc hN I hi ok hg ht hk hv hs reading fun L C s' m H' I' q hn f => ?_) fun _ s' hq => wpAny_pure (wpAny_pure hq))
  show wpAny _ _ (assign (.Name y py) X.env (.ref L)) _ _ _
  obtain ⟨f0, f1, f2, f3, f4, f5⟩ := f
  refine wpAny_assign_Name (store_ok2 (v := V.ref L) I' hN hy (.inl loc) rfl (fun s2 I2 ⟨a, sb, ha⟩ => ?_) (.inr loc))
  have apart : C ≠ a := ha.elim (fun z => z ▸ f1) fun z e => f4 y a z e.symm
  exact ⟨m, hn.sameBut sb apart, fun h3 sb3 => ⟨_, H', I2.turned (t' := s2.toks) (fun b o hb e => (sb3.2 b hb).trans e) f0 f1 f3 f4 f5, q⟩⟩
theorem dcW {J : It} {n : Nat} {G : Hp → Prop} {Y : Nat → Hp → V → Hp → Prop} {g : TG} {tt : TT} {tk tv : TE} {vs : List Nat} {σ : L2.St} {H1 : Hp} {D : Addr} {Qd : Hp → Prop} (w : Walk J n G Y) (Pv : Nat → Hp → Prop) (begin0 : Pv 0 (upd H1 D (.dK []))) (hG : ∀ i H, i ≤ n → Pv i H → G H)
    (turn : ∀ i x H H', i < n → Pv i H → Y i H x H' → g x (wipe σ vs) H' fun σ2 H2 => wipe σ2 vs = wipe σ vs ∧ tt σ2 H2 fun b H3 =>
      if b = true then tk σ2 H3 fun y H4 => tv σ2 H4 fun z H5 => ∃ es ky, y = kV ky ∧ H5 D = some (.dK es) ∧ es.length < sizeLine ∧ Pv (i + 1) (upd H5 D (.dK (putK es ky z))) else Pv (i + 1) H3) (fin : ∀ H, Pv n H → Qd H) :
    ∃ W : Nat → Nat → Hp → Prop, (∃ m, W 0 m (upd H1 D (.dK []))) ∧ ∀ i m H, W i m H →
      (J.stop i H ∧ Qd H) ∨ (J.go i H ∧ ∃ Nx : Hp → Prop, (∀ H', Nx H' → ∃ m', m' < m ∧ W (i + 1) m' H') ∧ ∀ x H', J.yld i H x H' → g x (wipe σ vs) H' fun σ2 H2 => wipe σ2 vs = wipe σ vs ∧ tt σ2 H2 fun b H3 =>
        if b = true then tk σ2 H3 fun y H4 => tv σ2 H4 fun z H5 => ∃ es ky, y = kV ky ∧ H5 D = some (.dK es) ∧ es.length < sizeLine ∧ Nx (upd H5 D (.dK (putK es ky z))) else Nx H3) := by
  refine ⟨fun i m H => m = n - i ∧ i ≤ n ∧ Pv i H, ⟨n, rfl, Nat.zero_le _, begin0⟩, fun i m H ⟨em, hi, p⟩ => ?_⟩
  subst em
  by_cases hlt : i < n
  · exact .inr ⟨w.goes i H hlt (hG i H hi p), Pv (i + 1), fun H' p' => ⟨n - (i + 1), by omega, rfl, hlt, p'⟩, fun x H' y => turn i x H H' hlt p (w.yields i H x H' hlt (hG i H hi p) y)⟩
  · have e : i = n := by omega
    subst e
    exact .inl ⟨w.stops H (hG i H hi p), fin H p⟩
end GX

set_option Elab.async false
set_option linter.all false
set_option maxRecDepth 100000
set_option maxHeartbeats 4000000
/-! zip of a tuple and a list -/
namespace GX
open PySem PySem.Spec PyProof.Rows L2
def ItzM (K : PySem.W.Frag) (a b : Addr) : It where
  go i H := ∃ xs ys x y, SqT K H a xs ∧ SqL K H b ys ∧ xs[i]? = some x ∧ ys[i]? = some y
  yld i H v H' := ∃ T x y, v = .ref T ∧ H T = none ∧ H' = upd H T (.tup [x, y]) ∧ (∀ xs, SqT K H a xs → xs[i]? = some x) ∧ ∀ ys, SqL K H b ys → ys[i]? = some y
  stop i H := ∃ xs ys, SqT K H a xs ∧ SqL K H b ys ∧ min xs.length ys.length = i
theorem walk_zipM {K : PySem.W.Frag} {a b : Addr} {xs ys : List V} {n : Nat} (hn : n = min xs.length ys.length) : Walk (ItzM K a b) n (fun H => SqT K H a xs ∧ SqL K H b ys) (YPair (fun i => xs[i]?) (fun i => ys[i]?)) where
  goes := fun i H hi hq => ⟨xs, ys, xs[i]'(by omega), ys[i]'(by omega), hq.1, hq.2, List.getElem?_eq_getElem _, List.getElem?_eq_getElem _⟩
  stops := fun H hq => ⟨xs, ys, hq.1, hq.2, hn.symm⟩
  yields := fun i H x H' hi hq ⟨T, u, v, e, nn, w, z1, z2⟩ => ⟨T, u, v, e, nn, w, z1 xs hq.1, z2 ys hq.2⟩
theorem turn_zipM {P : Program} {w : World} {K : PySem.W.Frag} {elts : List Expr} {kk : Nat} {tpos : Pos} {a b z TI TO i1 i2 : Addr} (S : ZipSep2 z TI TO i1 i2 [i1, a] [i2, b]) (na : a ≠ i1) (nb : b ≠ i2) :
    Turn P w K (.Tuple elts kk tpos) (ItzM K a b) [z, TI, TO, i1, i2] z (fun i h => IsZip h z TI TO .none ∧ IsTupOf2 h TI (.ref i1) (.ref i2) ∧ (∃ u v, IsTupOf2 h TO u v) ∧ h.IsTupleIter i1 a i ∧ h.IsListIter i2 b i) where
  mem := List.mem_cons_self ..
  obj := fun i h st c hc => by
    obtain ⟨hz, hTI, ⟨x, y, hTO⟩, ⟨o1, e1, _, d1⟩, ⟨o2, e2, _, d2⟩⟩ := st
    simp only [List.mem_cons, List.not_mem_nil, or_false] at hc
    rcases hc with rfl | rfl | rfl | rfl | rfl
    · exact ⟨_, hz, fun v q => nomatch q⟩
    · exact ⟨_, hTI, fun v q => nomatch q⟩
    · exact ⟨_, hTO, fun v q => nomatch q⟩
    · exact ⟨o1, e1, fun v q => by rw [d1] at q; cases q⟩
    · exact ⟨o2, e2, fun v q => by rw [d2] at q; cases q⟩
  keep := fun i h h' st k => by
    obtain ⟨hz, hTI, ⟨x, y, hTO⟩, h1, h2⟩ := st
    exact ⟨k z (by simp) _ hz, k TI (by simp) _ hTI, ⟨x, y, k TO (by simp) _ hTO⟩, h1.at fun o q => k i1 (by simp) o q, h2.at fun o q => k i2 (by simp) o q⟩
  item := by
    intro X hP hw hK hc i pins s σ H E I hf st hg
    subst hP hw hK
    obtain ⟨hz, hTI, hTO, h1, h2⟩ := st
    obtain ⟨xs, ys, x, y, hqx, hqy, hx, hy⟩ := hg
    obtain ⟨its, rv, p, _⟩ := I.tuple hqx
    obtain ⟨its2, rv2, p2, _⟩ := I.list hqy
    have t1 : s.heap.IsTuple a its.toArray := p
    obtain ⟨u, hu, ru⟩ := rv.get hx
    obtain ⟨u2, hu2, ru2⟩ := rv2.get hy
    have hd := I.ok.hd hc
    have W := WalksT.zipD2 (A := X.A) (prog := X.prog) (w := X.w) S (Draws.tuple (A := X.A.in1) hd i1 a na its.toArray) (Draws.list (A := X.A.in1) hd i2 b nb its2.toArray)
    have lt1 : i < its.length := by
      rcases Nat.lt_or_ge i its.length with q | q
      · exact q
      · rw [List.getElem?_eq_none q] at hu
        cases hu
    have lt2 : i < its2.length := by
      rcases Nat.lt_or_ge i its2.length with q | q
      · exact q
      · rw [List.getElem?_eq_none q] at hu2
        cases hu2
    refine W.item i s _ E (by simp; omega) ⟨hz, hTI, hTO, ⟨h1, t1⟩, h2, p2.isList⟩ fun T vals h' tk hv hle hT mid hk => ⟨.ref T, rfl, ?_⟩
    refine W.go elts kk tpos i T { s with heap := h', toks := tk } _ E mid fun h'' st'' hk2 => ?_
    obtain ⟨v1, v2, e1, e2, rfl⟩ := hv
    have q1 : v1 = u := by
      have q : its[i]? = some v1 := by simpa using e1
      rw [hu] at q
      exact (Option.some.inj q).symm
    have q2 : v2 = u2 := by
      have q : its2[i]? = some v2 := by simpa using e2
      rw [hu2] at q
      exact (Option.some.inj q).symm
    subst q1 q2
    obtain ⟨oT, eT, cT, nT, dT⟩ := hT
    have TnW := W.apart i T h' mid
    have eT2 : h''.get? T = some oT := hk2 T oT TnW eT
    have new : ObjOk X.prog X.w (upd H T (.tup [x, y])) h'' T (.tup [x, y]) := ⟨by show 2 ≤ sizeLine; decide, [v1, v2], .cons ru (.cons ru2 .nil), ⟨oT, eT2, cT, nT, dT⟩⟩
    have sub : ∀ c, c ∉ [z, TI, TO, i1, i2] → c ∉ [z, TO, i1, i2] := fun c hn q => hn (by simp at q ⊢; rcases q with q | q | q | q <;> simp [q])
    have I1 : Inv X pins σ (upd H T (.tup [x, y])) { s with heap := h'', toks := tk } :=
      I.turnedNew (t' := tk) (ch := [z, TI, TO, i1, i2]) (fun c o hb q => hk2 c o (sub c hb) (hk c o (sub c hb) q)) hf hle new
    have hTn : H T = none := I.hok.fresh hle
    obtain ⟨z'', TI'', TO'', ⟨i1'', _⟩, i2'', _⟩ := st''
    refine ⟨.ref T, _, I1, rfl, ⟨T, x, y, rfl, hTn, rfl, fun l hl => by rw [I.tuple_inj hl hqx]; exact hx, fun l hl => by rw [I.list_inj hl hqy]; exact hy⟩, ⟨z'', TI'', TO'', i1'', i2''⟩, fun c hcm => ?_⟩
    have hlt : c < s.heap.objs.size := by
      obtain ⟨u0, v0, hTO⟩ := hTO
      simp only [List.mem_cons, List.not_mem_nil, or_false] at hcm
      rcases hcm with rfl | rfl | rfl | rfl | rfl
      · exact Heap.lt_size hz
      · exact Heap.lt_size hTI
      · exact Heap.lt_size hTO
      · obtain ⟨_, e1, _⟩ := h1; exact Heap.lt_size e1
      · obtain ⟨_, e2, _⟩ := h2; exact Heap.lt_size e2
    rw [upd_ne (Nat.ne_of_lt (Nat.lt_of_lt_of_le hlt hle))]
    exact (hf c hcm).1
  done := by
    intro X hP hw hK hc i pins s σ H E I hf st hg
    subst hP hw hK
    obtain ⟨hz, hTI, hTO, h1, h2⟩ := st
    obtain ⟨xs, ys, hqx, hqy, hend⟩ := hg
    obtain ⟨its, rv, p, _⟩ := I.tuple hqx
    obtain ⟨its2, rv2, p2, _⟩ := I.list hqy
    have t1 : s.heap.IsTuple a its.toArray := p
    have hd := I.ok.hd hc
    have l1 := rv.length
    have l2 := rv2.length
    have W := WalksT.zipD2 (A := X.A) (prog := X.prog) (w := X.w) S (Draws.tuple (A := X.A.in1) hd i1 a na its.toArray) (Draws.list (A := X.A.in1) hd i2 b nb its2.toArray)
    have en : min its.toArray.size its2.toArray.size = i := by
      rw [List.size_toArray, List.size_toArray]
      omega
    rw [en] at W
    have sub : ∀ c, c ∉ [z, TI, TO, i1, i2] → c ∉ [z, TO, i1, i2] := fun c hn q => hn (by simp at q ⊢; rcases q with q | q | q | q <;> simp [q])
    exact W.done s _ E ⟨hz, hTI, hTO, ⟨h1, t1⟩, h2, p2.isList⟩ fun h' tk hk => ⟨rfl, I.turnedL (t' := tk) (ch := [z, TI, TO, i1, i2]) (fun c o hb q => hk c o (sub c hb) q) hf⟩
  self := fun A i s Q E st h => wpAny_pyIter_zip st.1 h
theorem notin2 {x u v : Nat} (h1 : x ≠ u) (h2 : x ≠ v) : x ∉ [u, v] := fun h => (List.mem_cons.mp h).elim h1 fun q => h2 (List.mem_singleton.mp q)
theorem zsep (n a b : Nat) (la : a < n) (lb : b < n) : ZipSep2 (n + 4) (n + 2) (n + 3) n (n + 1) [n, a] [n + 1, b] where
  TIz := Nat.ne_of_lt (by omega : n + 2 < n + 4)
  TOz := Nat.ne_of_lt (by omega : n + 3 < n + 4)
  TITO := Nat.ne_of_lt (by omega : n + 2 < n + 3)
  TIi1 := Nat.ne_of_gt (by omega : n < n + 2)
  mem1 := List.mem_cons_self ..
  zf1 := notin2 (by omega) (by omega)
  Tf1 := notin2 (by omega) (by omega)
  TIi2 := Nat.ne_of_gt (by omega : n + 1 < n + 2)
  mem2 := List.mem_cons_self ..
  zf2 := notin2 (by omega) (by omega)
  Tf2 := notin2 (by omega) (by omega)
  sep1_2 := notin2 (by omega) (by omega)
  sep2_1 := notin2 (by omega) (by omega)
def iZipM (K : PySem.W.Frag) (ta : TA) : TI := fun σ H R => ta σ H fun vs H1 => ∃ a b xs ys, vs = [.ref a, .ref b] ∧ SqT K H1 a xs ∧ SqL K H1 b ys ∧ R (ItzM K a b) H1
theorem pi_zipM {X : Cx} {e e2 : Expr} {ta : TA} {p pos tpos : Pos} {elts : List Expr} {kk : Nat} (hg : Gl X "zip") (hm : X.mg "zip" = none) (ha : PA X [e, e2] ta)
    (hs : starEach [e, e2] X.env = (false, eval e X.env) :: starEach [e2] X.env := by rfl) (hpl : (backTo pos (starEach [e2] X.env)).any (·.1) = false := by rfl) :
    PI X (.Tuple elts kk tpos) (.Call (.Name "zip" p) [e, e2] [] pos) (iZipM X.K ta) := by
  refine ⟨fun pins s σ H R I h => Call_ (ld_blt I hg hm PyProof.Rows.boot_zip (PyProof.Rows.callWith_type1 (thn (ha.run pos pins s σ H _ I h) fun us s1 hx => ?_) hs hpl))⟩
  obtain ⟨vs, H1, I1, r1, a, b, xs, ys, rfl, hqx, hqy, q⟩ := hx
  cases r1 with
  | cons r rr =>
    cases rr with
    | cons r' rr =>
      cases rr
      cases r
      cases r'
      obtain ⟨its, rv, p1, _⟩ := I1.tuple hqx
      obtain ⟨its2, rv2, p2, _⟩ := I1.list hqy
      have t1 : s1.heap.IsTuple a its.toArray := p1
      have la : a < s1.heap.objs.size := by obtain ⟨_, e, _⟩ := id t1; exact Heap.lt_size e
      have lb : b < s1.heap.objs.size := by obtain ⟨_, e, _⟩ := id p2.isList; exact Heap.lt_size e
      refine zip_begins2 (begins_tuple a its.toArray) (begins_list b its2.toArray) t1 p2.isList fun h' hz hTI hTO h1 h2 hsz hk => wpAny_pyIter_zip hz ?_
      have I2 : Inv X pins σ H1 { s1 with heap := h' } := I1.kept (t' := s1.toks) hk
      refine ⟨s1.heap.objs.size + 4, [s1.heap.objs.size + 4, s1.heap.objs.size + 2, s1.heap.objs.size + 3, s1.heap.objs.size, s1.heap.objs.size + 1], _, _, H1, rfl, I2, turn_zipM (zsep _ a b la lb) (Nat.ne_of_lt la) (Nat.ne_of_lt (Nat.lt_succ_of_lt lb)), ⟨hz, hTI, ⟨_, _, hTO⟩, ⟨_, h1, rfl, rfl⟩, ⟨_, h2, rfl, rfl⟩⟩, fun c hcm => ?_, q⟩
      have hle : s1.heap.objs.size ≤ c := by
        simp only [List.mem_cons, List.not_mem_nil, or_false] at hcm
        rcases hcm with rfl | rfl | rfl | rfl | rfl
        · exact Nat.le_add_right _ _
        · exact Nat.le_add_right _ _
        · exact Nat.le_add_right _ _
        · exact Nat.le_refl _
        · exact Nat.le_add_right _ _
      exact I1.fpOk hle (I1.hok.fresh hle)
end GX
namespace GX
open PySem PySem.Spec PyProof.Rows L2
section
variable {X : Cx}
theorem listK (K : PySem.W.Frag) (h : X.K = K := by rfl) : CallR X (.type "list") (fun xs H Q => ∃ p ys, xs = [.ref p] ∧ (SqL K H p ys ∨ SqT K H p ys) ∧ ∀ l, H l = none → Q (.ref l) (upd H l (.lst ys))) := h ▸ call_list_of
theorem lcountK (K : PySem.W.Frag) (h : X.K = K := by rfl) : MtR X "list.count" (rCntI K) := h ▸ mt_lcount
end
end GX
namespace GX
open PySem PySem.Spec PyProof.Rows L2
/-- over a tuple or a list -/
def iBoth (K : PySem.W.Frag) (tl : TE) : TI := fun σ H R => iTup K tl σ H R ∨ iList K tl σ H R
theorem pi_both {X : Cx} {tg l : Expr} {tl : TE} (he : PE X l tl) : PI X tg l (iBoth X.K tl) := ⟨fun pins s σ H R I h => h.elim ((pi_tup he).run pins s σ H R I) ((pi_list he).run pins s σ H R I)⟩
theorem piB (K : PySem.W.Frag) {X : Cx} {tg l : Expr} {tl : TE} (he : PE X l tl) (h : X.K = K := by rfl) : PI X tg l (iBoth K tl) := h ▸ pi_both he
theorem slA (K : PySem.W.Frag) {X : Cx} (h : X.K = K := by rfl) : SlR X (rSlA K) := h ▸ sl_tupA
/-- a list of rows -/
def LRows (H : Hp) (v : V) (rows : List (List Int)) : Prop := ∃ a vs, v = .ref a ∧ H a = some (.lst vs) ∧ Paired (IH H) vs rows
theorem LRows.dp {K : PySem.W.Frag} {H : Hp} {v : V} {rows : List (List Int)} (h : LRows H v rows) : Dp K H v (.list (rows.map dI)) := by
  obtain ⟨a, vs, rfl, q, p⟩ := h
  exact .lst (sql q) (dpAll_rows p)
theorem LRows.same {H H' : Hp} (k : Same H H') {v : V} {rows : List (List Int)} (h : LRows H v rows) : LRows H' v rows := let ⟨a, vs, e, q, p⟩ := h; ⟨a, vs, e, k _ _ q, paired_mono (fun _ _ => IH.kt (kt_same k)) p⟩
theorem LRows.kb {H H' : Hp} (k : Kb H H') {v : V} {rows : List (List Int)} (h : LRows H v rows) : LRows H' v rows := let ⟨a, vs, e, q, p⟩ := h; ⟨a, vs, e, k.1 _ _ (fun ps z => by cases z) q, paired_mono (fun _ _ => IH.kt (kt_kb k)) p⟩
end GX

set_option Elab.async false
set_option linter.all false
set_option maxRecDepth 100000
set_option maxHeartbeats 2000000
/-! the defs, their scopes -/
namespace G9
open PySem PySem.Spec PyProof.Rows L2
def top (i : Nat) : Stmt := PySem.Challenge.pw_toldreasons_k25_boards_and_deeds.main.body.getD i (.Pass ⟨0, 0, 0, 0⟩)
abbrev sIsWhole : Stmt := top 1
abbrev sIsCell : Stmt := top 2
abbrev sBoard : Stmt := top 8
abbrev sNewBoard : Stmt := top 9
abbrev sCutPuzzle : Stmt := top 10
abbrev sCanDone : Stmt := top 11
abbrev sIsDeed : Stmt := top 12
abbrev sMarked : Stmt := top 13
abbrev sDone : Stmt := top 14
abbrev sUndone : Stmt := top 15
abbrev sRedone : Stmt := top 16
abbrev sOpen : Stmt := top 18
abbrev sPick : Stmt := top 19
abbrev sOrder : Stmt := top 20
abbrev sRows : Stmt := top 21
abbrev sDrawRule : Stmt := top 22
abbrev sDrawPuzzle : Stmt := top 23
abbrev sLDrawDeed : Stmt := top 24
abbrev sLMarked : Stmt := top 25
abbrev sLIsRefused : Stmt := top 26
abbrev sLIsOver : Stmt := top 27
abbrev sLNoDeeds : Stmt := top 28
abbrev sLaw : Stmt := top 29
theorem scIsWhole : FnScope ["value"] ["value"] (defScope sIsWhole) := ⟨rfl, rfl, rfl, by decide +kernel, rfl, by decide +kernel, by decide +kernel⟩
theorem scIsCell : FnScope ["value", "n"] ["value", "n"] (defScope sIsCell) := ⟨rfl, rfl, rfl, by decide +kernel, rfl, by decide +kernel, by decide +kernel⟩
theorem scBoard : FnScope ["puzzle", "marks", "log", "back"] ["puzzle", "marks", "log", "back"] (defScope sBoard) := ⟨rfl, rfl, rfl, by decide +kernel, rfl, by decide +kernel, by decide +kernel⟩
theorem scNewBoard : FnScope ["puzzle"] ["puzzle"] (defScope sNewBoard) := ⟨rfl, rfl, rfl, by decide +kernel, rfl, by decide +kernel, by decide +kernel⟩
theorem scCutPuzzle : FnScope ["board"] ["board"] (defScope sCutPuzzle) := ⟨rfl, rfl, rfl, by decide +kernel, rfl, by decide +kernel, by decide +kernel⟩
theorem scCanDone : FnScope ["word", "cell", "value", "marks", "stands"] ["word", "cell", "value", "marks"] (defScope sCanDone) := ⟨rfl, rfl, rfl, by decide +kernel, rfl, by decide +kernel, by decide +kernel⟩
theorem scIsDeed : FnScope ["board", "value", "word", "cell", "told", "domains"] ["board", "value"] (defScope sIsDeed) := ⟨rfl, rfl, rfl, by decide +kernel, rfl, by decide +kernel, by decide +kernel⟩
theorem scMarked : FnScope ["marks", "deed", "word", "cell", "value", "others", "v", "kept"] ["marks", "deed"] (defScope sMarked) := ⟨rfl, rfl, rfl, by decide +kernel, rfl, by decide +kernel, by decide +kernel⟩
theorem scDone : FnScope ["board", "deed"] ["board", "deed"] (defScope sDone) := ⟨rfl, rfl, rfl, by decide +kernel, rfl, by decide +kernel, by decide +kernel⟩
theorem scUndone : FnScope ["board", "log", "marks", "deed"] ["board"] (defScope sUndone) := ⟨rfl, rfl, rfl, by decide +kernel, rfl, by decide +kernel, by decide +kernel⟩
theorem scRedone : FnScope ["board", "deed"] ["board"] (defScope sRedone) := ⟨rfl, rfl, rfl, by decide +kernel, rfl, by decide +kernel, by decide +kernel⟩
theorem scOpen : FnScope ["_law_script", "_law_stirred", "_law_cell", "_law_cells"] ["_law_script"] (defScope sOpen) := ⟨rfl, rfl, rfl, by decide +kernel, rfl, by decide +kernel, by decide +kernel⟩
theorem scPick : FnScope ["_law_source", "_law_most", "_law_cells", "_law_others", "_law_lap", "_law_stirred"] ["_law_source", "_law_most"] (defScope sPick) := ⟨rfl, rfl, rfl, by decide +kernel, rfl, by decide +kernel, by decide +kernel⟩
theorem scOrder : FnScope ["_law_source", "_law_things", "_law_others", "_law_lap"] ["_law_source", "_law_things"] (defScope sOrder) := ⟨rfl, rfl, rfl, by decide +kernel, rfl, by decide +kernel, by decide +kernel⟩
theorem scRows : FnScope ["_law_lots", "_law_found", "_law_lot", "_law_further", "_law_row", "_law_value"] ["_law_lots"] (defScope sRows) := ⟨rfl, rfl, rfl, by decide +kernel, rfl, by decide +kernel, by decide +kernel⟩
theorem scDrawRule : FnScope ["_law_source", "_law_domains", "_law_cells", "_law_some", "_law_road", "_law_rows_here", "_law_low", "_law_values", "_law_ties", "_law_row", "_law_cell", "_law_pair"] ["_law_source", "_law_domains"] (defScope sDrawRule) := ⟨rfl, rfl, rfl, by decide +kernel, rfl, by decide +kernel, by decide +kernel⟩
theorem scDrawPuzzle : FnScope ["_law_source", "_law_most", "_law_domains", "_law_rules", "_law_cell", "_law_lot", "_law_lap", "_law_value"] ["_law_source", "_law_most"] (defScope sDrawPuzzle) := ⟨rfl, rfl, rfl, by decide +kernel, rfl, by decide +kernel, by decide +kernel⟩
theorem scLDrawDeed : FnScope ["_law_source", "_law_puzzle", "_law_marks", "_law_lap", "_law_cell", "_law_value", "_law_word"] ["_law_source", "_law_puzzle", "_law_marks"] (defScope sLDrawDeed) := ⟨rfl, rfl, rfl, by decide +kernel, rfl, by decide +kernel, by decide +kernel⟩
theorem scLMarked : FnScope ["_law_marks", "_law_deed", "_law_found", "_law_lot"] ["_law_marks", "_law_deed"] (defScope sLMarked) := ⟨rfl, rfl, rfl, by decide +kernel, rfl, by decide +kernel, by decide +kernel⟩
theorem scLIsRefused : FnScope ["_law_call"] ["_law_call"] (defScope sLIsRefused) := ⟨rfl, rfl, rfl, by decide +kernel, rfl, by decide +kernel, by decide +kernel⟩
theorem scLIsOver : FnScope ["_law_call"] ["_law_call"] (defScope sLIsOver) := ⟨rfl, rfl, rfl, by decide +kernel, rfl, by decide +kernel, by decide +kernel⟩
theorem scLNoDeeds : FnScope ["_law_puzzle", "_law_marks", "_law_found", "_law_cell", "_law_lot", "_law_value"] ["_law_puzzle", "_law_marks"] (defScope sLNoDeeds) := ⟨rfl, rfl, rfl, by decide +kernel, rfl, by decide +kernel, by decide +kernel⟩
theorem scLaw : FnScope ["_law_script", "_law_source", "_law_puzzle", "_law_board", "_law_history", "_law_later", "_law_deeds", "_law_lap", "_law_held", "_law_road", "_law_late", "_law_deed", "_law_odd", "_law_value"] ["_law_script"] (defScope sLaw) := ⟨rfl, rfl, rfl, by decide +kernel, rfl, by decide +kernel, by decide +kernel⟩
/-- a def as it stands around -/
structure Df (K : PySem.W.Frag) (mg : Str → Option Value) (x : Str) (st : Stmt) (ps : List Str) (f : Addr) (fd : FuncData) : Prop where
  F : Fun K x x st f fd
  b : Binds K fd ps []
  g : mg x = some (.ref f)
/-- the builtins' names are free -/
structure Bl (mg : Str → Option Value) : Prop where
  len : mg "len" = none
  all : mg "all" = none
  any : mg "any" = none
  enumerate : mg "enumerate" = none
  tuple : mg "tuple" = none
  list : mg "list" = none
  sset : mg "set" = none
  sum : mg "sum" = none
  max : mg "max" = none
  min : mg "min" = none
  sorted : mg "sorted" = none
  range : mg "range" = none
  zip : mg "zip" = none
  int : mg "int" = none
  abs : mg "abs" = none
  repr : mg "repr" = none
  isi : mg "isinstance" = none
  dict : mg "dict" = none
  bool : mg "bool" = none
end G9

set_option Elab.async false
set_option linter.all false
set_option maxRecDepth 100000
set_option maxHeartbeats 4000000
/-! cells_of, values_under, _stretches, _partners -/
namespace G9
open PySem PySem.Spec PyProof.Rows L2 GX
def Rul.cells : Rul → List Int
  | .table cs _ | .unlike cs | .sum cs _ _ | .count cs _ _ _ | .runs cs _ | .joined cs _ _ => cs
  | .below a b => [a, b]
theorem ifT {c : Bool} {A B : Prop} (hc : c = true) (h : A) : if c = true then A else B := by
  rw [if_pos hc]
  exact h
theorem ifF {c : Bool} {A B : Prop} (hc : c = false) (h : B) : if c = true then A else B := by
  rw [hc, if_neg Bool.false_ne_true]
  exact h
theorem none_under {H : Hp} {p b : Addr} {o : HO} (h : upd H p o b = none) : H b = none := by
  rw [upd_ne (ne_of_none upd_same h).symm] at h
  exact h
theorem same_refl (H : Hp) : Same H H := fun _ _ e => e
def spCellsOf : Sp := fun vs H Q _ => ∃ v r, vs = [v] ∧ RuH H v r ∧ ∀ w H', Same H H' → IH H' w (Rul.cells r) → Q w H'
section
variable {P : Program} {w : World} {K : PySem.W.Frag} {mg : Str → Option Value} {base : Heap} {f : Addr} {fd : FuncData}
/-- of a row the values at some cells -/
def pick (vals cs : List Int) : List Int := cs.map fun c => vals.getD c.toNat 0
theorem pick_at {vals cs : List Int} (hc : ∀ c ∈ cs, 0 ≤ c ∧ c < vals.length) {c : Int} (h : c ∈ cs) : atI (vals.map V.int) c = some (V.int (vals.getD c.toNat 0)) := by
  obtain ⟨h0, h1⟩ := hc c h
  have e : ((c.toNat : Nat) : Int) = c := Int.toNat_of_nonneg h0
  have hlt : c.toNat < vals.length := by omega
  rw [← e]
  refine L2.atI_nat ?_
  rw [List.getElem?_map, List.getD_eq_getElem?_getD, Int.toNat_natCast, List.getElem?_eq_getElem hlt]
  rfl
def spUnder : Sp := fun vs H Q _ => ∃ v r u vals, vs = [v, u] ∧ RuH H v r ∧ IH H u vals ∧ (∀ c ∈ Rul.cells r, 0 ≤ c ∧ c < vals.length) ∧ (Rul.cells r).length ≤ 1000 ∧ ∀ w H', Same H H' → IH H' w (pick vals (Rul.cells r)) → Q w H'
end
end G9

set_option Elab.async false
set_option linter.all false
set_option maxRecDepth 100000
set_option maxHeartbeats 4000000
/-! _stretches and the law's own -/
namespace G9
open PySem PySem.Spec PyProof.Rows L2 GX
def stepR (p : List Int × Int) (v : Int) : List Int × Int := if v ≠ 0 then (p.1, p.2 + 1) else if 0 < p.2 then (p.1 ++ [p.2], 0) else p
def endR (p : List Int × Int) : List Int := p.1 ++ if 0 < p.2 then [p.2] else []
def foldR (vs : List Int) : List Int × Int := vs.foldl stepR ([], 0)
def runsOf (vs : List Int) : List Int := endR (foldR vs)
theorem foldR_snoc (vs : List Int) (v : Int) : foldR (vs ++ [v]) = stepR (foldR vs) v := by
  unfold foldR
  rw [List.foldl_append]
  rfl
theorem step_len (p : List Int × Int) (v : Int) : (stepR p v).1.length ≤ p.1.length + 1 ∧ (0 ≤ p.2 → 0 ≤ (stepR p v).2) := by
  unfold stepR
  split
  · exact ⟨by show p.1.length ≤ _; omega, fun h => by show 0 ≤ p.2 + 1; omega⟩
  · split
    · exact ⟨by simp, fun h => Int.le_refl _⟩
    · exact ⟨by omega, fun h => h⟩
theorem foldR_len (vs : List Int) : (foldR vs).1.length ≤ vs.length ∧ 0 ≤ (foldR vs).2 := by
  suffices h : ∀ (l : List Int) (p : List Int × Int), 0 ≤ p.2 → (l.foldl stepR p).1.length ≤ p.1.length + l.length ∧ 0 ≤ (l.foldl stepR p).2 by
    have := h vs ([], 0) (Int.le_refl _)
    exact ⟨by have := this.1; rw [List.length_nil, Nat.zero_add] at this; exact this, this.2⟩
  intro l
  induction l with
  | nil => exact fun p h => ⟨Nat.le_refl _, h⟩
  | cons a l ih =>
    intro p h
    have := step_len p a
    have z := ih (stepR p a) (this.2 h)
    exact ⟨by rw [List.length_cons]; have := z.1; show (l.foldl stepR (stepR p a)).1.length ≤ _; omega, z.2⟩
def spStretch : Sp := fun vs H Q _ => ∃ v vals, vs = [v] ∧ IH H v vals ∧ vals.length ≤ 1000 ∧ ∀ w H', Same H H' → IH H' w (runsOf vals) → Q w H'
section
variable {P : Program} {w : World} {K : PySem.W.Frag} {mg : Str → Option Value} {base : Heap} {f : Addr} {fd : FuncData}
end
end G9

set_option Elab.async false
set_option linter.all false
set_option maxRecDepth 100000
set_option maxHeartbeats 4000000
/-! the law's own lengths of stretches; _partners -/
namespace G9
open PySem PySem.Spec PyProof.Rows L2 GX
/-- a list of ints -/
def IL (H : Hp) (v : V) (ns : List Int) : Prop := ∃ a, v = .ref a ∧ H a = some (.lst (ns.map V.int))
def spRuns : Sp := fun vs H Q _ => ∃ v vals, vs = [v] ∧ IL H v vals ∧ vals.length ≤ 1000 ∧ ∀ w H', Same H H' → IH H' w (runsOf vals) → Q w H'
section
variable {P : Program} {w : World} {K : PySem.W.Frag} {mg : Str → Option Value} {base : Heap} {f : Addr} {fd : FuncData}
/-- the cells that ties join to a cell -/
def partnersOf (ties : List (Int × Int)) (c : Int) : List Int := (ties.filter fun p => decide (p.1 = c)).map (·.2) ++ (ties.filter fun p => decide (p.2 = c)).map (·.1)
def spPartners : Sp := fun vs H Q _ => ∃ t ties c, vs = [t, .int c] ∧ RowsH H t (ties.map tie2) ∧ ties.length ≤ 1000 ∧ ∀ l H', Same H H' → H l = none → H' l = some (.lst ((partnersOf ties c).map V.int)) → Q (.ref l) H'
end
end G9

set_option Elab.async false
set_option linter.all false
set_option maxRecDepth 100000
set_option maxHeartbeats 4000000
/-! joined cells: what a search finds -/
namespace G9
open PySem PySem.Spec PyProof.Rows L2 GX
def Adj (T : List (Int × Int)) (x y : Int) : Prop := (x, y) ∈ T ∨ (y, x) ∈ T
inductive Conn (M : List Int) (T : List (Int × Int)) (s : Int) : Int → Prop
  | start : s ∈ M → Conn M T s s
  | step {x y : Int} : Conn M T s x → y ∈ M → Adj T x y → Conn M T s y
/-- marked cells are joined -/
def Joined (M : List Int) (T : List (Int × Int)) : Prop := ∀ s r, M = s :: r → ∀ m ∈ M, Conn M T s m
noncomputable def joinedB (M : List Int) (T : List (Int × Int)) : Bool := @decide (Joined M T) (Classical.propDecidable _)
theorem joinedB_yes {M : List Int} {T : List (Int × Int)} (h : Joined M T) : joinedB M T = true := @decide_eq_true _ (Classical.propDecidable _) h
theorem joinedB_no {M : List Int} {T : List (Int × Int)} (h : ¬ Joined M T) : joinedB M T = false := @decide_eq_false _ (Classical.propDecidable _) h
theorem nodup_le : ∀ {l m : List Int}, l.Nodup → (∀ x ∈ l, x ∈ m) → l.length ≤ m.length
  | [], _, _, _ => Nat.zero_le _
  | a :: l, m, nd, sub => by
    obtain ⟨h1, h2⟩ := List.nodup_cons.mp nd
    have ha : a ∈ m := sub a (List.mem_cons_self ..)
    have := nodup_le (m := m.erase a) h2 fun x hx => (List.mem_erase_of_ne fun z : x = a => h1 (z ▸ hx)).mpr (sub x (List.mem_cons_of_mem _ hx))
    have hp : 0 < m.length := List.length_pos_of_mem ha
    rw [List.length_erase_of_mem ha] at this
    rw [List.length_cons]
    omega
theorem nodup_all {l m : List Int} (nd : l.Nodup) (sub : ∀ x ∈ l, x ∈ m) (hl : m.length ≤ l.length) : ∀ x ∈ m, x ∈ l := fun x hx => by
  by_cases e : x ∈ l
  · exact e
  · have := nodup_le (l := x :: l) (m := m) (List.nodup_cons.mpr ⟨e, nd⟩) fun y hy => (List.mem_cons.mp hy).elim (fun z => z ▸ hx) (sub y)
    rw [List.length_cons] at this
    omega
/-- a search under way: R found, W waiting; the cells of ex are not gone through to the end -/
structure Sr (M : List Int) (T : List (Int × Int)) (s : Int) (R W : List Int) (ex : Int → Prop) : Prop where
  nd : R.Nodup
  sub : ∀ x ∈ R, x ∈ M
  con : ∀ x ∈ R, Conn M T s x
  wr : ∀ x ∈ W, x ∈ R
  cl : ∀ x ∈ R, x ∉ W → ¬ ex x → ∀ y ∈ M, Adj T x y → y ∈ R
  st : s ∈ R
  wl : W.length ≤ R.length
theorem Sr.begin {M : List Int} {T : List (Int × Int)} {s : Int} (h : s ∈ M) : Sr M T s [s] [s] fun _ => False where
  nd := List.nodup_cons.mpr ⟨by simp, List.nodup_nil⟩
  sub := fun x hx => by rw [List.mem_singleton.mp hx]; exact h
  con := fun x hx => by rw [List.mem_singleton.mp hx]; exact .start h
  wr := fun x hx => hx
  cl := fun x hx hn => absurd hx hn
  st := List.mem_singleton.mpr rfl
  wl := Nat.le_refl _
theorem Sr.len {M : List Int} {T : List (Int × Int)} {s : Int} {R W : List Int} {ex : Int → Prop} (h : Sr M T s R W ex) : R.length ≤ M.length :=
  nodup_le h.nd h.sub
/-- one is taken -/
theorem Sr.take {M : List Int} {T : List (Int × Int)} {s c : Int} {R W : List Int} (h : Sr M T s R (W ++ [c]) fun _ => False) : Sr M T s R W (fun x => x = c) where
  nd := h.nd
  sub := h.sub
  con := h.con
  wr := fun x hx => h.wr x (List.mem_append_left _ hx)
  cl := fun x hx hn he => h.cl x hx (fun z => (List.mem_append.mp z).elim hn fun q => he (List.mem_singleton.mp q)) id
  st := h.st
  wl := by have := h.wl; rw [List.length_append] at this; omega
/-- a new one is found -/
theorem Sr.find {M : List Int} {T : List (Int × Int)} {s c y : Int} {R W : List Int} (h : Sr M T s R W (fun x => x = c)) (hc : c ∈ R) (hy : y ∈ M) (hn : y ∉ R) (ha : Adj T c y) : Sr M T s (R ++ [y]) (W ++ [y]) (fun x => x = c) where
  nd := by
    rw [List.nodup_append]
    refine ⟨h.nd, List.nodup_cons.mpr ⟨by simp, List.nodup_nil⟩, fun a ha b hb => ?_⟩
    rw [List.mem_singleton.mp hb]
    exact fun z => hn (z ▸ ha)
  sub := fun x hx => (List.mem_append.mp hx).elim (h.sub x) fun q => by rw [List.mem_singleton.mp q]; exact hy
  con := fun x hx => (List.mem_append.mp hx).elim (h.con x) fun q => by rw [List.mem_singleton.mp q]; exact .step (h.con c hc) hy ha
  wr := fun x hx => (List.mem_append.mp hx).elim (fun q => List.mem_append_left _ (h.wr x q)) fun q => List.mem_append_right _ q
  cl := fun x hx hnw he z hz az => by
    rcases List.mem_append.mp hx with q | q
    · exact List.mem_append_left _ (h.cl x q (fun w => hnw (List.mem_append_left _ w)) he z hz az)
    · exact absurd (List.mem_append_right _ q) hnw
  st := List.mem_append_left _ h.st
  wl := by have := h.wl; rw [List.length_append, List.length_append]; show W.length + 1 ≤ R.length + 1; omega
/-- all beside it have been looked at -/
theorem Sr.done {M : List Int} {T : List (Int × Int)} {s c : Int} {R W : List Int} (h : Sr M T s R W (fun x => x = c)) (all : ∀ y ∈ M, Adj T c y → y ∈ R) : Sr M T s R W fun _ => False where
  nd := h.nd
  sub := h.sub
  con := h.con
  wr := h.wr
  cl := fun x hx hn _ y hy ha => by
    by_cases e : x = c
    · subst e
      exact all y hy ha
    · exact h.cl x hx hn e y hy ha
  st := h.st
  wl := h.wl
theorem Sr.all {M : List Int} {T : List (Int × Int)} {s : Int} {R : List Int} (h : Sr M T s R [] fun _ => False) {y : Int} (c : Conn M T s y) : y ∈ R := by
  induction c with
  | start => exact h.st
  | step _ hy ha ih => exact h.cl _ ih (by simp) id _ hy ha
theorem Sr.count {M : List Int} {T : List (Int × Int)} {s : Int} {R r : List Int} (hM : M = s :: r) (nd : M.Nodup) (h : Sr M T s R [] fun _ => False) : decide ((R.length : Int) = (M.length : Int)) = joinedB M T := by
  by_cases j : Joined M T
  · have e1 : M.length ≤ R.length := nodup_le nd fun m hm => h.all (j s r hM m hm)
    have e2 := h.len
    rw [joinedB_yes j, decide_eq_true (by omega)]
  · rw [joinedB_no j]
    refine decide_eq_false fun e => j fun s' r' e' m hm => ?_
    have e2 : s' = s := by rw [hM] at e'; exact (List.cons.inj e').1.symm
    subst e2
    exact h.con m (nodup_all h.nd h.sub (by omega) m hm)
theorem joinedB_nil (T : List (Int × Int)) : joinedB [] T = true := joinedB_yes fun s r e => by cases e
theorem joinedB_one (s : Int) (T : List (Int × Int)) : joinedB [s] T = true := joinedB_yes fun s' r e m hm => by
  cases e
  rw [List.mem_singleton.mp hm]
  exact .start (List.mem_singleton.mpr rfl)
theorem adj_partners {T : List (Int × Int)} {c y : Int} : y ∈ partnersOf T c ↔ Adj T c y := by
  unfold partnersOf Adj
  simp only [List.mem_append, List.mem_map, List.mem_filter, decide_eq_true_eq]
  constructor
  · rintro (⟨p, ⟨hp, rfl⟩, rfl⟩ | ⟨p, ⟨hp, rfl⟩, rfl⟩)
    · exact .inl hp
    · exact .inr hp
  · rintro (h | h)
    · exact .inl ⟨_, ⟨h, rfl⟩, rfl⟩
    · exact .inr ⟨_, ⟨h, rfl⟩, rfl⟩
end G9

set_option Elab.async false
set_option linter.all false
set_option maxRecDepth 100000
set_option maxHeartbeats 4000000
/-! joined_to_first -/
namespace G9
open PySem PySem.Spec PyProof.Rows L2 GX
theorem cut1 (xs : List V) : cutV xs none (some 1) = xs.take 1 := by
  unfold cutV
  cases xs with
  | nil => rfl
  | cons x r =>
    have e : HT.sIx (x :: r).length (x :: r).length (some 1) - HT.sIx (x :: r).length 0 none = 1 := by simp [HT.sIx]
    rw [e]
    rfl
def dR (R : List Int) : List (Key × V) := R.map fun x => ((Sum.inl x : Key), V.bl true)
theorem valV_dR : ∀ (R : List Int) (x : Int), valV (dR R) (.inl x) = if x ∈ R then some (.bl true) else none
  | [], x => rfl
  | a :: R, x => by
    by_cases e : a = x
    · subst e
      rw [if_pos (List.mem_cons_self ..)]
      exact valV_pos rfl
    · have := valV_dR R x
      show valV (((Sum.inl a : Key), V.bl true) :: dR R) _ = _
      rw [valV_neg (fun z => e (Sum.inl.inj z)), this]
      by_cases h : x ∈ R
      · rw [if_pos h, if_pos (List.mem_cons_of_mem _ h)]
      · rw [if_neg h, if_neg fun z => (List.mem_cons.mp z).elim (fun q => e q.symm) h]
theorem putK_dR {R : List Int} {x : Int} (h : x ∉ R) : putK (dR R) (.inl x) (.bl true) = dR (R ++ [x]) := by
  rw [putK_new _ (by rw [valV_dR, if_neg h])]
  unfold dR
  rw [List.map_append]
  rfl
theorem dR_len (R : List Int) : (dR R).length = R.length := List.length_map ..
theorem IL.dp {K : PySem.W.Frag} {H : Hp} {v : V} {ns : List Int} (h : IL H v ns) : Dp K H v (.list (ns.map .int)) := by
  obtain ⟨a, rfl, q⟩ := h
  exact .lst (sql q) (dpAll_ints ns)
def spJoined : Sp := fun vs H Q _ => ∃ m M t ties, vs = [m, t] ∧ IL H m M ∧ RowsH H t (ties.map tie2) ∧ M.Nodup ∧ M.length ≤ 1000 ∧ ties.length ≤ 1000 ∧ ∀ (l : Addr) (R : List Int) (H' : Hp), Same H H' → decide (R.length = M.length) = joinedB M ties → H' l = some (.lst (R.map V.int)) → Q (.ref l) H'
section
variable {P : Program} {w : World} {K : PySem.W.Frag} {mg : Str → Option Value} {base : Heap} {f f2 : Addr} {fd fd2 : FuncData}
end
end G9

set_option Elab.async false
set_option linter.all false
set_option maxRecDepth 100000
set_option maxHeartbeats 4000000
/-! the law's own is_joined -/
namespace G9
open PySem PySem.Spec PyProof.Rows L2 GX
/-- what a tie joins to a cell -/
def nears (p : Int × Int) (c : Int) : List Int := (if p.1 = c then [p.2] else []) ++ (if p.2 = c then [p.1] else [])
theorem mem_nears {p : Int × Int} {c y : Int} : y ∈ nears p c ↔ (p = (c, y) ∨ p = (y, c)) := by
  obtain ⟨a, b⟩ := p
  unfold nears
  by_cases h1 : a = c <;> by_cases h2 : b = c <;> simp [h1, h2, Prod.ext_iff, eq_comm] <;> omega
theorem rep_bool (k : Bool) (x : V) : (List.replicate (if k = true then (1 : Int) else 0).toNat [x]).flatten = if k = true then [x] else [] := by
  cases k <;> rfl
theorem near_bool (p : Int × Int) (c : Int) : (if decide (V.int p.1 = V.int c) = true then [V.int p.2] else []) ++ (if decide (V.int p.2 = V.int c) = true then [V.int p.1] else []) = (nears p c).map V.int := by
  unfold nears
  by_cases h1 : p.1 = c <;> by_cases h2 : p.2 = c <;> simp [h1, h2]
def spLJoined : Sp := fun vs H Q _ => ∃ cs m M t ties, vs = [cs, t, m] ∧ IL H m M ∧ RowsH H t (ties.map tie2) ∧ M.Nodup ∧ M.length ≤ 1000 ∧ ties.length ≤ 1000 ∧ ∀ H', Same H H' → Q (.bl (joinedB M ties)) H'
section
variable {P : Program} {w : World} {K : PySem.W.Frag} {mg : Str → Option Value} {base : Heap} {f f2 : Addr} {fd fd2 : FuncData}
end
end G9

set_option Elab.async false
set_option linter.all false
set_option maxRecDepth 100000
set_option maxHeartbeats 4000000
/-! fits -/
namespace G9
open PySem PySem.Spec PyProof.Rows L2 GX
def markedOf (cs vals vs : List Int) : List Int := ((cs.zip vals).filter fun p => decide (p.2 ∈ vs)).map (·.1)
noncomputable def fitsB : Rul → List Int → Bool
  | .table _ rows, vals => decide (vals ∈ rows)
  | .unlike _, vals => decide vals.Nodup
  | .sum _ lo hi, vals => decide (lo ≤ vals.sum) && decide (vals.sum ≤ hi)
  | .count _ vs lo hi, vals => decide (lo ≤ ((vals.filter fun v => decide (v ∈ vs)).length : Int)) && decide (((vals.filter fun v => decide (v ∈ vs)).length : Int) ≤ hi)
  | .below _ _, vals => decide (vals.getD 0 0 < vals.getD 1 0)
  | .runs _ ls, vals => decide (runsOf vals = ls)
  | .joined cs ties vs, vals => joinedB (markedOf cs vals vs) ties
/-- what is asked of a rule's size -/
def Small (r : Rul) : Prop := (Rul.cells r).Nodup ∧ (Rul.cells r).length ≤ 100 ∧ match r with
  | .joined _ ties _ => ties.length ≤ 100
  | _ => True
theorem marked_len (cs vals vs : List Int) : (markedOf cs vals vs).length ≤ cs.length := by
  unfold markedOf
  rw [List.length_map]
  refine Nat.le_trans (List.length_filter_le _ _) ?_
  rw [List.length_zip]
  exact Nat.min_le_left _ _
theorem marked_nd {cs vals vs : List Int} (h : cs.Nodup) : (markedOf cs vals vs).Nodup := by
  have e : (markedOf cs vals vs).Sublist cs := by
    unfold markedOf
    refine ((List.filter_sublist).map _).trans ?_
    clear h
    induction cs generalizing vals with
    | nil => simp
    | cons a cs ih =>
      cases vals with
      | nil => simp
      | cons v vals =>
        rw [List.zip_cons_cons, List.map_cons]
        exact (ih (vals := vals)).cons₂ a
  exact e.nodup h
def spFits : Sp := fun vs H Q _ => ∃ v r u vals, vs = [v, u] ∧ RuH H v r ∧ IH H u vals ∧ vals.length = (Rul.cells r).length ∧ Small r ∧ ∀ H', Same H H' → Q (.bl (fitsB r vals)) H'
theorem zip_get {cs vals : List Int} {i : Nat} {a b : Int} (h1 : cs[i]? = some a) (h2 : vals[i]? = some b) : (cs.zip vals)[i]? = some (a, b) := by
  rw [List.getElem?_zip_eq_some]
  exact ⟨h1, h2⟩
section
variable {P : Program} {w : World} {K : PySem.W.Frag} {mg : Str → Option Value} {base : Heap} {f f1 f2 : Addr} {fd fd1 fd2 : FuncData}
end
end G9

set_option Elab.async false
set_option linter.all false
set_option maxRecDepth 100000
set_option maxHeartbeats 4000000
/-! the law's own fits -/
namespace G9
open PySem PySem.Spec PyProof.Rows L2 GX
def spLFits : Sp := fun vs H Q _ => ∃ v r u vals, vs = [v, u] ∧ RuH H v r ∧ IL H u vals ∧ vals.length = (Rul.cells r).length ∧ Small r ∧ ∀ H', Same H H' → Q (.bl (fitsB r vals)) H'
theorem all_one (vals : List Int) : ((vals.map fun v => decide (V.int ((vals.count v : Nat) : Int) = V.int 1)).all id) = decide vals.Nodup := by
  by_cases n : vals.Nodup
  · rw [decide_eq_true n, List.all_eq_true]
    intro b hb
    obtain ⟨v, hv, rfl⟩ := List.mem_map.mp hb
    have h1 := List.nodup_iff_count.mp n v
    have h2 := List.count_pos_iff.mpr hv
    exact decide_eq_true (congrArg V.int (by omega))
  · rw [decide_eq_false n, List.all_eq_false]
    by_cases z : ∀ v ∈ vals, vals.count v = 1
    · refine absurd (List.nodup_iff_count.mpr fun v => ?_) n
      by_cases hv : v ∈ vals
      · exact Nat.le_of_eq (z v hv)
      · rw [List.count_eq_zero_of_not_mem hv]
        exact Nat.zero_le _
    · obtain ⟨v, hz⟩ := Classical.not_forall.mp z
      obtain ⟨hv, hz⟩ := Classical.not_imp.mp hz
      refine ⟨_, List.mem_map.mpr ⟨v, hv, rfl⟩, ?_⟩
      rw [id, decide_eq_false fun q => hz (by have := V.int.inj q; omega)]
      exact Bool.false_ne_true
section
variable {P : Program} {w : World} {K : PySem.W.Frag} {mg : Str → Option Value} {base : Heap} {f f1 f2 : Addr} {fd fd1 fd2 : FuncData}
end
end G9

set_option Elab.async false
set_option linter.all false
set_option maxRecDepth 100000
set_option maxHeartbeats 4000000
/-! the law's scope; with_rules, without_rule, joint; the law's rows -/
namespace G9
open PySem PySem.Spec PyProof.Rows L2 GX
theorem paired_sub {α β : Type} {R : α → β → Prop} : ∀ {xs : List α} {ys : List β} (n m : Nat), Paired R xs ys → Paired R ((xs.drop n).take m) ((ys.drop n).take m)
  | _, _, n, m, .nil => by simp; exact .nil
  | _, _, n + 1, m, .cons a r => paired_sub n m r
  | _, _, 0, 0, .cons a r => .nil
  | _, _, 0, m + 1, .cons a r => .cons a (paired_sub 0 m r)
def addRules (p : Puz) (rs : List Rul) : Puz := ⟨p.doms, p.rules ++ rs⟩
def dropRule (p : Puz) (j : Nat) : Puz := ⟨p.doms, p.rules.take j ++ p.rules.drop (j + 1)⟩
def spWithRules : Sp := fun vs H Q _ => ∃ v p u rs, vs = [v, u] ∧ PzH H v p ∧ RusH H u rs ∧ p.rules.length + rs.length ≤ 1000 ∧ ∀ w H', Same H H' → PzH H' w (addRules p rs) → Q w H'
def spJoint : Sp := fun vs H Q _ => ∃ v p u q, vs = [v, u] ∧ PzH H v p ∧ PzH H u q ∧ p.rules.length + q.rules.length ≤ 1000 ∧ ∀ w H', Same H H' → PzH H' w (addRules p q.rules) → Q w H'
def spWithout : Sp := fun vs H Q _ => ∃ v p j, vs = [v, .int ((j : Nat) : Int)] ∧ PzH H v p ∧ j < p.rules.length ∧ p.rules.length ≤ 1000 ∧ ∀ w H', Same H H' → PzH H' w (dropRule p j) → Q w H'
/-- two tuples of rules put together -/
theorem cat_rules {K : PySem.W.Frag} {H : Hp} {x y : V} {rs ts : List Rul} (hx : RusH H x rs) (hy : RusH H y ts) (hl : rs.length + ts.length ≤ 1000) {Q : VK} (k : ∀ w H', Same H H' → RusH H' w (rs ++ ts) → Q w H') : rCatA K x y H Q := by
  obtain ⟨a, vs, rfl, ha, pa⟩ := hx
  obtain ⟨b, us, rfl, hb, pb⟩ := hy
  have l1 := pa.length
  have l2 := pb.length
  refine ⟨a, b, vs, us, rfl, rfl, sqt ha, sqt hb, by rw [sizeLine_eq]; omega, fun e => ?_, fun e1 e2 => ?_, fun e1 e2 p hp => ?_⟩
  · subst e
    cases pa
    exact k _ _ (same_refl H) ⟨b, us, rfl, hb, pb⟩
  · subst e2
    cases pb
    rw [List.append_nil] at k
    exact k _ _ (same_refl H) ⟨a, vs, rfl, ha, pa⟩
  · exact k _ _ (same_new hp) ⟨p, _, rfl, upd_same, paired_mono (fun _ _ => RuH.kt (kt_same (same_new hp))) (paired_app pa pb)⟩
def spScope : Sp := spCellsOf
section
variable {P : Program} {w : World} {K : PySem.W.Frag} {mg : Str → Option Value} {base : Heap} {f f1 f2 : Addr} {fd fd1 fd2 : FuncData}
theorem sIx_nat {n j : Nat} (d : Nat) (h : j ≤ n) : HT.sIx n d (some (j : Int)) = j := by
  unfold HT.sIx
  simp
  rw [if_neg (by omega)]
  exact Nat.min_eq_left h
/-- a part of a tuple of rules -/
theorem part_rules {K : PySem.W.Frag} {H : Hp} {x : V} {rs : List Rul} (hx : RusH H x rs) (lo hi : Option Int) {Q : VK} (k : ∀ w H', Same H H' → RusH H' w ((rs.drop (HT.sIx rs.length 0 lo)).take (HT.sIx rs.length rs.length hi - HT.sIx rs.length 0 lo)) → Q w H') : rSlA K x lo hi H Q := by
  obtain ⟨a, vs, rfl, ha, pa⟩ := hx
  have l1 : vs.length = rs.length := pa.length
  refine ⟨a, vs, rfl, sqt ha, fun e => ?_, fun e p hp => ?_⟩
  · rw [l1] at e
    have := k (.ref a) H (same_refl H)
    rw [e.1, e.2, List.drop_zero, Nat.sub_zero, List.take_length] at this
    exact this ⟨a, vs, rfl, ha, pa⟩
  · refine k _ _ (same_new hp) ⟨p, _, rfl, upd_same, ?_⟩
    unfold cutV
    rw [l1]
    exact paired_mono (fun _ _ => RuH.kt (kt_same (same_new hp))) (paired_sub _ _ pa)
end
end G9

set_option Elab.async false
set_option linter.all false
set_option maxRecDepth 100000
set_option maxHeartbeats 4000000
/-! the law's rows -/
namespace G9
open PySem PySem.Spec PyProof.Rows L2 GX
def grow (acc : List (List Int)) (d : List Int) : List (List Int) := acc.flatMap fun r => d.map fun v => r ++ [v]
def rowsOf (doms : List (List Int)) : List (List Int) := doms.foldl grow [[]]
theorem rowsOf_snoc (ds : List (List Int)) (d : List Int) : rowsOf (ds ++ [d]) = grow (rowsOf ds) d := by
  unfold rowsOf
  rw [List.foldl_append]
  rfl
theorem grow_len (acc : List (List Int)) (d : List Int) : (grow acc d).length = acc.length * d.length := by
  induction acc with
  | nil => simp [grow]
  | cons a acc ih =>
    have : grow (a :: acc) d = d.map (fun v => a ++ [v]) ++ grow acc d := rfl
    rw [this, List.length_append, ih, List.length_map, List.length_cons, Nat.succ_mul, Nat.add_comm]
theorem rowsOf_len : ∀ (n : Nat) (ds : List (List Int)), ds.length = n → (∀ d ∈ ds, d.length ≤ 4) → (rowsOf ds).length ≤ 4 ^ n
  | 0, [], _, _ => Nat.le_refl _
  | n + 1, ds, h, hd => by
    have ne : ds ≠ [] := fun z => by rw [z] at h; cases h
    have e := List.dropLast_concat_getLast ne
    have hl : ds.dropLast.length = n := by rw [List.length_dropLast, h]; rfl
    rw [← e, rowsOf_snoc, grow_len, Nat.pow_succ]
    exact Nat.mul_le_mul (rowsOf_len n _ hl fun d hm => hd d (List.dropLast_subset _ hm)) (hd _ (List.getLast_mem ne))
theorem mem_grow {acc : List (List Int)} {d : List Int} {r : List Int} : r ∈ grow acc d ↔ ∃ q ∈ acc, ∃ v ∈ d, r = q ++ [v] := by
  unfold grow
  simp only [List.mem_flatMap, List.mem_map]
  constructor
  · rintro ⟨q, hq, v, hv, e⟩
    exact ⟨q, hq, v, hv, e.symm⟩
  · rintro ⟨q, hq, v, hv, e⟩
    exact ⟨q, hq, v, hv, e.symm⟩
theorem rowsOf_each : ∀ (n : Nat) (ds : List (List Int)), ds.length = n → ∀ r ∈ rowsOf ds, r.length = n
  | 0, [], _, r, h => by
    have : r = [] := by simpa [rowsOf] using h
    rw [this]
    rfl
  | n + 1, ds, h, r, hr => by
    have ne : ds ≠ [] := fun z => by rw [z] at h; cases h
    have e := List.dropLast_concat_getLast ne
    have hl : ds.dropLast.length = n := by rw [List.length_dropLast, h]; rfl
    rw [← e, rowsOf_snoc] at hr
    obtain ⟨q, hq, v, _, rfl⟩ := mem_grow.mp hr
    rw [List.length_append, rowsOf_each n _ hl q hq]
    rfl
theorem cat_row {K : PySem.W.Frag} {H : Hp} {x : V} {T : Addr} {r : List Int} {v : Int} (hx : IH H x r) (hT : H T = some (.tup [.int v])) (hl : r.length ≤ 1000) {Q : VK} (k : ∀ w H', Same H H' → IH H' w (r ++ [v]) → Q w H') : rCatA K x (.ref T) H Q := by
  obtain ⟨a, rfl, ha⟩ := hx
  refine ⟨a, T, _, [.int v], rfl, rfl, sqt ha, sqt hT, by rw [List.length_map, sizeLine_eq]; show r.length + 1 ≤ _; omega, fun e => ?_, (fun _ e2 => nomatch e2), fun e1 _ p hp => ?_⟩
  · have : r = [] := List.map_eq_nil_iff.mp e
    subst this
    exact k _ _ (same_refl H) ⟨T, rfl, hT⟩
  · exact k _ _ (same_new hp) ⟨p, rfl, by rw [upd_same, List.map_append]; rfl⟩
def spRows : Sp := fun vs H Q _ => ∃ u doms, vs = [u] ∧ (RowsH H u doms ∨ LRows H u doms) ∧ doms.length ≤ 8 ∧ (∀ d ∈ doms, d.length ≤ 4) ∧ ∀ l H', Same H H' → H l = none → LRows H' (.ref l) (rowsOf doms) → Q (.ref l) H'
theorem pow_le {n : Nat} (h : n ≤ 8) : 4 ^ n ≤ 65536 := Nat.le_trans (Nat.pow_le_pow_right (by decide) h) (by decide)
section
variable {P : Program} {w : World} {K : PySem.W.Frag} {mg : Str → Option Value} {base : Heap} {f f1 f2 : Addr} {fd fd1 fd2 : FuncData}
theorem ok_rows (D : Df K mg "_law_rows" sRows ["_law_lots"] f fd) : FnOk P w K mg base CX0 1 f fd ["_law_lots"] spRows := by
  refine D.F.ok scRows (fun vs H Q E h => ?_) (fun cdv A outer s H vs Q E hr h => ?_)
  · obtain ⟨u, doms, rfl, _⟩ := h
    rfl
  · obtain ⟨u, doms, rfl, hd, hn, h4, k⟩ := h
    refine ⟨_, pss_cons (ps_set (i := 1) scRows.nd rfl (.inl rfl) (pe_lst (pa_cons (pe_tup pa_nil) pa_nil)))
      (pss_cons (ps_for PassesOwn.never rfl (piB K (pv 0)) (pg_name (i := 2) scRows.nd rfl (.inl rfl))
        (pss_cons (ps_set (i := 3) scRows.nd rfl (.inl rfl) (pe_lst pa_nil))
        (pss_cons (ps_for PassesOwn.never rfl (pi_list (pv 1)) (pg_name (i := 4) scRows.nd rfl (.inr rfl))
          (pss_one (ps_set (i := 3) scRows.nd rfl (.inl rfl) (pe_op op_cat (pv 3)
            (pe_lc (own := [("_law_value", 5)]) rfl scRows.nd (pi_tup (pv 2)) (blkOk_by (N := ["_law_lots", "_law_found", "_law_lot", "_law_further", "_law_row", "_law_value"]) (sc := defScope sRows) (by decide +kernel)) (fun _ _ _ _ _ => pg_name (i := 5) scRows.nd rfl (.inl rfl)) (fun _ _ _ _ _ => pts_nil)
              (fun _ _ _ _ _ => pe_op (catA K) (pv 4) (pe_tup (pa_cons (pv 5) pa_nil))))))))
        (pss_one (ps_set (i := 1) scRows.nd rfl (.inl rfl) (pv 3))))))
      (pss_one (ps_ret (pv 1)))), ?_⟩
    refine ⟨by decide, fun T0 hT0 => ⟨(show 1 ≤ sizeLine by decide), fun F0 hF0 => ?_⟩⟩
    have hF0H : H F0 = none := none_under hF0
    have s0 : Same H (upd (upd H T0 (.tup [])) F0 (.lst [.ref T0])) := fun b o e => upd_at hF0 (upd_at hT0 e)
    have p0 : Paired (IH (upd (upd H T0 (.tup [])) F0 (.lst [.ref T0]))) [V.ref T0] (rowsOf []) := paired_one ⟨T0, rfl, upd_at hF0 upd_same⟩
    rcases hd with ⟨a, xs, rfl, ha, hp⟩ | ⟨a, xs, rfl, ha, hp⟩
    · refine .inl ⟨_, rfl, a, rfl, ⟨_, sqt (s0 _ _ ha)⟩, for_it (walk_tup (K := K) (xs := xs)) (fun i σ H' => ∃ F vs o2 o3 o4 o5, σ = [some (.ref a), some (.ref F), o2, o3, o4, o5] ∧ H' F = some (.lst vs) ∧ Paired (IH H') vs (rowsOf (doms.take i)) ∧ Same H H' ∧ H F = none)
        ⟨F0, [.ref T0], none, none, none, none, rfl, upd_same, p0, s0, hF0H⟩ (fun i σ H' _ h => ?_) (fun i x σ H' H'' hi h y => ?_) (fun σ H' h => ?_)⟩
      · obtain ⟨F, vs, o2, o3, o4, o5, rfl, hF, pF, sm, nF⟩ := h
        exact sqt (sm _ _ ha)
      · obtain ⟨rfl, hx⟩ := y
        obtain ⟨F, vs, o2, o3, o4, o5, rfl, hF, pF, sm, nF⟩ := h
        obtain ⟨d, hd1, ih⟩ := paired_at hp hx
        have tk : doms.take (i + 1) = doms.take i ++ [d] := by rw [List.take_add_one, hd1]; rfl
        have dl : d.length ≤ 4 := h4 d (List.mem_of_getElem? hd1)
        have il : i < doms.length := (List.getElem?_eq_some_iff.mp hd1).1
        have rl : (rowsOf (doms.take i)).length ≤ 65536 := Nat.le_trans (rowsOf_len _ _ rfl fun e he => h4 e (List.take_subset _ _ he)) (pow_le (by rw [List.length_take]; omega))
        have each := rowsOf_each _ (doms.take i) rfl
        rw [List.length_take] at each
        have vl := pF.length
        rw [tk, rowsOf_snoc] at *
        generalize rowsOf (doms.take i) = acc at pF rl each vl ⊢
        obtain ⟨da, rfl, hda⟩ := ih
        refine ⟨by decide, fun G0 hG0 => ?_⟩
        have hG0H : H G0 = none := by
          cases e : H G0 with
          | none => rfl
          | some o => rw [sm _ _ e] at hG0; cases hG0
        refine ⟨_, rfl, F, rfl, ⟨_, sql (upd_at hG0 hF)⟩, for_it (walk_list (K := K) (xs := vs)) (fun j σ H' => ∃ G ws o4 o5, σ = [some (.ref a), some (.ref F), some (.ref da), some (.ref G), o4, o5] ∧ H' G = some (.lst ws) ∧ Paired (IH H') ws (grow (acc.take j) d) ∧ Same H H' ∧ H G = none ∧ H' F = some (.lst vs) ∧ Paired (IH H') vs acc)
          ⟨G0, [], o4, o5, rfl, upd_same, .nil, fun b o e => upd_at hG0 (sm b o e), hG0H, upd_at hG0 hF, paired_mono (fun _ _ => IH.kt (kt_same (same_new hG0))) pF⟩ (fun j σ H' _ h => ?_) (fun j x σ H' H'' hj h y => ?_) (fun σ H' h => ?_)⟩
        · obtain ⟨_, _, _, _, _, _, _, _, _, h1, _⟩ := h
          exact sql h1
        · obtain ⟨rfl, hx⟩ := y
          obtain ⟨G, ws, q4, q5, rfl, hG, pG, sm2, nG, hF2, pF2⟩ := h
          obtain ⟨r, hr1, ir⟩ := paired_at pF2 hx
          have tk2 : acc.take (j + 1) = acc.take j ++ [r] := by rw [List.take_add_one, hr1]; rfl
          have g2 : grow (acc.take (j + 1)) d = grow (acc.take j) d ++ d.map fun v => r ++ [v] := by rw [tk2]; unfold grow; rw [List.flatMap_append]; simp
          have r8 : r.length ≤ 8 := by rw [each r (List.mem_of_getElem? hr1)]; omega
          have gl : (grow (acc.take j) d).length ≤ 262144 := by
            rw [grow_len, List.length_take]
            exact Nat.le_trans (Nat.mul_le_mul (Nat.le_trans (Nat.min_le_right _ _) rl) dl) (by decide)
          have wl := pG.length
          refine ⟨_, rfl, _, rfl, da, rfl, ⟨_, sqt (sm2 _ _ hda)⟩, fun L hL => ?_⟩
          have nGL : G ≠ L := ne_of_none hG hL
          have nFL : F ≠ L := ne_of_none hF2 hL
          refine lc_it (walk_tup (xs := d.map V.int)) (fun m H3 => ∃ us, H3 L = some (.lst us) ∧ Paired (IH H3) us ((d.take m).map fun v => r ++ [v]) ∧ ∀ b o, b ≠ L → H'' b = some o → H3 b = some o) ⟨[], upd_same, .nil, fun b o hb e => by rw [upd_ne hb]; exact e⟩ (fun m H3 _ h => ?_) (fun m x H3 H4 hm h y => ?_) (fun H3 h => ?_)
          · obtain ⟨us, _, _, kp⟩ := h
            exact sqt (kp _ _ (ne_of_none (sm2 _ _ hda) hL) (sm2 _ _ hda))
          · obtain ⟨rfl, hx3⟩ := y
            obtain ⟨us, hL3, pU, kp⟩ := h
            obtain ⟨v, hv, rfl⟩ := at_ints hx3
            obtain ⟨ra, rfl, hra⟩ := ir
            have hra3 := kp _ _ (ne_of_none hra hL) hra
            refine ⟨rfl, _, rfl, _, rfl, (show 1 ≤ sizeLine by decide), fun T hT => ?_⟩
            refine cat_row ⟨ra, rfl, upd_at hT hra3⟩ upd_same (by omega) fun w H5 s5 hw => ?_
            have s35 : Same H4 H5 := Same.tr (same_new hT) s5
            have nw : ∀ b xs, H5 b = some (.tup xs) → (upd H5 L (.lst (us ++ [w]))) b = some (.tup xs) := fun b xs e => by
              rw [upd_ne (fun z => by rw [z, s35 _ _ hL3] at e; cases e)]
              exact e
            have ul := pU.length
            rw [List.length_map, List.length_take] at ul
            refine ⟨us, s35 _ _ hL3, by rw [sizeLine_eq]; omega, us ++ [w], upd_same, ?_, fun b o hb e => by rw [upd_ne hb]; exact s35 _ _ (kp b o hb e)⟩
            have tk3 : (d.take (m + 1)).map (fun v => r ++ [v]) = (d.take m).map (fun v => r ++ [v]) ++ [r ++ [v]] := by rw [List.take_add_one, hv]; simp
            rw [tk3]
            exact paired_app (paired_mono (fun _ _ z => IH.kt nw (IH.kt (kt_same s35) z)) pU) (paired_one (hw.kt nw))
          · obtain ⟨us, hL3, pU, kp⟩ := h
            rw [List.length_map, List.take_length] at pU
            have ul := pU.length
            rw [List.length_map] at ul
            refine ⟨G, L, ws, us, rfl, rfl, kp _ _ nGL hG, hL3, by rw [sizeLine_eq]; omega, fun N hN => ?_⟩
            have nHL : H L = none := by
              cases e : H L with
              | none => rfl
              | some o => rw [sm2 _ _ e] at hL; cases hL
            have smL : Same H H3 := fun b o e => kp b o (fun z => by rw [z, nHL] at e; cases e) (sm2 b o e)
            have nHN : H N = none := by
              cases e : H N with
              | none => rfl
              | some o => rw [smL _ _ e] at hN; cases hN
            have kt1 : ∀ b xs, H'' b = some (.tup xs) → (upd H3 N (.lst (ws ++ us))) b = some (.tup xs) := fun b xs e => upd_at hN (kp b _ (fun z => by rw [z, hL] at e; cases e) e)
            refine ⟨N, ws ++ us, _, q5, rfl, upd_same, ?_, fun b o e => upd_at hN (smL b o e), nHN, upd_at hN (kp _ _ nFL hF2), paired_mono (fun _ _ => IH.kt kt1) pF2⟩
            rw [g2]
            exact paired_app (paired_mono (fun _ _ => IH.kt kt1) pG) (paired_mono (fun _ _ => IH.kt (kt_same (same_new hN))) pU)
        · obtain ⟨G, ws, q4, q5, rfl, hG, pG, sm2, nG, hF2, pF2⟩ := h
          rw [vl, List.take_length] at pG
          refine ⟨_, rfl, G, ws, some (.ref da), _, q4, q5, rfl, hG, ?_, sm2, nG⟩
          exact pG
      · obtain ⟨F, vs, o2, o3, o4, o5, rfl, hF, pF, sm, nF⟩ := h
        have hl := hp.length
        rw [hl, List.take_length] at pF
        exact ⟨_, rfl, k F H' sm nF ⟨F, vs, rfl, hF, pF⟩⟩
    · refine .inr ⟨_, rfl, a, rfl, ⟨_, sql (s0 _ _ ha)⟩, for_it (walk_list (K := K) (xs := xs)) (fun i σ H' => ∃ F vs o2 o3 o4 o5, σ = [some (.ref a), some (.ref F), o2, o3, o4, o5] ∧ H' F = some (.lst vs) ∧ Paired (IH H') vs (rowsOf (doms.take i)) ∧ Same H H' ∧ H F = none)
        ⟨F0, [.ref T0], none, none, none, none, rfl, upd_same, p0, s0, hF0H⟩ (fun i σ H' _ h => ?_) (fun i x σ H' H'' hi h y => ?_) (fun σ H' h => ?_)⟩
      · obtain ⟨F, vs, o2, o3, o4, o5, rfl, hF, pF, sm, nF⟩ := h
        exact sql (sm _ _ ha)
      · obtain ⟨rfl, hx⟩ := y
        obtain ⟨F, vs, o2, o3, o4, o5, rfl, hF, pF, sm, nF⟩ := h
        obtain ⟨d, hd1, ih⟩ := paired_at hp hx
        have tk : doms.take (i + 1) = doms.take i ++ [d] := by rw [List.take_add_one, hd1]; rfl
        have dl : d.length ≤ 4 := h4 d (List.mem_of_getElem? hd1)
        have il : i < doms.length := (List.getElem?_eq_some_iff.mp hd1).1
        have rl : (rowsOf (doms.take i)).length ≤ 65536 := Nat.le_trans (rowsOf_len _ _ rfl fun e he => h4 e (List.take_subset _ _ he)) (pow_le (by rw [List.length_take]; omega))
        have each := rowsOf_each _ (doms.take i) rfl
        rw [List.length_take] at each
        have vl := pF.length
        rw [tk, rowsOf_snoc] at *
        generalize rowsOf (doms.take i) = acc at pF rl each vl ⊢
        obtain ⟨da, rfl, hda⟩ := ih
        refine ⟨by decide, fun G0 hG0 => ?_⟩
        have hG0H : H G0 = none := by
          cases e : H G0 with
          | none => rfl
          | some o => rw [sm _ _ e] at hG0; cases hG0
        refine ⟨_, rfl, F, rfl, ⟨_, sql (upd_at hG0 hF)⟩, for_it (walk_list (K := K) (xs := vs)) (fun j σ H' => ∃ G ws o4 o5, σ = [some (.ref a), some (.ref F), some (.ref da), some (.ref G), o4, o5] ∧ H' G = some (.lst ws) ∧ Paired (IH H') ws (grow (acc.take j) d) ∧ Same H H' ∧ H G = none ∧ H' F = some (.lst vs) ∧ Paired (IH H') vs acc)
          ⟨G0, [], o4, o5, rfl, upd_same, .nil, fun b o e => upd_at hG0 (sm b o e), hG0H, upd_at hG0 hF, paired_mono (fun _ _ => IH.kt (kt_same (same_new hG0))) pF⟩ (fun j σ H' _ h => ?_) (fun j x σ H' H'' hj h y => ?_) (fun σ H' h => ?_)⟩
        · obtain ⟨_, _, _, _, _, _, _, _, _, h1, _⟩ := h
          exact sql h1
        · obtain ⟨rfl, hx⟩ := y
          obtain ⟨G, ws, q4, q5, rfl, hG, pG, sm2, nG, hF2, pF2⟩ := h
          obtain ⟨r, hr1, ir⟩ := paired_at pF2 hx
          have tk2 : acc.take (j + 1) = acc.take j ++ [r] := by rw [List.take_add_one, hr1]; rfl
          have g2 : grow (acc.take (j + 1)) d = grow (acc.take j) d ++ d.map fun v => r ++ [v] := by rw [tk2]; unfold grow; rw [List.flatMap_append]; simp
          have r8 : r.length ≤ 8 := by rw [each r (List.mem_of_getElem? hr1)]; omega
          have gl : (grow (acc.take j) d).length ≤ 262144 := by
            rw [grow_len, List.length_take]
            exact Nat.le_trans (Nat.mul_le_mul (Nat.le_trans (Nat.min_le_right _ _) rl) dl) (by decide)
          have wl := pG.length
          refine ⟨_, rfl, _, rfl, da, rfl, ⟨_, sqt (sm2 _ _ hda)⟩, fun L hL => ?_⟩
          have nGL : G ≠ L := ne_of_none hG hL
          have nFL : F ≠ L := ne_of_none hF2 hL
          refine lc_it (walk_tup (xs := d.map V.int)) (fun m H3 => ∃ us, H3 L = some (.lst us) ∧ Paired (IH H3) us ((d.take m).map fun v => r ++ [v]) ∧ ∀ b o, b ≠ L → H'' b = some o → H3 b = some o) ⟨[], upd_same, .nil, fun b o hb e => by rw [upd_ne hb]; exact e⟩ (fun m H3 _ h => ?_) (fun m x H3 H4 hm h y => ?_) (fun H3 h => ?_)
          · obtain ⟨us, _, _, kp⟩ := h
            exact sqt (kp _ _ (ne_of_none (sm2 _ _ hda) hL) (sm2 _ _ hda))
          · obtain ⟨rfl, hx3⟩ := y
            obtain ⟨us, hL3, pU, kp⟩ := h
            obtain ⟨v, hv, rfl⟩ := at_ints hx3
            obtain ⟨ra, rfl, hra⟩ := ir
            have hra3 := kp _ _ (ne_of_none hra hL) hra
            refine ⟨rfl, _, rfl, _, rfl, (show 1 ≤ sizeLine by decide), fun T hT => ?_⟩
            refine cat_row ⟨ra, rfl, upd_at hT hra3⟩ upd_same (by omega) fun w H5 s5 hw => ?_
            have s35 : Same H4 H5 := Same.tr (same_new hT) s5
            have nw : ∀ b xs, H5 b = some (.tup xs) → (upd H5 L (.lst (us ++ [w]))) b = some (.tup xs) := fun b xs e => by
              rw [upd_ne (fun z => by rw [z, s35 _ _ hL3] at e; cases e)]
              exact e
            have ul := pU.length
            rw [List.length_map, List.length_take] at ul
            refine ⟨us, s35 _ _ hL3, by rw [sizeLine_eq]; omega, us ++ [w], upd_same, ?_, fun b o hb e => by rw [upd_ne hb]; exact s35 _ _ (kp b o hb e)⟩
            have tk3 : (d.take (m + 1)).map (fun v => r ++ [v]) = (d.take m).map (fun v => r ++ [v]) ++ [r ++ [v]] := by rw [List.take_add_one, hv]; simp
            rw [tk3]
            exact paired_app (paired_mono (fun _ _ z => IH.kt nw (IH.kt (kt_same s35) z)) pU) (paired_one (hw.kt nw))
          · obtain ⟨us, hL3, pU, kp⟩ := h
            rw [List.length_map, List.take_length] at pU
            have ul := pU.length
            rw [List.length_map] at ul
            refine ⟨G, L, ws, us, rfl, rfl, kp _ _ nGL hG, hL3, by rw [sizeLine_eq]; omega, fun N hN => ?_⟩
            have nHL : H L = none := by
              cases e : H L with
              | none => rfl
              | some o => rw [sm2 _ _ e] at hL; cases hL
            have smL : Same H H3 := fun b o e => kp b o (fun z => by rw [z, nHL] at e; cases e) (sm2 b o e)
            have nHN : H N = none := by
              cases e : H N with
              | none => rfl
              | some o => rw [smL _ _ e] at hN; cases hN
            have kt1 : ∀ b xs, H'' b = some (.tup xs) → (upd H3 N (.lst (ws ++ us))) b = some (.tup xs) := fun b xs e => upd_at hN (kp b _ (fun z => by rw [z, hL] at e; cases e) e)
            refine ⟨N, ws ++ us, _, q5, rfl, upd_same, ?_, fun b o e => upd_at hN (smL b o e), nHN, upd_at hN (kp _ _ nFL hF2), paired_mono (fun _ _ => IH.kt kt1) pF2⟩
            rw [g2]
            exact paired_app (paired_mono (fun _ _ => IH.kt kt1) pG) (paired_mono (fun _ _ => IH.kt (kt_same (same_new hN))) pU)
        · obtain ⟨G, ws, q4, q5, rfl, hG, pG, sm2, nG, hF2, pF2⟩ := h
          rw [vl, List.take_length] at pG
          refine ⟨_, rfl, G, ws, some (.ref da), _, q4, q5, rfl, hG, ?_, sm2, nG⟩
          exact pG
      · obtain ⟨F, vs, o2, o3, o4, o5, rfl, hF, pF, sm, nF⟩ := h
        have hl := hp.length
        rw [hl, List.take_length] at pF
        exact ⟨_, rfl, k F H' sm nF ⟨F, vs, rfl, hF, pF⟩⟩
end
end G9

set_option Elab.async false
set_option linter.all false
set_option maxRecDepth 100000
set_option maxHeartbeats 4000000
/-! the law's answers -/
namespace G9
open PySem PySem.Spec PyProof.Rows L2 GX
noncomputable def allFit (rules : List Rul) (row : List Int) : List Bool := rules.map fun r => fitsB r (pick row (Rul.cells r))
noncomputable def isAns (p : Puz) (row : List Int) : Bool := (allFit p.rules row).all id
noncomputable def answersOf (p : Puz) : List (List Int) := (rowsOf p.doms).filter fun row => isAns p row
def TabLen : Rul → Prop
  | .table _ rows => rows.length ≤ 65536
  | _ => True
structure PzOk (p : Puz) : Prop where
  n8 : p.doms.length ≤ 8
  d4 : ∀ d ∈ p.doms, d.length ≤ 4
  r100 : p.rules.length ≤ 100
  small : ∀ r ∈ p.rules, Small r
  tab : ∀ r ∈ p.rules, TabLen r
  some : ∀ r ∈ p.rules, Rul.cells r ≠ []
  cell : ∀ r ∈ p.rules, ∀ c ∈ Rul.cells r, 0 ≤ c ∧ c < p.doms.length
theorem PzOk.rl {p : Puz} (h : PzOk p) : (rowsOf p.doms).length ≤ 65536 := Nat.le_trans (rowsOf_len _ _ rfl h.d4) (pow_le h.n8)
theorem none_same {H H' : Hp} (sm : Same H H') {a : Addr} (h : H' a = none) : H a = none := by
  cases e : H a with
  | none => rfl
  | some o => rw [sm _ _ e] at h; cases h
theorem pick_len (row cs : List Int) : (pick row cs).length = cs.length := List.length_map ..
theorem pick_take {row cs : List Int} {i : Nat} {c : Int} (hc : cs[i]? = some c) : pick row (cs.take (i + 1)) = pick row (cs.take i) ++ [row.getD c.toNat 0] := by
  unfold pick
  rw [List.take_add_one, hc, List.map_append]
  rfl
def spLAnswers : Sp := fun vs H Q _ => ∃ u p, vs = [u] ∧ PzH H u p ∧ PzOk p ∧ ∀ l H', Same H H' → H l = none → LRows H' (.ref l) (answersOf p) → Q (.ref l) H'
section
variable {P : Program} {w : World} {K : PySem.W.Frag} {mg : Str → Option Value} {base : Heap} {f f1 f2 f3 : Addr} {fd fd1 fd2 fd3 : FuncData}
end
end G9

set_option Elab.async false
set_option linter.all false
set_option maxRecDepth 100000
set_option maxHeartbeats 4000000
/-! a def with the address of its code object -/
namespace GX
open PySem PySem.Spec PyProof.Rows L2
structure FunC (K : PySem.W.Frag) (x qual : Str) (st : Stmt) (f c : Addr) (fd : FuncData) : Prop where
  ex : ∃ (oc : Value) (od : Option Addr) (kV doc pm : Value) (an : Option Addr) (ct : Value) (osl : Array (Option Value)),
    fd = PySem.W.fnOf x qual (defArgs st) (defBody st) (defScope st) .none kV doc pm an (.ref c) ct ∧ K.lookup f = some ⟨oc, od, .func fd, osl⟩ ∧ PySem.W.codeIn K (.ref c) qual = true
  kp : PySem.W.keepIn K (.ref f) = true
theorem FunC.fun {K : PySem.W.Frag} {x qual : Str} {st : Stmt} {f c : Addr} {fd : FuncData} (F : FunC K x qual st f c fd) : Fun K x qual st f fd := by
  obtain ⟨oc, od, kV, doc, pm, an, ct, osl, h⟩ := F.ex
  exact ⟨⟨oc, od, kV, doc, pm, an, .ref c, ct, osl, h⟩, F.kp⟩
theorem funC_mk {K : PySem.W.Frag} {x qual : Str} {st : Stmt} {f c : Addr} {oc : Value} {od an : Option Addr} {osl : Array (Option Value)} {kV doc pm ct : Value} (l : K.lookup f = some ⟨oc, od, .func (PySem.W.fnOf x qual (defArgs st) (defBody st) (defScope st) .none kV doc pm an (.ref c) ct), osl⟩)
    (hc : PySem.W.codeIn K (.ref c) qual = true) (k : PySem.W.keepIn K (.ref f) = true) : FunC K x qual st f c (PySem.W.fnOf x qual (defArgs st) (defBody st) (defScope st) .none kV doc pm an (.ref c) ct) := ⟨⟨oc, od, kV, doc, pm, an, ct, osl, rfl, l, hc⟩, k⟩
theorem FunC.ok {P : Program} {w : World} {K : PySem.W.Frag} {mg : Str → Option Value} {base : Heap} {x qual : Str} {st : Stmt} {f c : Addr} {fd : FuncData} {N ps : List Str} {k : Nat} {sp : Sp} (F : FunC K x qual st f c fd) (S : FnScope N ps (defScope st)) (len : ∀ vs H Q E, sp vs H Q E → vs.length = ps.length)
    (hbody : ∀ (A : Around) (outer : List Env) (s : Shared) (H : Hp) (vs : List V) (Q : VK) (E : XK), Room k (A.deeper (envOfC qual (defScope st) s.heap.objs.size f (.ref c))) → sp vs H Q E →
      ∃ t, PSs (cxOf CX0 P w K mg base N qual (defScope st) f (.ref c) A outer s H E).nox (defBody st) t ∧ t { nx := fun _ H' => Q .non H', rt := Q } (start N vs) H) : FnOk P w K mg base CX0 (k + 1) f fd ps sp := by
  obtain ⟨oc, od, kV, doc, pm, an, ct, osl, rfl, lk, hcd⟩ := F.ex
  refine fn_of lk hcd S len fun A outer s H vs Q E hr hsp => ?_
  obtain ⟨t, h, q⟩ := hbody A outer s H vs Q E hr hsp
  exact ⟨t, h.nox, q⟩
end GX

set_option Elab.async false
set_option linter.all false
set_option maxRecDepth 100000
set_option maxHeartbeats 4000000
/-! _row_lookup, _lets, _let_by_all -/
namespace G9
open PySem PySem.Spec PyProof.Rows L2 GX
/-- a row as a key -/
def keyOf' (row : List Int) : List Key := row.map Sum.inl
theorem keyOf_kV (row : List Int) : (keyOf' row).map kV = row.map V.int := by
  unfold keyOf'
  rw [List.map_map]
  rfl
theorem keyOf_inj {a b : List Int} (h : keyOf' a = keyOf' b) : a = b := by
  unfold keyOf' at h
  exact List.map_inj_right (fun _ _ => Sum.inl.inj) |>.mp h
/-- what a table is looked up in -/
def LookH (H : Hp) (v : V) : Rul → Prop
  | .table _ rows => ∃ d kvs, v = .ref d ∧ H d = some (.dT kvs) ∧ ∀ row : List Int, valV kvs (keyOf' row) = if row ∈ rows then some (.bl true) else none
  | _ => v = .non
theorem LookH.kb {H H' : Hp} (k : Kb H H') {v : V} : ∀ {r : Rul}, LookH H v r → LookH H' v r
  | .table _ _, ⟨d, kvs, e, q, z⟩ => ⟨d, kvs, e, k.1 _ _ (fun ps z => by cases z) q, z⟩
  | .unlike _, h => h
  | .sum _ _ _, h => h
  | .count _ _ _ _, h => h
  | .below _ _, h => h
  | .runs _ _, h => h
  | .joined _ _ _, h => h
theorem lookH_or {H : Hp} {d : V} : ∀ {r : Rul}, LookH H d r → d = .non ∨ ∃ cs rows d' kvs, r = .table cs rows ∧ d = .ref d' ∧ H d' = some (.dT kvs) ∧ ∀ row : List Int, valV kvs (keyOf' row) = if row ∈ rows then some (.bl true) else none
  | .table cs rows, ⟨d', kvs, e, q, z⟩ => .inr ⟨cs, rows, d', kvs, rfl, e, q, z⟩
  | .unlike _, h => .inl h
  | .sum _ _ _, h => .inl h
  | .count _ _ _ _, h => .inl h
  | .below _ _, h => .inl h
  | .runs _ _, h => .inl h
  | .joined _ _ _, h => .inl h
def spLookup : Sp := fun vs H Q _ => ∃ v r, vs = [v] ∧ RuH H v r ∧ TabLen r ∧ ∀ w H', Same H H' → LookH H' w r → Q w H'
def spLets : Sp := fun vs H Q _ => ∃ v d u r vals, vs = [v, d, u] ∧ RuH H v r ∧ LookH H d r ∧ IH H u vals ∧ (∀ c ∈ Rul.cells r, 0 ≤ c ∧ c < vals.length) ∧ Small r ∧ ∀ H', Same H H' → Q (.bl (fitsB r (pick vals (Rul.cells r)))) H'
section
variable {P : Program} {w : World} {K : PySem.W.Frag} {mg : Str → Option Value} {base : Heap} {f f1 f2 f3 : Addr} {fd fd1 fd2 fd3 : FuncData}
/-- rules, each with what it is looked up in -/
def DueH (H : Hp) (vs : List V) (rs : List Rul) : Prop := Paired (fun x r => ∃ t rv lv, x = V.ref t ∧ H t = some (.tup [rv, lv]) ∧ RuH H rv r ∧ LookH H lv r) vs rs
theorem DueH.kb {H H' : Hp} (k : Kb H H') {vs : List V} {rs : List Rul} (h : DueH H vs rs) : DueH H' vs rs := paired_mono (fun _ _ ⟨t, rv, lv, e, q, i, j⟩ => ⟨t, rv, lv, e, kt_kb k _ _ q, i.kt (kt_kb k), j.kb k⟩) h
theorem ndGen : (["rule", "rows", "values"] : List Str).Nodup := by decide +kernel
def atOr {α β : Type} (l : List α) (g : α → β) (z : β) (i : Nat) : β := (l[i]?.map g).getD z
theorem atOr_at {α β : Type} {l : List α} {g : α → β} {z : β} {i : Nat} {a : α} (h : l[i]? = some a) : atOr l g z i = g a := by
  unfold atOr
  rw [h]
  rfl
theorem range_map {α β : Type} (l : List α) (g : α → β) (z : β) : ((List.range l.length).map (atOr l g z)) = l.map g := by
  refine List.ext_getElem (by simp) fun i h1 h2 => ?_
  have hi : i < l.length := by simpa using h2
  simp [atOr, List.getElem?_eq_getElem hi]
def spByAll (pT : Addr) : Sp := fun vs H Q _ => ∃ d ds rs u vals, vs = [.ref d, u] ∧ H d = some (.lst ds) ∧ DueH H ds rs ∧ IH H u vals ∧ (∀ r ∈ rs, Small r ∧ ∀ c ∈ Rul.cells r, 0 ≤ c ∧ c < vals.length) ∧ GxR.TabG H pT ∧ ∀ H', Kb H H' → Q (.bl (rs.all fun r => fitsB r (pick vals (Rul.cells r)))) H'
end
end G9

set_option Elab.async false
set_option linter.all false
set_option maxRecDepth 100000
set_option maxHeartbeats 4000000
/-! answers: what is found turn by turn -/
namespace G9
open PySem PySem.Spec PyProof.Rows L2 GX
theorem loopW {J : It} {n : Nat} {G : Hp → Prop} {Y : Nat → Hp → V → Hp → Prop} (w : Walk J n G Y) (Pv : Nat → Hp → Prop) {H0 : Hp} {Fin : Hp → Prop} {Tn : (Hp → Prop) → V → Hp → Prop} (h0 : Pv 0 H0) (hG : ∀ i H, i ≤ n → Pv i H → G H)
    (hs : ∀ i x H H', i < n → Pv i H → Y i H x H' → Tn (Pv (i + 1)) x H') (hd : ∀ H, Pv n H → Fin H) :
    ∃ W : Nat → Nat → Hp → Prop, (∃ m, W 0 m H0) ∧ ∀ i m H, W i m H → (J.stop i H ∧ Fin H) ∨ (J.go i H ∧ ∃ Nx : Hp → Prop, (∀ H', Nx H' → ∃ m', m' < m ∧ W (i + 1) m' H') ∧ ∀ x H', J.yld i H x H' → Tn Nx x H') := by
  refine ⟨fun i m H => m = n - i ∧ i ≤ n ∧ Pv i H, ⟨n, rfl, Nat.zero_le _, h0⟩, fun i m H ⟨em, hi, p⟩ => ?_⟩
  subst em
  by_cases hlt : i < n
  · exact .inr ⟨w.goes i H hlt (hG i H hi p), Pv (i + 1), fun H' p' => ⟨n - (i + 1), by omega, rfl, hlt, p'⟩, fun x H' y => hs i x H H' hlt p (w.yields i H x H' hlt (hG i H hi p) y)⟩
  · have e : i = n := by omega
    subst e
    exact .inl ⟨w.stops H (hG i H hi p), hd H p⟩
/-- the greatest -/
def maxL : List Int → Int
  | [] => 0
  | [a] => a
  | a :: b :: l => max a (maxL (b :: l))
theorem maxL_mem : ∀ {l : List Int}, l ≠ [] → maxL l ∈ l
  | [a], _ => List.mem_cons_self ..
  | a :: b :: l, _ => by
    unfold maxL
    rcases Int.le_total a (maxL (b :: l)) with h | h
    · rw [Int.max_eq_right h]
      exact List.mem_cons_of_mem _ (maxL_mem (by simp))
    · rw [Int.max_eq_left h]
      exact List.mem_cons_self ..
theorem maxL_ge : ∀ {l : List Int} {y : Int}, y ∈ l → y ≤ maxL l
  | [a], y, h => by rw [List.mem_singleton.mp h]; exact Int.le_refl _
  | a :: b :: l, y, h => by
    unfold maxL
    rcases List.mem_cons.mp h with z | z
    · rw [z]; exact Int.le_max_left ..
    · exact Int.le_trans (maxL_ge z) (Int.le_max_right ..)
theorem maxL_of {l : List Int} {m : Int} (h : m ∈ l) (g : ∀ y ∈ l, y ≤ m) : m = maxL l := by
  have h1 := maxL_ge h
  have h2 := g _ (maxL_mem (fun z => by rw [z] at h; cases h))
  omega
/-- all rules fit whose last cell is ahead of i -/
noncomputable def goodAt (p : Puz) (i : Nat) (row : List Int) : Bool := p.rules.all fun r => !decide (maxL (Rul.cells r) < (i : Int)) || fitsB r (pick row (Rul.cells r))
def dueAt (p : Puz) (i : Nat) : List Rul := p.rules.filter fun r => decide (maxL (Rul.cells r) = (i : Int))
noncomputable def dueFit (p : Puz) (i : Nat) (row : List Int) : Bool := (dueAt p i).all fun r => fitsB r (pick row (Rul.cells r))
noncomputable def foundAt (p : Puz) (i : Nat) : List (List Int) := (rowsOf (p.doms.take i)).filter fun row => goodAt p i row
theorem pick_ahead {q cs : List Int} {v : Int} (h : ∀ c ∈ cs, 0 ≤ c ∧ c < q.length) : pick (q ++ [v]) cs = pick q cs := by
  unfold pick
  refine List.map_congr_left fun c hc => ?_
  obtain ⟨h0, h1⟩ := h c hc
  rw [List.getD_eq_getElem?_getD, List.getD_eq_getElem?_getD, List.getElem?_append_left (by omega)]
theorem good_step {p : Puz} (ok : PzOk p) {i : Nat} {q : List Int} (hq : q.length = i) (v : Int) : goodAt p (i + 1) (q ++ [v]) = (goodAt p i q && dueFit p i (q ++ [v])) := by
  have key : ∀ r ∈ p.rules, maxL (Rul.cells r) < (i : Int) → pick (q ++ [v]) (Rul.cells r) = pick q (Rul.cells r) := fun r hr h => pick_ahead fun c hc => ⟨(ok.cell r hr c hc).1, by have := maxL_ge hc; omega⟩
  rw [Bool.eq_iff_iff, Bool.and_eq_true]
  unfold goodAt dueFit dueAt
  simp only [List.all_eq_true, List.mem_filter, decide_eq_true_eq, Bool.or_eq_true, Bool.not_eq_true', decide_eq_false_iff_not]
  constructor
  · intro h
    refine ⟨fun r hr => ?_, fun r ⟨hr, e⟩ => ?_⟩
    · by_cases z : maxL (Rul.cells r) < (i : Int)
      · rcases h r hr with w | w
        · exact absurd (show maxL (Rul.cells r) < ((i + 1 : Nat) : Int) by omega) w
        · rw [key r hr z] at w
          exact .inr w
      · exact .inl z
    · rcases h r hr with w | w
      · exact absurd (show maxL (Rul.cells r) < ((i + 1 : Nat) : Int) by omega) w
      · exact w
  · rintro ⟨h1, h2⟩ r hr
    by_cases z : maxL (Rul.cells r) < (i : Int)
    · rcases h1 r hr with w | w
      · exact absurd z w
      · rw [← key r hr z] at w
        exact .inr w
    · by_cases e : maxL (Rul.cells r) = (i : Int)
      · exact .inr (h2 r ⟨hr, e⟩)
      · exact .inl (by omega)
theorem grow_filter (A : List (List Int)) (d : List Int) (f g h : List Int → Bool) (H : ∀ q ∈ A, ∀ v ∈ d, h (q ++ [v]) = (f q && g (q ++ [v]))) : (grow (A.filter f) d).filter g = (grow A d).filter h := by
  induction A with
  | nil => rfl
  | cons a A ih =>
    have ihA := ih fun q hq => H q (List.mem_cons_of_mem _ hq)
    have e : ∀ (B : List (List Int)) (b : List Int), grow (b :: B) d = d.map (fun v => b ++ [v]) ++ grow B d := fun _ _ => rfl
    have one : (d.map fun v => a ++ [v]).filter h = if f a = true then (d.map fun v => a ++ [v]).filter g else [] := by
      by_cases fa : f a = true
      · rw [if_pos fa]
        refine List.filter_congr fun x hx => ?_
        obtain ⟨v, hv, rfl⟩ := List.mem_map.mp hx
        rw [H a (List.mem_cons_self ..) v hv, fa, Bool.true_and]
      · rw [if_neg fa]
        refine List.filter_eq_nil_iff.mpr fun x hx => ?_
        obtain ⟨v, hv, rfl⟩ := List.mem_map.mp hx
        rw [H a (List.mem_cons_self ..) v hv]
        simp [fa]
    by_cases fa : f a = true
    · rw [List.filter_cons_of_pos fa, e, e, List.filter_append, List.filter_append, ihA, one, if_pos fa]
    · rw [List.filter_cons_of_neg fa, e, List.filter_append, ihA, one, if_neg fa, List.nil_append]
theorem found_step {p : Puz} (ok : PzOk p) {i : Nat} {d : List Int} (hd : p.doms[i]? = some d) : foundAt p (i + 1) = (grow (foundAt p i) d).filter fun row => dueFit p i row := by
  have tk : p.doms.take (i + 1) = p.doms.take i ++ [d] := by rw [List.take_add_one, hd]; rfl
  have hi : i < p.doms.length := (List.getElem?_eq_some_iff.mp hd).1
  unfold foundAt
  rw [tk, rowsOf_snoc]
  refine (grow_filter _ _ _ _ _ fun q hq v hv => ?_).symm
  have hl := rowsOf_each _ (p.doms.take i) rfl q hq
  rw [List.length_take] at hl
  exact good_step ok (by omega) v
theorem found_start (p : Puz) (ok : PzOk p) : foundAt p 0 = [[]] := by
  unfold foundAt
  rw [List.take_zero]
  have : goodAt p 0 [] = true := by
    unfold goodAt
    rw [List.all_eq_true]
    intro r hr
    have := (ok.cell r hr _ (maxL_mem (ok.some r hr))).1
    simp
    exact .inl this
  show ([[]] : List (List Int)).filter _ = _
  simp [this]
theorem found_end (p : Puz) (ok : PzOk p) : foundAt p p.doms.length = answersOf p := by
  unfold foundAt answersOf
  rw [List.take_length]
  refine List.filter_congr fun row _ => ?_
  unfold goodAt isAns allFit
  rw [List.all_map]
  rw [Bool.eq_iff_iff]
  simp only [List.all_eq_true, Function.comp, id]
  refine forall_congr' fun r => forall_congr' fun hr => ?_
  have := (ok.cell r hr _ (maxL_mem (ok.some r hr))).2
  simp [this]
theorem rows_empty : ∀ (n : Nat) (ds : List (List Int)), ds.length = n → [] ∈ ds → rowsOf ds = []
  | 0, [], _, h => by cases h
  | n + 1, ds, h, hm => by
    have ne : ds ≠ [] := fun z => by rw [z] at h; cases h
    have e := List.dropLast_concat_getLast ne
    have hl : ds.dropLast.length = n := by rw [List.length_dropLast, h]; rfl
    rw [← e, rowsOf_snoc]
    rw [← e] at hm
    rcases List.mem_append.mp hm with z | z
    · rw [rows_empty n _ hl z]
      rfl
    · rw [← List.mem_singleton.mp z]
      unfold grow
      simp
theorem found_len {p : Puz} (ok : PzOk p) (i : Nat) (hi : i ≤ p.doms.length) : (foundAt p i).length ≤ 65536 := by
  refine Nat.le_trans (List.length_filter_le _ _) (Nat.le_trans (rowsOf_len _ _ rfl fun d hd => ok.d4 d (List.take_subset _ _ hd)) (pow_le ?_))
  rw [List.length_take]
  have := ok.n8
  omega
theorem found_each {p : Puz} (ok : PzOk p) {i : Nat} (hi : i ≤ p.doms.length) {r : List Int} (h : r ∈ foundAt p i) : r.length = i := by
  have := rowsOf_each _ (p.doms.take i) rfl r (List.mem_filter.mp h).1
  rw [List.length_take] at this
  omega
end G9

set_option Elab.async false
set_option linter.all false
set_option maxRecDepth 100000
set_option maxHeartbeats 4000000
/-! answers -/
namespace G9
open PySem PySem.Spec PyProof.Rows L2 GX
theorem maxK (K : PySem.W.Frag) {X : Cx} (hc : X.calm = true) (h : X.K = K := by rfl) : CallR X (.builtin "max") (fun vs H Q => ∃ (a : Addr) (ns : List Int), vs = [V.ref a] ∧ SqT K H a (ns.map V.int) ∧ 0 < ns.length ∧ ∀ m, m ∈ ns → (∀ y, y ∈ ns → y ≤ m) → Q (.int m) H) := h ▸ cr_maxT hc
/-- all but the object at L and the tables stays -/
def KbX (L : Addr) (H H' : Hp) : Prop := (∀ b o, b ≠ L → (∀ ps, o ≠ .tbl ps) → H b = some o → H' b = some o) ∧ ∀ P, GxR.TabG H P → GxR.TabG H' P
theorem KbX.begin {L : Addr} {H : Hp} {o : HO} (h : H L = none) : KbX L H (upd H L o) := ⟨fun b o' hb _ e => by rw [upd_ne hb]; exact e, fun P ⟨ps, e, t⟩ => ⟨ps, upd_at h e, t⟩⟩
theorem KbX.then {L : Addr} {A B C : Hp} (h : KbX L A B) (g : Kb B C) : KbX L A C := ⟨fun b o hb n e => g.1 b o n (h.1 b o hb n e), fun P e => g.2 P (h.2 P e)⟩
theorem KbX.put {L : Addr} {A B : Hp} {o xs : _} (h : KbX L A B) (hL : B L = some (.lst xs)) : KbX L A (upd B L (.lst o)) := ⟨fun b o' hb n e => by rw [upd_ne hb]; exact h.1 b o' hb n e, fun P e => by
  obtain ⟨ps, e2, t⟩ := h.2 P e
  exact ⟨ps, by rw [upd_ne (fun z => by rw [z, hL] at e2; cases e2)]; exact e2, t⟩⟩
theorem KbX.kb {L : Addr} {A B : Hp} (h : KbX L A B) (hL : A L = none) : Kb A B := ⟨fun b o n e => h.1 b o (fun z => by rw [z, hL] at e; cases e) n e, h.2⟩
theorem ktL {H : Hp} {L : Addr} {xs ys : List V} (h : H L = some (.lst xs)) : Kt H (upd H L (.lst ys)) := fun b zs e => by
  rw [upd_ne (fun z => by rw [z, h] at e; cases e)]
  exact e
def spAnswers (pT : Addr) : Sp := fun vs H Q _ => ∃ u p, vs = [u] ∧ PzH H u p ∧ PzOk p ∧ GxR.TabG H pT ∧ ∀ w H', Kb H H' → RowsH H' w (answersOf p) → Q w H'
section
variable {P : Program} {w : World} {K : PySem.W.Frag} {mg : Str → Option Value} {base : Heap} {f f1 f2 f3 : Addr} {fd fd1 fd2 fd3 : FuncData}
end
end G9

set_option Elab.async false
set_option linter.all false
set_option maxRecDepth 100000
set_option maxHeartbeats 4000000
/-! answer_count, first_answer; cut_to, narrowed -/
namespace G9
open PySem PySem.Spec PyProof.Rows L2 GX
/-- each domain changed by its number -/
def idxMap (g : Nat → List Int → List Int) : Nat → List (List Int) → List (List Int)
  | _, [] => []
  | k, d :: ds => g k d :: idxMap g (k + 1) ds
theorem idxMap_snoc (g : Nat → List Int → List Int) : ∀ (k : Nat) (ds : List (List Int)) (d : List Int), idxMap g k (ds ++ [d]) = idxMap g k ds ++ [g (k + ds.length) d]
  | k, [], d => rfl
  | k, e :: ds, d => by
    show g k e :: idxMap g (k + 1) (ds ++ [d]) = g k e :: idxMap g (k + 1) ds ++ [g (k + (ds.length + 1)) d]
    rw [idxMap_snoc g (k + 1) ds d, show k + 1 + ds.length = k + (ds.length + 1) by omega]
    rfl
theorem idxMap_len (g : Nat → List Int → List Int) : ∀ (k : Nat) (ds : List (List Int)), (idxMap g k ds).length = ds.length
  | k, [] => rfl
  | k, e :: ds => congrArg (· + 1) (idxMap_len g (k + 1) ds)
def valOf (f : List (Int × Int)) (c : Int) : Option Int := (f.find? fun p => decide (p.1 = c)).map (·.2)
def cutD (f : List (Int × Int)) (c : Nat) (d : List Int) : List Int := match valOf f (c : Int) with
  | some v => [v]
  | none => d
def cutP (p : Puz) (f : List (Int × Int)) : Puz := ⟨idxMap (cutD f) 0 p.doms, p.rules⟩
def nar1 (kept : List (List Int)) (c : Nat) (d : List Int) : List Int := d.filter fun v => decide (v ∈ kept.getD c [])
def narP (p : Puz) (kept : List (List Int)) : Puz := ⟨idxMap (nar1 kept) 0 p.doms, p.rules⟩
def spCut : Sp := fun vs H Q _ => ∃ u p fv f, vs = [u, fv] ∧ PzH H u p ∧ RowsH H fv (f.map tie2) ∧ (f.map (·.1)).Nodup ∧ f.length ≤ 1000 ∧ p.doms.length ≤ 1000 ∧ ∀ w H', Same H H' → PzH H' w (cutP p f) → Q w H'
def spNar : Sp := fun vs H Q _ => ∃ u p kv kept, vs = [u, kv] ∧ PzH H u p ∧ RowsH H kv kept ∧ kept.length = p.doms.length ∧ p.doms.length ≤ 1000 ∧ (∀ d ∈ p.doms, d.length ≤ 1000) ∧ ∀ w H', Same H H' → PzH H' w (narP p kept) → Q w H'
def spCount (pT : Addr) : Sp := fun vs H Q _ => ∃ u p, vs = [u] ∧ PzH H u p ∧ PzOk p ∧ GxR.TabG H pT ∧ ∀ H', Kb H H' → Q (.int ((answersOf p).length : Nat)) H'
def spFirst (pT : Addr) : Sp := fun vs H Q _ => ∃ u p, vs = [u] ∧ PzH H u p ∧ PzOk p ∧ GxR.TabG H pT ∧ ∀ w H', Kb H H' → (match answersOf p with | [] => w = .non | r :: _ => IH H' w r) → Q w H'
/-- what is given, as a dict under way -/
def GivH (H : Hp) (kvs : List (Key × V)) (f : List (Int × Int)) : Prop := Paired (fun kv p => kv.1 = .inl p.1 ∧ IH H kv.2 [p.2]) kvs f
theorem giv_val {H : Hp} : ∀ {kvs : List (Key × V)} {f : List (Int × Int)}, GivH H kvs f → ∀ c : Int, (valV kvs (.inl c) = none ∧ valOf f c = none) ∨ ∃ x v, valV kvs (.inl c) = some x ∧ valOf f c = some v ∧ IH H x [v]
  | _, _, .nil, c => .inl ⟨rfl, rfl⟩
  | (_, x) :: kvs, p :: f, .cons ⟨e, i⟩ r, c => by
    cases e
    by_cases h : p.1 = c
    · subst h
      exact .inr ⟨x, p.2, valV_pos rfl, by unfold valOf; rw [List.find?_cons_of_pos (by simp)]; rfl, i⟩
    · have e1 : valV (((Sum.inl p.1 : Key), x) :: kvs) (.inl c) = valV kvs (.inl c) := valV_neg (fun z => h (Sum.inl.inj z))
      have e2 : valOf (p :: f) c = valOf f c := by unfold valOf; rw [List.find?_cons_of_neg (by simp [h])]
      rw [e1, e2]
      exact giv_val r c
theorem giv_none {H : Hp} {kvs : List (Key × V)} {f : List (Int × Int)} (h : GivH H kvs f) {c : Int} (hc : c ∉ f.map (·.1)) : valV kvs (.inl c) = none := by
  rcases giv_val h c with z | ⟨x, v, _, z, _⟩
  · exact z.1
  · unfold valOf at z
    cases e : f.find? (fun p => decide (p.1 = c)) with
    | none => rw [e] at z; cases z
    | some q =>
      have := List.find?_some e
      have hm := List.mem_of_find?_eq_some e
      exact absurd (List.mem_map.mpr ⟨q, hm, by simpa using this⟩) hc
section
variable {P : Program} {w : World} {K : PySem.W.Frag} {mg : Str → Option Value} {base : Heap} {f f1 f2 f3 : Addr} {fd fd1 fd2 fd3 : FuncData} {pT : Addr}
end
end G9

set_option Elab.async false
set_option linter.all false
set_option maxRecDepth 100000
set_option maxHeartbeats 4000000
/-! answers_with, is_forced; _moved, beside -/
namespace G9
open PySem PySem.Spec PyProof.Rows L2 GX
def moveR (by' : Int) : Rul → Rul
  | .table cs rows => .table (cs.map (· + by')) rows
  | .unlike cs => .unlike (cs.map (· + by'))
  | .sum cs lo hi => .sum (cs.map (· + by')) lo hi
  | .count cs vs lo hi => .count (cs.map (· + by')) vs lo hi
  | .below a b => .below (a + by') (b + by')
  | .runs cs ls => .runs (cs.map (· + by')) ls
  | .joined cs ties vs => .joined (cs.map (· + by')) (ties.map fun p => (p.1 + by', p.2 + by')) vs
def besideP (p q : Puz) : Puz := ⟨p.doms ++ q.doms, p.rules ++ q.rules.map (moveR (p.doms.length : Int))⟩
theorem cells_move (b : Int) (r : Rul) : Rul.cells (moveR b r) = (Rul.cells r).map (· + b) := by cases r <;> rfl
theorem idxMap_mem (g : Nat → List Int → List Int) : ∀ (k : Nat) (ds : List (List Int)) (e : List Int), e ∈ idxMap g k ds → ∃ j d, d ∈ ds ∧ e = g j d
  | k, [], e, h => by cases h
  | k, d :: ds, e, h => by
    rcases List.mem_cons.mp h with z | z
    · exact ⟨k, d, List.mem_cons_self .., z⟩
    · obtain ⟨j, d', hd, e'⟩ := idxMap_mem g (k + 1) ds e z
      exact ⟨j, d', List.mem_cons_of_mem _ hd, e'⟩
theorem ok_cutP {p : Puz} (ok : PzOk p) (f : List (Int × Int)) : PzOk (cutP p f) where
  n8 := by show (idxMap _ 0 p.doms).length ≤ 8; rw [idxMap_len]; exact ok.n8
  d4 := fun d hd => by
    obtain ⟨j, d', hd', rfl⟩ := idxMap_mem _ _ _ _ hd
    unfold cutD
    split
    · exact (by decide : 1 ≤ 4)
    · exact ok.d4 d' hd'
  r100 := ok.r100
  small := ok.small
  tab := ok.tab
  some := ok.some
  cell := fun r hr c hc => by show 0 ≤ c ∧ c < ((idxMap _ 0 p.doms).length : Int); rw [idxMap_len]; exact ok.cell r hr c hc
theorem ok_narP {p : Puz} (ok : PzOk p) (kept : List (List Int)) : PzOk (narP p kept) where
  n8 := by show (idxMap _ 0 p.doms).length ≤ 8; rw [idxMap_len]; exact ok.n8
  d4 := fun d hd => by
    obtain ⟨j, d', hd', rfl⟩ := idxMap_mem _ _ _ _ hd
    exact Nat.le_trans (List.length_filter_le _ _) (ok.d4 d' hd')
  r100 := ok.r100
  small := ok.small
  tab := ok.tab
  some := ok.some
  cell := fun r hr c hc => by show 0 ≤ c ∧ c < ((idxMap _ 0 p.doms).length : Int); rw [idxMap_len]; exact ok.cell r hr c hc
def spAnsWith (pT : Addr) : Sp := fun vs H Q _ => ∃ u p fv f, vs = [u, fv] ∧ PzH H u p ∧ PzOk p ∧ RowsH H fv (f.map tie2) ∧ (f.map (·.1)).Nodup ∧ f.length ≤ 1000 ∧ GxR.TabG H pT ∧ ∀ w H', Kb H H' → RowsH H' w (answersOf (cutP p f)) → Q w H'
def spForced (pT : Addr) : Sp := fun vs H Q _ => ∃ u p fv f, vs = [u, fv] ∧ PzH H u p ∧ PzOk p ∧ RowsH H fv (f.map tie2) ∧ (f.map (·.1)).Nodup ∧ f.length ≤ 1000 ∧ GxR.TabG H pT ∧ ∀ H', Kb H H' → Q (.bl (decide ((answersOf (cutP p f)).length = (answersOf p).length))) H'
def spMoved : Sp := fun vs H Q _ => ∃ v r b, vs = [v, .int b] ∧ RuH H v r ∧ Small r ∧ ∀ w H', Same H H' → RuH H' w (moveR b r) → Q w H'
def spBeside : Sp := fun vs H Q _ => ∃ u p v q, vs = [u, v] ∧ PzH H u p ∧ PzH H v q ∧ p.doms.length + q.doms.length ≤ 1000 ∧ p.rules.length + q.rules.length ≤ 1000 ∧ (∀ r ∈ q.rules, Small r) ∧ ∀ w H', Same H H' → PzH H' w (besideP p q) → Q w H'
theorem cat_rows {K : PySem.W.Frag} {H : Hp} {x y : V} {rs ts : List (List Int)} (hx : RowsH H x rs) (hy : RowsH H y ts) (hl : rs.length + ts.length ≤ 1000) {Q : VK} (k : ∀ w H', Same H H' → RowsH H' w (rs ++ ts) → Q w H') : rCatA K x y H Q := by
  obtain ⟨a, vs, rfl, ha, pa⟩ := hx
  obtain ⟨b, us, rfl, hb, pb⟩ := hy
  have l1 := pa.length
  have l2 := pb.length
  refine ⟨a, b, vs, us, rfl, rfl, sqt ha, sqt hb, by rw [sizeLine_eq]; omega, fun e => ?_, fun e1 e2 => ?_, fun e1 e2 p hp => ?_⟩
  · subst e
    cases pa
    exact k _ _ (same_refl H) ⟨b, us, rfl, hb, pb⟩
  · subst e2
    cases pb
    rw [List.append_nil] at k
    exact k _ _ (same_refl H) ⟨a, vs, rfl, ha, pa⟩
  · exact k _ _ (same_new hp) ⟨p, _, rfl, upd_same, paired_mono (fun _ _ => IH.kt (kt_same (same_new hp))) (paired_app pa pb)⟩
theorem tail_cat {K : PySem.W.Frag} {H : Hp} {a T1 : Addr} {wd x c' : V} {rest : List V} (ha : H a = some (.tup (wd :: x :: rest))) (h1 : H T1 = some (.tup [wd, c'])) (hl : rest.length ≤ 1000) {Q : VK} (k : ∀ t H', Same H H' → H' t = some (.tup (wd :: c' :: rest)) → Q (.ref t) H') : rSlA K (.ref a) (some 2) none H fun z H2 => rCatA K (.ref T1) z H2 Q := by
  have e1 : HT.sIx (wd :: x :: rest).length 0 (some 2) = 2 := sIx_nat (n := (wd :: x :: rest).length) (j := 2) 0 (by simp)
  have e2 : HT.sIx (wd :: x :: rest).length (wd :: x :: rest).length none = (wd :: x :: rest).length := rfl
  refine ⟨a, _, rfl, sqt ha, fun e => ?_, fun e p hp => ?_⟩
  · rw [e1] at e
    exact absurd e.1 (by decide)
  · have ec : cutV (wd :: x :: rest) (some 2) none = rest := by
      unfold cutV
      rw [e1, e2]
      show rest.take _ = rest
      exact List.take_of_length_le (by simp)
    rw [ec]
    refine ⟨T1, p, [wd, c'], rest, rfl, rfl, sqt (upd_at hp h1), sqt upd_same, by show 2 + rest.length ≤ _; rw [sizeLine_eq]; omega, (fun e => nomatch e), fun _ er => ?_, fun _ _ q hq => ?_⟩
    · subst er
      exact k _ _ (same_new hp) (upd_at hp h1)
    · exact k _ _ (fun b o e => upd_at hq (upd_at hp e)) upd_same
section
variable {P : Program} {w : World} {K : PySem.W.Frag} {mg : Str → Option Value} {base : Heap} {f f1 f2 f3 : Addr} {fd fd1 fd2 fd3 : FuncData} {pT : Addr}
end
end G9

set_option Elab.async false
set_option linter.all false
set_option maxRecDepth 100000
set_option maxHeartbeats 4000000
/-! free_cells -/
namespace G9
open PySem PySem.Spec PyProof.Rows L2 GX
theorem anyK (K : PySem.W.Frag) {X : Cx} (hc : X.calm = true) (h : X.K = K := by rfl) : CallR X (.builtin "any") (rAny K) := h ▸ cr_any hc
theorem allK (K : PySem.W.Frag) {X : Cx} (hc : X.calm = true) (h : X.K = K := by rfl) : CallR X (.builtin "all") (rAll K) := h ▸ cr_all hc
noncomputable def isFree (p : Puz) (row : List Int) (c : Nat) : Bool := (answersOf p).any fun o => decide (o.getD c 0 ≠ row.getD c 0)
noncomputable def freeOf (p : Puz) (row : List Int) : List Nat := (List.range row.length).filter fun c => isFree p row c
def nI (l : List Nat) : List Int := l.map fun c => ((c : Nat) : Int)
def spFree (pT : Addr) : Sp := fun vs H Q _ => ∃ u p v row, vs = [u, v] ∧ PzH H u p ∧ PzOk p ∧ IH H v row ∧ row.length = p.doms.length ∧ GxR.TabG H pT ∧ ∀ w H', Kb H H' → IH H' w (nI (freeOf p row)) → Q w H'
theorem ans_len {p : Puz} {o : List Int} (h : o ∈ answersOf p) : o.length = p.doms.length := rowsOf_each _ _ rfl o (List.mem_filter.mp h).1
theorem ans_65 {p : Puz} (ok : PzOk p) : (answersOf p).length ≤ 65536 := Nat.le_trans (List.length_filter_le _ _) ok.rl
section
variable {P : Program} {w : World} {K : PySem.W.Frag} {mg : Str → Option Value} {base : Heap} {f f1 f2 f3 : Addr} {fd fd1 fd2 fd3 : FuncData} {pT : Addr}
end
end G9

set_option Elab.async false
set_option linter.all false
set_option maxRecDepth 100000
set_option maxHeartbeats 4000000
namespace G9
open PySem PySem.Spec PyProof.Rows L2 GX
/-- the source's dict -/
def srcK (cs : Addr) (l m t : Int) : List (Key × V) := [(.inr "cells", .ref cs), (.inr "left", .int l), (.inr "mixed", .int m), (.inr "turn", .int t)]
theorem kne (a b : Str) (h : ¬ a = b) : ¬ ((Sum.inr a : Key) = Sum.inr b) := fun e => h (Sum.inr.inj e)
theorem src_cells (cs : Addr) (l m t : Int) : valV (srcK cs l m t) (.inr "cells") = some (.ref cs) := valV_pos rfl
theorem src_left (cs : Addr) (l m t : Int) : valV (srcK cs l m t) (.inr "left") = some (.int l) := (valV_neg (kne _ _ (by decide +kernel))).trans (valV_pos rfl)
theorem src_mixed (cs : Addr) (l m t : Int) : valV (srcK cs l m t) (.inr "mixed") = some (.int m) := (valV_neg (kne _ _ (by decide +kernel))).trans ((valV_neg (kne _ _ (by decide +kernel))).trans (valV_pos rfl))
theorem src_turn (cs : Addr) (l m t : Int) : valV (srcK cs l m t) (.inr "turn") = some (.int t) := (valV_neg (kne _ _ (by decide +kernel))).trans ((valV_neg (kne _ _ (by decide +kernel))).trans ((valV_neg (kne _ _ (by decide +kernel))).trans (valV_pos rfl)))
theorem any_key {kvs : List (Key × V)} {k : Key} {v : V} (h : valV kvs k = some v) : (kvs.any fun kv => decide (kv.1 = k)) = true := by
  induction kvs with
  | nil => cases h
  | cons p r ih =>
    rw [List.any_cons]
    by_cases e : p.1 = k
    · rw [decide_eq_true e, Bool.true_or]
    · rw [valV_neg e] at h
      rw [ih h, Bool.or_true]
theorem put_left (cs : Addr) (l m t l2 : Int) : putK (srcK cs l m t) (.inr "left") (.int l2) = srcK cs l2 m t := by
  unfold putK
  rw [if_pos (any_key (src_left cs l m t))]
  show [if (Sum.inr ("cells" : Str) : Key) = Sum.inr ("left" : Str) then _ else _, if (Sum.inr ("left" : Str) : Key) = Sum.inr ("left" : Str) then _ else _, if (Sum.inr ("mixed" : Str) : Key) = Sum.inr ("left" : Str) then _ else _, if (Sum.inr ("turn" : Str) : Key) = Sum.inr ("left" : Str) then _ else _] = _
  rw [if_neg (kne _ _ (by decide +kernel)), if_pos rfl, if_neg (kne _ _ (by decide +kernel)), if_neg (kne _ _ (by decide +kernel))]
  all_goals rfl
abbrev kq (x : Str) : Key := Sum.inr x
theorem merge_src (cs : Addr) (l m t : Int) : mergeK [] (srcK cs l m t) = srcK cs l m t := by
  show putK (putK (putK (putK [] (kq "cells") (.ref cs)) (kq "left") (.int l)) (kq "mixed") (.int m)) (kq "turn") (.int t) = _
  rw [putK_new (kvs := []) (k := kq "cells") _ rfl]
  show putK (putK (putK [(kq "cells", V.ref cs)] (kq "left") (.int l)) (kq "mixed") (.int m)) (kq "turn") (.int t) = _
  rw [putK_new (kvs := [(kq "cells", V.ref cs)]) (k := kq "left") _ (valV_neg (kne _ _ (by decide +kernel)))]
  show putK (putK [(kq "cells", V.ref cs), (kq "left", .int l)] (kq "mixed") (.int m)) (kq "turn") (.int t) = _
  rw [putK_new (kvs := [(kq "cells", V.ref cs), (kq "left", .int l)]) (k := kq "mixed") _ ((valV_neg (kne _ _ (by decide +kernel))).trans (valV_neg (kne _ _ (by decide +kernel))))]
  show putK [(kq "cells", V.ref cs), (kq "left", .int l), (kq "mixed", .int m)] (kq "turn") (.int t) = _
  rw [putK_new (kvs := [(kq "cells", V.ref cs), (kq "left", .int l), (kq "mixed", .int m)]) (k := kq "turn") _ ((valV_neg (kne _ _ (by decide +kernel))).trans ((valV_neg (kne _ _ (by decide +kernel))).trans (valV_neg (kne _ _ (by decide +kernel)))))]
  rfl
theorem put_turn (cs : Addr) (l m t t2 : Int) : putK (srcK cs l m t) (.inr "turn") (.int t2) = srcK cs l m t2 := by
  unfold putK
  rw [if_pos (any_key (src_turn cs l m t))]
  show [if (Sum.inr ("cells" : Str) : Key) = Sum.inr ("turn" : Str) then _ else _, if (Sum.inr ("left" : Str) : Key) = Sum.inr ("turn" : Str) then _ else _, if (Sum.inr ("mixed" : Str) : Key) = Sum.inr ("turn" : Str) then _ else _, if (Sum.inr ("turn" : Str) : Key) = Sum.inr ("turn" : Str) then _ else _] = _
  rw [if_neg (kne _ _ (by decide +kernel)), if_neg (kne _ _ (by decide +kernel)), if_neg (kne _ _ (by decide +kernel)), if_pos rfl]
  all_goals rfl
/-- the source at d, its cells at cs -/
def SrcAt (H : Hp) (d cs : Addr) : Prop := ∃ (zs : List Int) (l m t : Int), H d = some (.dK (srcK cs l m t)) ∧ H cs = some (.lst (zs.map V.int)) ∧ zs.length ≤ 100 ∧ (∀ z ∈ zs, 0 ≤ z) ∧ 0 ≤ l ∧ 0 ≤ m ∧ 0 ≤ t
def spOpen (K : PySem.W.Frag) : Sp := fun vs H Q _ => ∃ (a : Addr) (ns : List Int), vs = [.ref a] ∧ SqL K H a (ns.map V.int) ∧ ns.length ≤ 63 ∧ ∀ d cs H', Same H H' → H d = none → H cs = none → SrcAt H' d cs → Q (.ref d) H'
def spPick : Sp := fun vs H Q _ => ∃ (d cs : Addr) (most : Int), vs = [.ref d, .int most] ∧ SrcAt H d cs ∧ most < 1073741824 ∧
  ∀ r H', (most < 2 → r = 0) → (2 ≤ most → 0 ≤ r ∧ r < most) → SrcAt H' d cs → (∀ b o, b ≠ d → b ≠ cs → H b = some o → H' b = some o) → Q (.int r) H'
section
variable {H : Hp} {d cs : Addr} {l m t : Int}
theorem g_cells (hd : H d = some (.dK (srcK cs l m t))) : DGet H d (.str "cells") (some (.ref cs)) := by
  have := DGet.k (k := (Sum.inr "cells" : Key)) hd
  rw [src_cells] at this
  exact this
theorem g_left (hd : H d = some (.dK (srcK cs l m t))) : DGet H d (.str "left") (some (.int l)) := by
  have := DGet.k (k := (Sum.inr "left" : Key)) hd
  rw [src_left] at this
  exact this
theorem g_mixed (hd : H d = some (.dK (srcK cs l m t))) : DGet H d (.str "mixed") (some (.int m)) := by
  have := DGet.k (k := (Sum.inr "mixed" : Key)) hd
  rw [src_mixed] at this
  exact this
theorem g_turn (hd : H d = some (.dK (srcK cs l m t))) : DGet H d (.str "turn") (some (.int t)) := by
  have := DGet.k (k := (Sum.inr "turn" : Key)) hd
  rw [src_turn] at this
  exact this
theorem p_left (l2 : Int) (hd : H d = some (.dK (srcK cs l m t))) : DPut H d (.str "left") (.int l2) (upd H d (.dK (srcK cs l2 m t))) := by
  have := DPut.k (k := (Sum.inr "left" : Key)) (v := .int l2) hd (by show 4 < sizeLine; decide)
  rw [put_left] at this
  exact this
theorem p_turn (t2 : Int) (hd : H d = some (.dK (srcK cs l m t))) : DPut H d (.str "turn") (.int t2) (upd H d (.dK (srcK cs l m t2))) := by
  have := DPut.k (k := (Sum.inr "turn" : Key)) (v := .int t2) hd (by show 4 < sizeLine; decide)
  rw [put_turn] at this
  exact this
end
structure TxtO (K : PySem.W.Frag) (mg : Str → Option Value) (fOpen fPick : Addr) (dOpen dPick : FuncData) : Prop where
  FOpen : Fun K "_law_open_cells" "_law_open_cells" sOpen fOpen dOpen
  bOpen : Binds K dOpen ["_law_script"] []
  gOpen : mg "_law_open_cells" = some (.ref fOpen)
  FPick : Fun K "_law_pick" "_law_pick" sPick fPick dPick
  bPick : Binds K dPick ["_law_source", "_law_most"] []
  gPick : mg "_law_pick" = some (.ref fPick)
  abs : mg "abs" = none
  int : mg "int" = none
  len : mg "len" = none
section
variable {P : Program} {w : World} {K : PySem.W.Frag} {mg : Str → Option Value} {base : Heap} {fOpen fPick : Addr} {dOpen dPick : FuncData}
theorem ok_pick (T : TxtO K mg fOpen fPick dOpen dPick) : FnOk P w K mg base CX0 1 fPick dPick ["_law_source", "_law_most"] spPick := by
  refine T.FPick.ok scPick (fun vs H Q E h => ?_) (fun cdv A outer s H vs Q E hr h => ?_)
  · obtain ⟨d, cs, most, rfl, _⟩ := h
    rfl
  · obtain ⟨d, cs, most, rfl, ⟨zs, l, m, t, hd, hcs, hzl, hz, hl, hm, ht⟩, hmo, k⟩ := h
    have hu := hu_of hr
    have ncd : cs ≠ d := ne_of hcs hd (by intro z; cases z)
    refine ⟨_, pss_cons (ps_if (pt_cmpR op_lt (pv 1) pe_int (nomark _)) (pss_one (ps_ret pe_int)) pss_nil)
      (pss_cons (ps_set (i := 2) scPick.nd rfl (.inl rfl) (pe_dget hu (pv 0) pe_str (fun _ _ => rfl)))
      (pss_cons (ps_while PassesOwn.never (pw_and (pt_cmpR op_lt (pe_dget hu (pv 0) pe_str (fun _ _ => rfl)) pe_int (nomark _)) (pw_and1 (pt_cmpR op_gt (pe_callB call_len_seq (by rfl) T.len PySem.boot_len (pa_cons (pv 2) pa_nil)) pe_int (nomark _)))).pt
        (pss_one (ps_dput hu (pv 0) pe_str (pe_bm0 PySem.F.plainAttrs_list PySem.F.slot_list_pop PySem.F.type_list_pop mt_pop (pv 2)) rfl)))
      (pss_cons (ps_set (i := 3) scPick.nd rfl (.inl rfl) (pe_dget hu (pv 0) pe_str (fun _ _ => rfl)))
      (pss_cons (ps_if (pt_cmpR op_gt (pv 3) pe_int (nomark _))
        (pss_cons (ps_dput hu (pv 0) pe_str (pe_op op_fdiv (pv 3) (pv 1)) rfl)
        (pss_one (ps_ret (pe_op op_mod (pe_callTy call_int1 (by rfl) T.int PyProof.Rows.boot_int (pa_cons (pv 3) pa_nil)) (pv 1))))) pss_nil)
      (pss_cons (ps_dput hu (pv 0) pe_str (pe_op op_add (pe_dget hu (pv 0) pe_str (fun _ _ => rfl)) pe_int) rfl)
      (pss_cons (ps_set (i := 4) scPick.nd rfl (.inl rfl) (pe_dget hu (pv 0) pe_str (fun _ _ => rfl)))
      (pss_cons (ps_set (i := 5) scPick.nd rfl (.inl rfl) (pe_op op_mod (pe_callTy call_int1 (by rfl) T.int PyProof.Rows.boot_int (pa_cons (pe_op op_add (pe_dget hu (pv 0) pe_str (fun _ _ => rfl)) (pe_op op_mul (pv 4) pe_int)) pa_nil)) pe_int))
      (pss_cons (ps_set (i := 5) scPick.nd rfl (.inl rfl) (pe_op op_mod (pe_callTy call_int1 (by rfl) T.int PyProof.Rows.boot_int (pa_cons (pe_op op_add (pe_op op_mul (pv 5) (pv 5)) (pe_op op_mul (pv 4) pe_int)) pa_nil)) pe_int))
      (pss_one (ps_ret (pe_op op_mod (pe_callTy call_int1 (by rfl) T.int PyProof.Rows.boot_int (pa_cons (pe_op op_fdiv (pv 5) pe_int) pa_nil)) (pv 1)))))))))))), ?_⟩
    -- if most < 2
    refine ⟨_, rfl, _, _, rfl, rfl, _, rfl, ?_⟩
    by_cases h2 : most < 2
    · refine ifT (decide_eq_true h2) ?_
      exact k 0 H (fun _ => rfl) (fun z => absurd h2 (by omega)) ⟨zs, l, m, t, hd, hcs, hzl, hz, hl, hm, ht⟩ fun b o _ _ e => e
    · refine ifF (decide_eq_false h2) ?_
      refine ⟨_, rfl, d, _, rfl, g_cells hd, ?_⟩
      refine ⟨fun n σ H' => ∃ (zs : List Int) (l : Int), n = zs.length ∧ σ = [some (.ref d), some (.int most), some (.ref cs), none, none, none] ∧ H' d = some (.dK (srcK cs l m t)) ∧ H' cs = some (.lst (zs.map V.int)) ∧ zs.length ≤ 100 ∧ (∀ z ∈ zs, 0 ≤ z) ∧ 0 ≤ l ∧ (∀ b o, b ≠ d → b ≠ cs → H b = some o → H' b = some o),
        ⟨_, zs, l, rfl, rfl, hd, hcs, hzl, hz, hl, fun b o _ _ e => e⟩, fun n σ H' hW => ?_⟩
      clear hd hcs hzl hz hl
      obtain ⟨zs, l, rfl, rfl, hd, hcs, hzl, hz, hl, hk⟩ := hW
      suffices fin : _ by
        refine ⟨_, rfl, d, _, rfl, g_left hd, _, _, rfl, rfl, _, rfl, ?_⟩
        by_cases c1 : l < 2
        · refine ifT (decide_eq_true c1) ?_
          refine ⟨_, rfl, cs, _, rfl, .inl (.inl (.inl hcs)), _, _, rfl, rfl, _, rfl, ?_⟩
          rw [List.length_map]
          by_cases c2 : zs = []
          · subst c2
            exact ifF rfl fin
          · have hpos : 0 < zs.length := List.length_pos_iff.mpr c2
            refine ifT (decide_eq_true (by omega)) ?_
            refine ⟨fun σ' H'' => ∃ (zs' : List Int) (l : Int), zs'.length < zs.length ∧ σ' = [some (.ref d), some (.int most), some (.ref cs), none, none, none] ∧ H'' d = some (.dK (srcK cs l m t)) ∧ H'' cs = some (.lst (zs'.map V.int)) ∧ zs'.length ≤ 100 ∧ (∀ z ∈ zs', 0 ≤ z) ∧ 0 ≤ l ∧ (∀ b o, b ≠ d → b ≠ cs → H b = some o → H'' b = some o), fun σ' H'' hN => ?_, ?_⟩
            · obtain ⟨zs', l', h1, h3⟩ := hN
              exact ⟨zs'.length, h1, zs', l', rfl, h3⟩
            have hlast : (zs.map V.int)[(zs.map V.int).length - 1]? = some (.int (zs.getLast c2)) := by
              rw [List.length_map, List.getElem?_map, ← List.getLast?_eq_getElem?, List.getLast?_eq_getLast c2]
              rfl
            refine ⟨_, rfl, .inl ⟨rfl, _, .inl (.inl hcs)⟩, cs, _, _, rfl, rfl, hcs, hlast, _, rfl, d, _, rfl, p_left _ (by rw [upd_ne ncd.symm]; exact hd), ?_⟩
            refine ⟨zs.dropLast, zs.getLast c2, ?_, rfl, upd_same, ?_, ?_, ?_, hz _ (List.getLast_mem c2), fun b o h1 h3 e => ?_⟩
            · rw [List.length_dropLast]
              omega
            · rw [upd_ne ncd, upd_same, List.map_dropLast]
            · rw [List.length_dropLast]
              omega
            · exact fun z hzm => hz z (List.dropLast_subset zs hzm)
            · rw [upd_ne h1, upd_ne h3]
              exact hk b o h1 h3 e
        · exact ifF (decide_eq_false c1) fin
      have old : ∀ (H2 : Hp), (∀ b, b ≠ d → H2 b = H' b) → ∀ b o, b ≠ d → b ≠ cs → H b = some o → H2 b = some o := fun H2 h b o h1 h3 e => (h b h1).trans (hk b o h1 h3 e)
      refine ⟨_, rfl, d, _, rfl, g_left hd, ?_⟩
      refine ⟨_, rfl, _, _, rfl, rfl, _, rfl, ?_⟩
      by_cases c3 : 1 < l
      · refine ifT (decide_eq_true c3) ?_
        refine ⟨_, rfl, _, rfl, _, _, rfl, rfl, ⟨by omega, hmo⟩, _, rfl, d, _, rfl, p_left _ hd, ?_⟩
        refine ⟨_, rfl, .inl ⟨_, rfl, _, rfl, _, _, rfl, rfl, (by show (0 : Int) < most; omega), ?_⟩⟩
        refine k _ _ (fun z => absurd z h2) (fun _ => ⟨Int.emod_nonneg _ (by omega), Int.emod_lt_of_pos _ (by omega)⟩) ⟨zs, l / most, m, t, upd_same, by rw [upd_ne ncd]; exact hcs, hzl, hz, Int.ediv_nonneg hl (by omega), hm, ht⟩ (old _ fun b hb => upd_ne hb)
      · refine ifF (decide_eq_false c3) ?_
        refine ⟨_, rfl, d, _, rfl, g_turn hd, _, _, rfl, rfl, _, rfl, d, _, rfl, p_turn _ hd, ?_⟩
        generalize hH2 : upd H' d (.dK (srcK cs l m (t + 1))) = H2
        have hd2 : H2 d = some (.dK (srcK cs l m (t + 1))) := by rw [← hH2, upd_same]
        have hcs2 : H2 cs = some (.lst (zs.map V.int)) := by rw [← hH2, upd_ne ncd]; exact hcs
        have ho2 := old H2 fun b hb => by rw [← hH2, upd_ne hb]
        clear hH2
        refine ⟨_, rfl, d, _, rfl, g_turn hd2, ?_⟩
        refine ⟨_, rfl, d, _, rfl, g_mixed hd2, _, rfl, _, _, rfl, rfl, .inr ⟨by decide, by decide⟩, _, _, rfl, rfl, .inl ⟨_, rfl, _, _, rfl, rfl, (by show (0 : Int) < 998244353; decide), ?_⟩⟩
        have b1 := Int.emod_nonneg (m + (t + 1) * 104729) (show (998244353 : Int) ≠ 0 by decide)
        have b2 := Int.emod_lt_of_pos (m + (t + 1) * 104729) (show (0 : Int) < 998244353 by decide)
        generalize (m + (t + 1) * 104729) % 998244353 = z1 at b1 b2 ⊢
        refine ⟨_, rfl, _, rfl, _, _, rfl, rfl, .inl ⟨by omega, by omega⟩, _, rfl, _, _, rfl, rfl, .inr ⟨by decide, by decide⟩, _, _, rfl, rfl, .inl ⟨_, rfl, _, _, rfl, rfl, (by show (0 : Int) < 2147483647; decide), ?_⟩⟩
        generalize (z1 * z1 + (t + 1) * 17) % 2147483647 = z2
        refine ⟨_, rfl, _, _, rfl, rfl, ⟨by decide, by decide⟩, .inl ⟨_, rfl, _, rfl, _, _, rfl, rfl, (by show (0 : Int) < most; omega), ?_⟩⟩
        exact k _ _ (fun z => absurd z h2) (fun _ => ⟨Int.emod_nonneg _ (by omega), Int.emod_lt_of_pos _ (by omega)⟩) ⟨zs, l, m, t + 1, hd2, hcs2, hzl, hz, hl, hm, by omega⟩ ho2
theorem ok_open (T : TxtO K mg fOpen fPick dOpen dPick) : FnOk P w K mg base CX0 1 fOpen dOpen ["_law_script"] (spOpen K) := by
  refine T.FOpen.ok scOpen (fun vs H Q E h => ?_) (fun cdv A outer s H vs Q E hr h => ?_)
  · obtain ⟨a, ns, rfl, _⟩ := h
    rfl
  · obtain ⟨a, ns, rfl, ha, hl, k⟩ := h
    have hu := hu_of hr
    refine ⟨_, pss_cons (ps_set (i := 1) scOpen.nd rfl (.inl rfl) pe_int)
      (pss_cons (ps_for PassesOwn.never rfl (pi_list (pv 0)) (pg_name (i := 2) scOpen.nd rfl (.inl rfl))
        (pss_one (ps_set (i := 1) scOpen.nd rfl (.inl rfl) (pe_op op_mod (pe_callTy call_int1 (by rfl) T.int PyProof.Rows.boot_int (pa_cons (pe_op op_add (pe_op op_add (pe_op op_mul (pv 1) pe_int) (pe_op op_mul (pv 2) pe_int)) pe_int) pa_nil)) pe_int))))
      (pss_cons (ps_setLc (i := 3) (own := [("_law_cell", 2)]) (g := gName 2) (tt := tYes) rfl scOpen.nd rfl rfl (sw_true rfl rfl rfl (by decide +kernel)) (pi_list (pv 0)) (blkOk_by (N := ["_law_script", "_law_stirred", "_law_cell", "_law_cells"]) (sc := defScope sOpen) (by decide +kernel))
          (fun _ _ _ _ _ => pg_name (i := 2) scOpen.nd rfl (.inl rfl)) (fun _ _ _ _ _ => pts_nil) (fun _ _ _ _ _ => pe_callB call_abs (by rfl) T.abs PyProof.Rows.boot_abs (pa_cons (pv 2) pa_nil)))
      (pss_one (ps_ret (pe_disp (pps_cons pe_str (pe_revL (pv 3)) (pps_cons pe_str pe_int (pps_cons pe_str (pv 1) (pps_cons pe_str pe_int pps_nil)))) rfl rfl (by decide) (by decide)))))), ?_⟩
    -- the loop
    refine ⟨_, rfl, a, rfl, ⟨_, ha⟩, for_list (K := K) (a := a) (xs := ns.map V.int) (fun i σ H' => ∃ (st : Int) (v : Option V), σ = [some (.ref a), some (.int st), v, none] ∧ 0 ≤ st ∧ H' = H) ⟨11, none, rfl, by decide, rfl⟩ (fun i σ H' _ h => ?_) (fun i x σ H' hx h => ?_) (fun σ H' h => ?_)⟩
    · obtain ⟨st, v, rfl, _, rfl⟩ := h
      exact ha
    · obtain ⟨st, v, rfl, h0, rfl⟩ := h
      obtain ⟨z, hz, rfl⟩ : ∃ z, ns[i]? = some z ∧ x = V.int z := by
        rw [List.getElem?_map] at hx
        cases e : ns[i]? with
        | none =>
          rw [e] at hx
          cases hx
        | some z =>
          rw [e] at hx
          exact ⟨z, rfl, (Option.some.inj hx).symm⟩
      refine ⟨_, rfl, _, _, rfl, rfl, .inr ⟨by decide, by decide⟩, _, rfl, _, _, rfl, rfl, .inr ⟨by decide, by decide⟩, _, _, rfl, rfl, _, _, rfl, rfl, .inl ⟨_, rfl, _, _, rfl, rfl, (by show (0 : Int) < 2147483629; decide), _, some (.int z), rfl, Int.emod_nonneg _ (by decide), rfl⟩⟩
    obtain ⟨st, v, rfl, h0, rfl⟩ := h
    -- the cells
    let ab : Int → Int := fun i => if i < 0 then -i else i
    refine ⟨_, rfl, a, rfl, ⟨_, ha⟩, fun D hD => ?_⟩
    have hseq : ∀ i, SqL K (upd H' D (.lst (((ns.take i).map ab).map V.int))) a (ns.map V.int) := fun i => (show Same H' (upd H' D (.lst (((ns.take i).map ab).map V.int))) from fun b o e => by
      rw [upd_ne (ne_of_none e hD)]
      exact e).seq ha
    refine lc_list (K := K) (a := a) (xs := ns.map V.int) (fun i H2 => H2 = upd H' D (.lst (((ns.take i).map ab).map V.int))) rfl (fun i H2 _ h => ?_) (fun i x H2 hx h => ?_) (fun H2 h => ?_)
    · rw [h]
      exact hseq i
    · obtain ⟨z, hz, rfl⟩ : ∃ z, ns[i]? = some z ∧ x = V.int z := by
        rw [List.getElem?_map] at hx
        cases e : ns[i]? with
        | none =>
          rw [e] at hx
          cases hx
        | some z =>
          rw [e] at hx
          exact ⟨z, rfl, (Option.some.inj hx).symm⟩
      have hlt := (List.getElem?_eq_some_iff.mp hz).1
      subst h
      refine ⟨rfl, ?_⟩
      refine ⟨_, rfl, z, rfl, _, upd_same, ?_, ?_⟩
      · rw [List.length_map, List.length_map, List.length_take, sizeLine_eq]
        omega
      · rw [upd_upd, List.take_add_one, hz, List.map_append, List.map_append]
        rfl
    · rw [List.length_map, List.take_length] at h
      subst h
      -- the dict
      have hz : ∀ z ∈ (ns.map ab).reverse, (0 : Int) ≤ z := fun z hm => by
        obtain ⟨y, hy, rfl⟩ := List.mem_map.mp (List.mem_reverse.mp hm)
        show 0 ≤ (if y < 0 then -y else y)
        split <;> omega
      refine fun p hp => ?_
      have npD : D ≠ p := ne_of_none upd_same hp
      have hDp : upd (upd H' D (.lst ((ns.map ab).map V.int))) p (.dK []) D = some (.lst ((ns.map ab).map V.int)) := by rw [upd_ne npD, upd_same]
      refine ⟨_, rfl, D, _, rfl, .inl (.inl hDp), fun cs hcs => ?_⟩
      have npc : p ≠ cs := ne_of_none upd_same hcs
      have nDc : D ≠ cs := ne_of_none hDp hcs
      have hcs0 : H' cs = none := by
        rw [upd_ne npc.symm, upd_ne nDc.symm] at hcs
        exact hcs
      have hp0 : H' p = none := by
        rw [upd_ne npD.symm] at hp
        exact hp
      refine ⟨_, rfl, by rw [upd_ne npc, upd_same], srcK cs 1 st 0, rfl, (by show 4 ≤ 15; decide), ?_⟩
      rw [merge_src]
      refine k p cs _ (fun b o e => ?_) hp0 hcs0 ⟨(ns.map ab).reverse, 1, st, 0, upd_same, by rw [upd_ne npc.symm, upd_same, List.map_reverse], by rw [List.length_reverse, List.length_map]; omega, hz, by decide, h0, by decide⟩
      rw [upd_ne (ne_of_none e hp0), upd_ne (ne_of_none e hcs0), upd_ne (ne_of_none e hp0), upd_ne (ne_of_none e hD)]
      exact e
end
end G9

set_option Elab.async false
set_option linter.all false
set_option maxRecDepth 100000
set_option maxHeartbeats 4000000
/-! the law's answers with a part -/
namespace G9
open PySem PySem.Spec PyProof.Rows L2 GX
def holds (f : List (Int × Int)) (row : List Int) : Bool := f.all fun q => decide (row.getD q.1.toNat 0 = q.2)
noncomputable def withOf (p : Puz) (f : List (Int × Int)) : List (List Int) := (answersOf p).filter fun row => holds f row
def spWith : Sp := fun vs H Q _ => ∃ u p fv f, vs = [u, fv] ∧ PzH H u p ∧ PzOk p ∧ RowsH H fv (f.map tie2) ∧ (∀ q ∈ f, 0 ≤ q.1 ∧ q.1 < (p.doms.length : Int)) ∧ f.length ≤ 1000 ∧ ∀ l H', Same H H' → H l = none → LRows H' (.ref l) (withOf p f) → Q (.ref l) H'
section
variable {P : Program} {w : World} {K : PySem.W.Frag} {mg : Str → Option Value} {base : Heap} {f f1 f2 f3 : Addr} {fd fd1 fd2 fd3 : FuncData} {pT : Addr}
end
end G9

set_option Elab.async false
set_option linter.all false
set_option maxRecDepth 100000
set_option maxHeartbeats 4000000
/-! the law's any_order -/
namespace G9
open PySem PySem.Spec PyProof.Rows L2 GX
/-- all but the source stays -/
def Rn (d cs : Addr) (H H' : Hp) : Prop := ∀ b o, b ≠ d → b ≠ cs → H b = some o → H' b = some o
theorem Rn.refl (d cs : Addr) (H : Hp) : Rn d cs H H := fun _ _ _ _ e => e
theorem Rn.trans {d cs : Addr} {A B C : Hp} (h : Rn d cs A B) (g : Rn d cs B C) : Rn d cs A C := fun b o h1 h2 e => g b o h1 h2 (h b o h1 h2 e)
theorem rn_same {d cs : Addr} {H H' : Hp} (h : Same H H') : Rn d cs H H' := fun b o _ _ e => h b o e
theorem SrcAt.ne {H : Hp} {d cs b : Addr} {xs : List V} (h : SrcAt H d cs) (hb : H b = some (.tup xs)) : b ≠ d ∧ b ≠ cs := by
  obtain ⟨zs, l, m, t, hd, hcs, _⟩ := h
  exact ⟨ne_of hb hd (fun z => by cases z), ne_of hb hcs (fun z => by cases z)⟩
theorem Rn.kt {d cs : Addr} {H H' : Hp} (hs : SrcAt H d cs) (h : Rn d cs H H') : Kt H H' := fun b xs e => h b _ (hs.ne e).1 (hs.ne e).2 e
theorem SrcAt.same {H H' : Hp} {d cs : Addr} (h : SrcAt H d cs) (k : Same H H') : SrcAt H' d cs := by
  obtain ⟨zs, l, m, t, hd, hcs, r⟩ := h
  exact ⟨zs, l, m, t, k _ _ hd, k _ _ hcs, r⟩
theorem SrcAt.kb {H H' : Hp} {d cs : Addr} (h : SrcAt H d cs) (k : Kb H H') : SrcAt H' d cs := by
  obtain ⟨zs, l, m, t, hd, hcs, r⟩ := h
  exact ⟨zs, l, m, t, k.1 _ _ (fun ps z => by cases z) hd, k.1 _ _ (fun ps z => by cases z) hcs, r⟩
theorem SrcAt.none {H : Hp} {d cs b : Addr} (h : SrcAt H d cs) (hb : H b = none) : b ≠ d ∧ b ≠ cs := by
  obtain ⟨zs, l, m, t, hd, hcs, _⟩ := h
  exact ⟨(ne_of_none hd hb).symm, (ne_of_none hcs hb).symm⟩
theorem SrcAt.upd {H : Hp} {d cs b : Addr} {o : HO} (h : SrcAt H d cs) (h1 : b ≠ d) (h2 : b ≠ cs) : SrcAt (upd H b o) d cs := by
  obtain ⟨zs, l, m, t, hd, hcs, r⟩ := h
  exact ⟨zs, l, m, t, by rw [upd_ne h1.symm]; exact hd, by rw [upd_ne h2.symm]; exact hcs, r⟩
theorem lenK (K : PySem.W.Frag) {X : Cx} (h : X.K = K := by rfl) : CallR X (.builtin "len") (fun xs H Q => ∃ p ys, xs = [.ref p] ∧ (SqL K H p ys ∨ SqT K H p ys) ∧ Q (.int ys.length) H) := h ▸ call_len_seq
theorem erase_map {α β : Type} (g : α → β) : ∀ (l : List α) (i : Nat), (l.map g).eraseIdx i = (l.eraseIdx i).map g
  | [], _ => rfl
  | a :: l, 0 => rfl
  | a :: l, i + 1 => congrArg (g a :: ·) (erase_map g l i)
theorem erase_perm {α : Type} : ∀ {l : List α} {i : Nat} (h : i < l.length), (l[i] :: l.eraseIdx i).Perm l
  | a :: l, 0, _ => .refl _
  | a :: l, i + 1, h => (List.Perm.swap a _ _).trans (.cons a (erase_perm (l := l) (i := i) (by simpa using h)))
def spOrder : Sp := fun vs H Q _ => ∃ d cs tv ns, vs = [.ref d, tv] ∧ SrcAt H d cs ∧ IL H tv ns ∧ ns.length ≤ 1000 ∧ ∀ (l : Addr) (ns' : List Int) (H' : Hp), ns'.Perm ns → SrcAt H' d cs → Rn d cs H H' → H l = none → H' l = some (.lst (ns'.map V.int)) → Q (.ref l) H'
section
variable {P : Program} {w : World} {K : PySem.W.Frag} {mg : Str → Option Value} {base : Heap} {f fP : Addr} {fd dP : FuncData}
theorem ok_order (B : Bl mg) (D : Df K mg "_law_any_order" sOrder ["_law_source", "_law_things"] f fd) (DP : Df K mg "_law_pick" sPick ["_law_source", "_law_most"] fP dP) (GP : FnOk P w K mg base CX0 1 fP dP ["_law_source", "_law_most"] spPick) : FnOk P w K mg base CX0 3 f fd ["_law_source", "_law_things"] spOrder := by
  refine D.F.ok scOrder (fun vs H Q E h => ?_) (fun cdv A outer s H vs Q E hr h => ?_)
  · obtain ⟨d, cs, tv, ns, rfl, _⟩ := h
    rfl
  · obtain ⟨d, cs, tv, ns, rfl, hs, ht, hn, k⟩ := h
    refine ⟨_, pss_cons (ps_set (i := 2) scOrder.nd rfl (.inr rfl) (pe_callTy call_list_of (by rfl) B.list PyProof.Rows.boot_list (pa_cons (pv 1) pa_nil)))
      (pss_one (ps_ret (pe_lc (own := [("_law_lap", 3)]) rfl scOrder.nd (pi_range1 (by rfl) B.range (pa_cons (pe_callB call_len_seq (by rfl) B.len PySem.boot_len (pa_cons (pv 2) pa_nil)) pa_nil)) (blkOk_by (N := ["_law_source", "_law_things", "_law_others", "_law_lap"]) (sc := defScope sOrder) (by decide +kernel))
        (fun _ _ _ _ _ => pg_name (i := 3) scOrder.nd rfl (.inl rfl)) (fun _ _ _ _ _ => pts_nil)
        (fun _ _ _ _ _ => (show PE _ _ (tBM K "list" rPopAt _ _) from pe_bm PySem.F.plainAttrs_list PySem.F.slot_list_pop PySem.F.type_list_pop mt_popAt (pv 2) (pa_cons (pe_call GP (hr.mono (by decide)) (by rfl) DP.g DP.F.kp DP.b .nil pass0 (pa_cons (pv 0) (pa_cons (pe_callB (lenK K) (by rfl) B.len PySem.boot_len (pa_cons (pv 2) pa_nil)) pa_nil))) pa_nil)))))), ?_⟩
    obtain ⟨ta, rfl, hta⟩ := ht
    refine ⟨_, rfl, ta, _, rfl, .inl (sql hta), fun ot hot => ?_⟩
    have n1 := hs.none hot
    refine ⟨_, rfl, ot, _, rfl, .inl (sql upd_same), _, rfl, by omega, by rw [List.length_map]; omega, fun L hL => ?_⟩
    have hs1 : SrcAt (upd H ot (.lst (ns.map V.int))) d cs := hs.upd n1.1 n1.2
    have n2 := hs1.none hL
    have n3 : ot ≠ L := ne_of_none upd_same hL
    have hLH : H L = none := none_under hL
    rw [List.length_map]
    refine lc_it (walk_range (lo := 0) (n := ((ns.length : Nat) : Int).toNat)) (fun i H' => ∃ done rest : List Int, H' ot = some (.lst (rest.map V.int)) ∧ H' L = some (.lst (done.map V.int)) ∧ (done ++ rest).Perm ns ∧ rest.length + i = ns.length ∧ SrcAt H' d cs ∧ Rn d cs H H')
      ⟨[], ns, upd_at hL upd_same, upd_same, .refl _, rfl, hs1.upd n2.1 n2.2, fun b o _ _ e => upd_at hL (upd_at hot e)⟩ (fun i H' _ h => trivial) (fun i x H' H'' hi h y => ?_) (fun H' h => ?_)
    · obtain ⟨done, rest, hO, hLd, pm, rl, hs', rn⟩ := h
      obtain ⟨rfl, rfl⟩ := y
      have ilt : i < ns.length := by rw [Int.toNat_natCast] at hi; exact hi
      have dl : done.length ≤ ns.length := by
        have := pm.length_eq
        rw [List.length_append] at this
        omega
      refine ⟨rfl, _, rfl, .inl ⟨rfl, _, sql hO⟩, _, rfl, _, rfl, ot, _, rfl, .inl (sql hO), d, cs, _, rfl, hs', by rw [List.length_map]; omega, fun r H1 r0 r1 hs2 rn2 => ?_⟩
      rw [List.length_map] at r0 r1
      have rb : 0 ≤ r ∧ r < (rest.length : Int) := by
        by_cases h2 : (rest.length : Int) < 2
        · have := r0 h2
          omega
        · exact r1 (by omega)
      have hO1 : H1 ot = some (.lst (rest.map V.int)) := rn2 _ _ n1.1 n1.2 hO
      have hL1 : H1 L = some (.lst (done.map V.int)) := rn2 _ _ n2.1 n2.2 hLd
      have rlt : r.toNat < rest.length := by omega
      refine ⟨ot, _, r, r.toNat, .int (rest[r.toNat]'rlt), rfl, rfl, hO1, by omega, by omega, ?_, ?_, ?_⟩
      · rw [List.length_map]
        exact seqIndex_of rb.1 rb.2
      · rw [List.getElem?_map, List.getElem?_eq_getElem rlt]
        rfl
      · have hL2 : upd H1 ot (.lst ((rest.map V.int).eraseIdx r.toNat)) L = some (.lst (done.map V.int)) := by rw [upd_ne n3.symm]; exact hL1
        refine ⟨_, hL2, by rw [List.length_map, sizeLine_eq]; omega, done ++ [rest[r.toNat]'rlt], rest.eraseIdx r.toNat, ?_, ?_, ?_, ?_, (hs2.upd n1.1 n1.2).upd n2.1 n2.2, fun b o h1 h2 e => ?_⟩
        · rw [upd_ne n3, upd_same, erase_map]
        · rw [upd_same, List.map_append]
          rfl
        · refine .trans ?_ pm
          rw [List.append_assoc]
          exact .append_left _ (erase_perm rlt)
        · rw [List.length_eraseIdx_of_lt rlt]
          omega
        · rw [upd_ne (fun z => by rw [z, hLH] at e; cases e), upd_ne (fun z => by rw [z, hot] at e; cases e)]
          exact rn2 b o h1 h2 (rn b o h1 h2 e)
    · obtain ⟨done, rest, hO, hLd, pm, rl, hs', rn⟩ := h
      rw [Int.toNat_natCast] at rl
      have : rest = [] := List.eq_nil_of_length_eq_zero (by omega)
      subst this
      rw [List.append_nil] at pm
      exact k L done H' pm hs' rn hLH hLd
end
end G9

set_option Elab.async false
set_option linter.all false
set_option maxRecDepth 100000
set_option maxHeartbeats 4000000
/-! the law's drawn parts -/
namespace G9
open PySem PySem.Spec PyProof.Rows L2 GX
/-- a part of a puzzle -/
structure PartOk (p : Puz) (f : List (Int × Int)) : Prop where
  nd : (f.map (·.1)).Nodup
  cell : ∀ q ∈ f, 0 ≤ q.1 ∧ q.1 < (p.doms.length : Int)
  val : ∀ q ∈ f, q.2 ∈ p.doms.getD q.1.toNat []
  len : f.length ≤ 1000
def spDrawPart : Sp := fun vs H Q _ => ∃ d cs u p most, vs = [.ref d, u, .int most] ∧ SrcAt H d cs ∧ PzH H u p ∧ PzOk p ∧ 0 ≤ most ∧ most ≤ 1000 ∧ ∀ w f H', PartOk p f → SrcAt H' d cs → Rn d cs H H' → RowsH H' w (f.map tie2) → Q w H'
theorem paired_map {α β γ : Type} {R : α → γ → Prop} {g : β → γ} : ∀ {vs : List α} {f : List β}, Paired (fun x q => R x (g q)) vs f → Paired R vs (f.map g)
  | _, _, .nil => .nil
  | _, _, .cons a r => .cons a (paired_map r)
theorem rgV_nI (n : Nat) : rgV 0 (n : Int) = (nI (List.range n)).map V.int := by
  unfold rgV nI
  simp
theorem cut_take (xs : List V) {r : Int} (h : 0 ≤ r) : cutV xs none (some r) = xs.take r.toNat := by
  unfold cutV
  have e0 : HT.sIx xs.length 0 none = 0 := rfl
  have e1 : HT.sIx xs.length xs.length (some r) = min r.toNat xs.length := by
    unfold HT.sIx
    simp
    omega
  rw [e0, e1, List.drop_zero, Nat.sub_zero]
  by_cases z : r.toNat ≤ xs.length
  · rw [Nat.min_eq_left z]
  · rw [Nat.min_eq_right (by omega), List.take_length, List.take_of_length_le (by omega)]
section
variable {P : Program} {w : World} {K : PySem.W.Frag} {mg : Str → Option Value} {base : Heap} {f fP fO : Addr} {fd dP dO : FuncData}
end
end G9

set_option Elab.async false
set_option linter.all false
set_option maxRecDepth 100000
set_option maxHeartbeats 4000000
/-! sorted(t), t a tuple of ints -/
namespace GX
open PySem PySem.Spec PyProof.Rows L2
section
variable {prog : Program} {w : World} {A : Around} {E : Value → Shared → Prop} {s : Shared}
theorem collect_tup {t : Addr} {us : List Value} {Q : List Value → Shared → Prop} (ht : s.heap.IsTuple t us.toArray) (small : us.length ≤ sizeLine)
    (fin : Q us { s with heap := (s.heap.push (seqObj "list" #[] 0)).update s.heap.objs.size (Obj.mapSeq (· ++ us.toArray)) }) : wpAny (model prog w) A (collect (.ref t)) Q E s := by
  obtain ⟨ob, at_, cls, n, dat⟩ := id ht
  have new0 : (s.heap.push (seqObj "list" #[] 0)).get? s.heap.objs.size = some (seqObj "list" #[] 0) := Heap.get?_push_size _ rfl
  have old : (s.heap.push (seqObj "list" #[] 0)).get? t = some ob := Heap.get?_push_of_some _ at_
  unfold collect
  refine wpAny_bind (wpAny_runValue (codeAny_builtin entry_proto_collect' ?_))
  show wpAny _ _ (newList [] >>= _) _ _ s
  refine wpAny_bind (wpAny_newList (wpAny_pure ⟨Code.quiet_builtin _ (by decide +kernel), codeAny_builtin entry_list_iadd' ?_⟩))
  show wpAny _ _ (Builtin.List.listExtendWith (.ref s.heap.objs.size) (.ref t) (.ref s.heap.objs.size)) _ _ _
  unfold Builtin.List.listExtendWith
  refine wpAny_bind (wpAny_typeOf (T := "tuple") ⟨ob, old, cls⟩ ?_)
  have same : (Value.type "tuple" == Value.type "tuple") = true := by rfl
  rw [if_pos (by rw [same, Bool.or_true])]
  refine wpAny_bind (listItems_at old dat (wpAny_bind (listItems_at (xs := #[]) (n := 0) new0 rfl ?_)))
  rw [if_neg (by simp)]
  have room : ((#[] : Array Value) ++ us.toArray).size ≤ sizeLine + 1 := by
    rw [Array.size_append, List.size_toArray]
    show 0 + us.length ≤ _
    omega
  refine wpAny_bind (listUpdate_at (xs := #[]) (n := 0) new0 rfl ?_ (Nat.zero_le _) room)
  refine wpAny_pure ?_
  show wpAny (model prog w) A (load s.heap.objs.size >>= _) Q E _
  refine wpAny_bind (wpAny_load (get?_update_seq new0 _) ?_)
  have e : ((#[] : Array Value) ++ us.toArray).toList = us := by simp
  show wpAny _ _ (pure ((#[] : Array Value) ++ us.toArray).toList) Q E _
  rw [e]
  exact wpAny_pure fin
theorem sorted_tup {t : Addr} {us : List Value} {lt : Value → Value → Bool} {Q : Value → Shared → Prop} (O : SrtO.Swo lt) (ht : s.heap.IsTuple t us.toArray) (small : us.length ≤ sizeLine)
    (hS : 2 ≤ us.length → ∀ (h₁ : Heap) (a : Addr), h₁.get? a = some (seqObj "list" us.toArray 0) → (∀ b o, s.heap.get? b = some o → b ≠ a ∧ h₁.get? b = some o) → SrtO.SortableO prog w A.in1.in1 { s with heap := h₁ } a us lt)
    (fin : ∀ out : List Value, SrtO.Srtd lt out → SrtO.Stb lt out us → Q (.ref (s.heap.objs.size + 1)) { s with heap := PyProof.Rows.sortedAll s.heap us out.toArray }) :
    wpAny (model prog w) A (call (.builtin "sorted") [.ref t]) Q E s := by
  refine Calls.call_function_entry PyProof.Rows.kind_sorted PyProof.Rows.plain_sorted PyProof.Rows.entry_sorted (PyProof.Rows.args_sorted1 _) ?_
  unfold Builtin.«sorted»
  refine wpAny_bind (m := checkCount "sorted" 1 1 _) (wpAny_pure (wpAny_bind (collect_tup ht small (wpAny_bind (wpAny_newList ?_ small)))))
  generalize eh : (s.heap.push (seqObj "list" #[] 0)).update s.heap.objs.size (Obj.mapSeq (· ++ us.toArray)) = h2
  have size2 : h2.objs.size = s.heap.objs.size + 1 := by rw [← eh, Heap.size_update, size_push']
  have at2 : (h2.push (seqObj "list" us.toArray 0)).get? (s.heap.objs.size + 1) = some (seqObj "list" us.toArray 0) := by
    rw [← size2]
    exact Heap.get?_push_size _ rfl
  have keep2 : ∀ b o, s.heap.get? b = some o → b ≠ s.heap.objs.size + 1 ∧ (h2.push (seqObj "list" us.toArray 0)).get? b = some o := fun b o e => by
    have low : b < s.heap.objs.size := Heap.lt_size e
    refine ⟨Nat.ne_of_lt (Nat.lt_succ_of_lt low), Heap.get?_push_of_some _ ?_⟩
    rw [← eh, Heap.get?_update_ne _ _ _ _ (Nat.ne_of_lt low)]
    exact Heap.get?_push_of_some _ e
  show wpAny _ _ _ _ _ { s with heap := h2.push (seqObj "list" us.toArray 0) }
  rw [size2]
  refine wpAny_bind (wpAny_holding (wpAny_call_entry PyProof.Rows.slot_list_sort ⟨_, at2, rfl⟩ PyProof.Rows.entry_list_sort (SrtO.list_sort_ord O at2 small (fun l2 => hS l2 _ _ at2 keep2) fun out g1 g2 => ⟨_, rfl, ?_⟩) (PyProof.Rows.args_list_sort _)))
  have z := fin out g1 g2
  unfold PyProof.Rows.sortedAll at z
  rw [eh] at z
  exact wpAny_pure ⟨_, rfl, z⟩
end
theorem cr_sortedTI {X : Cx} : CallR X (.builtin "sorted") (fun vs H Q => ∃ (a : Addr) (ns : List Int), vs = [V.ref a] ∧ SqT X.K H a (ns.map V.int) ∧ ∀ (ns' : List Int) (p : Addr), ns'.Perm ns → ns'.Pairwise (· ≤ ·) → H p = none → Q (.ref p) (upd H p (.lst (ns'.map V.int)))) := by
  intro pins s σ H vs us Q I r h
  obtain ⟨a, ns, rfl, hs, q⟩ := h
  obtain ⟨its, rv, ht, small⟩ := I.tuple hs
  rw [Vals.ref1 r]
  refine sorted_tup SrtO.swo_int (show s.heap.IsTuple a its.toArray from ht) (by rw [← rv.length]; exact small) (fun l2 h₁ a' _ _ => SrtO.ints_sortable rv.ints l2) fun out g1 g2 => ?_
  obtain ⟨k1, k2, k3⟩ := SrtO.ints_out rv.ints g1 g2
  obtain ⟨ep, at_⟩ := PyProof.Rows.sortedAll_at s.heap its out.toArray
  have len : ((out.map SrtO.iv).map V.int).length ≤ sizeLine := by
    rw [List.length_map, k2.length_eq]
    rw [List.length_map] at small
    exact small
  exact ⟨.ref _, upd H (s.heap.objs.size + 1) (.lst ((out.map SrtO.iv).map V.int)), I.laid (t' := s.toks) (fun _ _ => PyProof.Rows.sortedAll_old) (Nat.le_succ _) ⟨len, out, ep, vals_of_ints k1, at_⟩, rfl, q _ _ k2 k3 (I.hok.fresh (Nat.le_succ _))⟩
end GX

set_option Elab.async false
set_option linter.all false
set_option maxRecDepth 100000
set_option maxHeartbeats 8000000
/-! the law's drawn puzzles, given its drawn rules -/
namespace G9
open PySem PySem.Spec PyProof.Rows L2 GX
/-- small numbers -/
abbrev Few (v : Int) : Prop := 0 ≤ v ∧ v < 1000
abbrev DomOk (e : List Int) : Prop := e.length ≤ 4 ∧ e.Pairwise (· < ·) ∧ (∀ v ∈ e, Few v) ∧ e.length ≤ 3 ∧ ∀ v ∈ e, 0 ≤ v ∧ v < 4
def RulNum : Rul → Prop
  | .table _ rows => rows.length ≤ 64 ∧ ∀ r ∈ rows, r.length ≤ 8 ∧ ∀ v ∈ r, Few v
  | .unlike _ => True
  | .sum _ lo hi => Few lo ∧ Few hi
  | .count _ vs lo hi => (vs.length ≤ 8 ∧ ∀ v ∈ vs, Few v) ∧ Few lo ∧ Few hi
  | .below _ _ => True
  | .runs _ ls => ls.length ≤ 8 ∧ ∀ v ∈ ls, Few v
  | .joined _ ties vs => (ties.length ≤ 8 ∧ ∀ q ∈ ties, Few q.1 ∧ Few q.2) ∧ vs.length ≤ 8 ∧ ∀ v ∈ vs, Few v
structure RuleOk (n : Nat) (r : Rul) : Prop where
  num : RulNum r
  c8 : (Rul.cells r).length ≤ 8
  small : Small r
  some : Rul.cells r ≠ []
  tab : TabLen r
  cell : ∀ c ∈ Rul.cells r, 0 ≤ c ∧ c < (n : Int)
def spDrawRule : Sp := fun vs H Q _ => ∃ d cs u doms, vs = [.ref d, u] ∧ SrcAt H d cs ∧ (RowsH H u doms ∨ LRows H u doms) ∧ 1 ≤ doms.length ∧ doms.length ≤ 8 ∧ (∀ e ∈ doms, e.length ≤ 4) ∧ (∀ e ∈ doms, ∀ v ∈ e, Few v) ∧ ∀ (w : V) (r : Rul) (H' : Hp), RuleOk doms.length r → SrcAt H' d cs → Rn d cs H H' → RuH H' w r → Q w H'
theorem nodup_snoc {l : List Int} {a : Int} (h : l.Nodup) (ha : a ∉ l) : (l ++ [a]).Nodup := by
  rw [List.nodup_append]
  refine ⟨h, List.nodup_cons.mpr ⟨by simp, List.nodup_nil⟩, fun x hx y hy => ?_⟩
  rw [List.mem_singleton.mp hy]
  exact fun z => ha (z ▸ hx)
theorem inc_snoc {l : List Int} {a : Int} (h : l.Pairwise (· < ·)) (ha : ∀ x ∈ l, x < a) : (l ++ [a]).Pairwise (· < ·) := by
  rw [List.pairwise_append]
  exact ⟨h, List.pairwise_singleton _ _, fun x hx y hy => by rw [List.mem_singleton.mp hy]; exact ha x hx⟩
def spDrawPuzzle : Sp := fun vs H Q _ => ∃ d cs most, vs = [.ref d, .int most] ∧ SrcAt H d cs ∧ 1 ≤ most ∧ most ≤ 6 ∧ ∀ (w : V) (p : Puz) (H' : Hp), PzOk p → 1 ≤ p.doms.length → (p.doms.length : Int) ≤ most → p.rules.length ≤ 8 → (∀ e ∈ p.doms, e.Pairwise (· < ·) ∧ (∀ v ∈ e, Few v) ∧ e.length ≤ 3 ∧ ∀ v ∈ e, 0 ≤ v ∧ v < 4) → (∀ r ∈ p.rules, RulNum r ∧ (Rul.cells r).length ≤ 8) → SrcAt H' d cs → Rn d cs H H' → PzH H' w p → Q w H'
section
variable {P : Program} {w : World} {K : PySem.W.Frag} {mg : Str → Option Value} {base : Heap} {f fP fO fR : Addr} {fd dP dO dR' : FuncData}
theorem ok_drawPuzzle (B : Bl mg) (D : Df K mg "_law_draw_puzzle" sDrawPuzzle ["_law_source", "_law_most"] f fd) (DP : Df K mg "_law_pick" sPick ["_law_source", "_law_most"] fP dP) (GP : FnOk P w K mg base CX0 1 fP dP ["_law_source", "_law_most"] spPick)
    (DO : Df K mg "_law_draw_rule" sDrawRule ["_law_source", "_law_domains"] fO dO) (GO : FnOk P w K mg base CX0 5 fO dO ["_law_source", "_law_domains"] spDrawRule) : FnOk P w K mg base CX0 7 f fd ["_law_source", "_law_most"] spDrawPuzzle := by
  refine D.F.ok scDrawPuzzle (fun vs H Q E h => ?_) (fun cdv A outer s H vs Q E hr h => ?_)
  · obtain ⟨d, cs, most, rfl, _⟩ := h
    rfl
  · obtain ⟨d, cs, most, rfl, hs, m1, m4, k⟩ := h
    have hu := hr.units
    refine ⟨_, pss_cons (ps_par (i := 2) (j := 3) rfl scDrawPuzzle.nd rfl rfl (by decide) rfl rfl (pa_cons (pe_lst pa_nil) (pa_cons (pe_lst pa_nil) pa_nil)) (by rfl))
      (pss_cons (ps_for PassesOwn.never rfl (pi_range1 (by rfl) B.range (pa_cons (pe_op op_add pe_int (pe_call GP (hr.mono (by decide)) (by rfl) DP.g DP.F.kp DP.b .nil pass0 (pa_cons (pv 0) (pa_cons (pv 1) pa_nil)))) pa_nil)) (pg_name (i := 4) scDrawPuzzle.nd rfl (.inl rfl))
        (pss_cons (ps_setLc (i := 5) (own := [("_law_value", 7)]) rfl scDrawPuzzle.nd rfl rfl (sw_true rfl rfl rfl (by decide +kernel)) (pi_range1 (by rfl) B.range (pa_cons pe_int pa_nil)) (blkOk_by (N := ["_law_source", "_law_most", "_law_domains", "_law_rules", "_law_cell", "_law_lot", "_law_lap", "_law_value"]) (sc := defScope sDrawPuzzle) (by decide +kernel))
            (fun _ _ _ _ _ => pg_name (i := 7) scDrawPuzzle.nd rfl (.inl rfl)) (fun _ _ _ _ _ => pts_one (pt_cmpR op_gt (pe_call GP (hr.mono (by decide)) (by rfl) DP.g DP.F.kp DP.b .nil pass0 (pa_cons (pv 0) (pa_cons pe_int pa_nil))) pe_int (nomark _))) (fun _ _ _ _ _ => pv 7))
        (pss_one (ps_expr (pe_bm PySem.F.plainAttrs_list PySem.F.slot_list_append PySem.F.type_list_append mt_append (pv 2) (pa_cons
            (pe_ifExp (pw_or (pt_cmpR (neDD K hu) (pv 5) (pe_lst pa_nil) (nomark _)) (pw_or1 (pt_cmpR op_eq (pe_call GP (hr.mono (by decide)) (by rfl) DP.g DP.F.kp DP.b .nil pass0 (pa_cons (pv 0) (pa_cons pe_int pa_nil))) pe_int (nomark _)))).pt
              (pe_callTy call_tuple_of (by rfl) B.tuple PyProof.Rows.boot_tuple (pa_cons (pe_slice sl_list (pv 5) po_none (po_some pe_int)) pa_nil)) (pe_tup (pa_cons pe_int (pa_cons pe_int pa_nil)))) pa_nil))))))
      (pss_cons (ps_for PassesOwn.never rfl (pi_range1 (by rfl) B.range (pa_cons (pe_call GP (hr.mono (by decide)) (by rfl) DP.g DP.F.kp DP.b .nil pass0 (pa_cons (pv 0) (pa_cons (pe_op op_add (pe_callB call_len_seq (by rfl) B.len PySem.boot_len (pa_cons (pv 2) pa_nil)) pe_int) pa_nil))) pa_nil)) (pg_name (i := 6) scDrawPuzzle.nd rfl (.inl rfl))
        (pss_one (ps_expr (pe_bm PySem.F.plainAttrs_list PySem.F.slot_list_append PySem.F.type_list_append mt_append (pv 3) (pa_cons (pe_call GO (hr.mono (by decide)) (by rfl) DO.g DO.F.kp DO.b .nil pass0 (pa_cons (pv 0) (pa_cons (pv 2) pa_nil))) pa_nil)))))
      (pss_one (ps_ret (pe_tup (pa_cons (pe_callTy call_tuple_of (by rfl) B.tuple PyProof.Rows.boot_tuple (pa_cons (pv 2) pa_nil)) (pa_cons (pe_callTy call_tuple_of (by rfl) B.tuple PyProof.Rows.boot_tuple (pa_cons (pv 3) pa_nil)) pa_nil))))))), ?_⟩
    refine ⟨by decide, fun Dl hD => ⟨by decide, fun Rl hR => ?_⟩⟩
    have nD := hs.none hD
    have hs1 : SrcAt (upd H Dl (.lst [])) d cs := hs.upd nD.1 nD.2
    have nR := hs1.none hR
    have nDR : Dl ≠ Rl := ne_of_none upd_same hR
    have hRH : H Rl = none := none_under hR
    have hs2 : SrcAt (upd (upd H Dl (.lst [])) Rl (.lst [])) d cs := hs1.upd nR.1 nR.2
    have s2 : Same H (upd (upd H Dl (.lst [])) Rl (.lst [])) := fun b o e => upd_at hR (upd_at hD e)
    have hD2 : upd (upd H Dl (.lst [])) Rl (.lst []) Dl = some (.lst []) := upd_at hR upd_same
    refine ⟨_, _, rfl, ?_⟩
    refine ⟨_, rfl, _, rfl, d, cs, most, rfl, hs2, by omega, fun r H3 r0 r1 hs3 rn3 => ⟨1, r, rfl, rfl, _, rfl, ?_⟩⟩
    have rb : 0 ≤ r ∧ r < most := by
      by_cases z : most < 2
      · have := r0 z
        omega
      · exact r1 (by omega)
    refine ⟨by show -(2 ^ 62) ≤ 1 + r; omega, by show 1 + r < 2 ^ 62; omega, ?_⟩
    have en : (1 + r).toNat = r.toNat + 1 := by omega
    have keepOut : ∀ {A B : Hp} {b0 : Addr} {o : HO}, H b0 = none → Rn d cs H A → Rn d cs H (upd A b0 o) := fun h0 rn b o h1 h2 e => by
      rw [upd_ne (fun z => by rw [z, h0] at e; cases e)]
      exact rn b o h1 h2 e
    refine for_it (walk_range (lo := 0) (n := (1 + r).toNat)) (fun i σ H' => ∃ (dvs : List V) (doms : List (List Int)) (o4 o5 : Option V), σ = [some (.ref d), some (.int most), some (.ref Dl), some (.ref Rl), o4, o5, none, none] ∧ H' Dl = some (.lst dvs) ∧ Paired (IH H') dvs doms ∧ doms.length = i ∧ (∀ e ∈ doms, DomOk e) ∧ H' Rl = some (.lst []) ∧ SrcAt H' d cs ∧ Rn d cs H H')
      ⟨[], [], none, none, rfl, rn3 _ _ nD.1 nD.2 hD2, .nil, rfl, (fun e he => by cases he), rn3 _ _ nR.1 nR.2 upd_same, hs3, (rn_same s2).trans rn3⟩ (fun i σ H' _ h => trivial) (fun i x σ H' H'' hi h y => ?_) (fun σ H' h => ?_)
    · obtain ⟨dvs, doms, o4, o5, rfl, hDv, pD, dl, d4, hRv, hs', rn'⟩ := h
      obtain ⟨rfl, rfl⟩ := y
      refine ⟨4, rfl, by decide, by decide, fun L hL => ?_⟩
      have nL := hs'.none hL
      have nDL : Dl ≠ L := ne_of_none hDv hL
      have nRL : Rl ≠ L := ne_of_none hRv hL
      refine lc_it (walk_range (lo := 0) (n := (4 : Int).toNat)) (fun m H3 => ∃ vs : List Int, H3 L = some (.lst (vs.map V.int)) ∧ vs.length ≤ m ∧ (vs.Pairwise (· < ·) ∧ ∀ v ∈ vs, v < (m : Int) ∧ 0 ≤ v) ∧ SrcAt H3 d cs ∧ Rn d cs H'' H3) ⟨[], upd_same, Nat.le_refl _, ⟨List.Pairwise.nil, fun v hv => by cases hv⟩, hs'.upd nL.1 nL.2, rn_same (same_new hL)⟩ (fun m H3 _ h => trivial) (fun m x H3 H4 hm h y => ?_) (fun H3 h => ?_)
      · obtain ⟨vs, hLv, vl, vnd, hs3, rnn⟩ := h
        obtain ⟨rfl, rfl⟩ := y
        refine ⟨rfl, _, rfl, d, cs, 3, rfl, hs3, by decide, fun r5 H5 _ _ hs5 rn5 => ⟨_, _, rfl, rfl, _, rfl, ?_⟩⟩
        have hL5 : H5 L = some (.lst (vs.map V.int)) := rn5 _ _ nL.1 nL.2 hLv
        have m4 : m < 4 := hm
        by_cases z : r5 > 0
        · refine ifT (decide_eq_true z) ⟨_, rfl, _, hL5, by rw [List.length_map, sizeLine_eq]; omega, vs ++ [0 + ((m : Nat) : Int)], by rw [upd_same, List.map_append]; rfl, by rw [List.length_append]; show vs.length + 1 ≤ _; omega, ⟨inc_snoc vnd.1 (fun x z => by have := vnd.2 _ z; omega), fun v hv => (List.mem_append.mp hv).elim (fun z => by have := vnd.2 v z; omega) fun z => by rw [List.mem_singleton.mp z]; omega⟩, hs5.upd nL.1 nL.2, fun b o h1 h2 e => ?_⟩
          rw [upd_ne (fun z => by rw [z, hL] at e; cases e)]
          exact rn5 b o h1 h2 (rnn b o h1 h2 e)
        · exact ifF (decide_eq_false z) ⟨vs, hL5, by omega, ⟨vnd.1, fun v hv => by have := vnd.2 v hv; omega⟩, hs5, rnn.trans rn5⟩
      obtain ⟨vs, hLv, vl, vnd, hs3, rnn⟩ := h
      have vl4 : vs.length ≤ 4 := vl
      have vnd4 : ∀ v ∈ vs, v < (4 : Int) ∧ 0 ≤ v := vnd.2
      have hD3 := rnn _ _ nD.1 nD.2 hDv
      have hR3 := rnn _ _ nR.1 nR.2 hRv
      have i5 : i < 7 := by omega
      have dvl := pD.length
      -- the end of a turn
      have fin : ∀ (wv : V) (e : List Int) (H4 : Hp) (σ' : L2.St), SrcAt H4 d cs → Rn d cs H3 H4 → IH H4 wv e → DomOk e → ∃ (dvs2 : List V) (doms2 : List (List Int)) (q4 q5 : Option V), [some (.ref d), some (.int most), some (.ref Dl), some (.ref Rl), some (.int (0 + ((i : Nat) : Int))), some (.ref L), none, none] = [some (.ref d), some (.int most), some (.ref Dl), some (.ref Rl), q4, q5, none, none] ∧ upd H4 Dl (.lst (dvs ++ [wv])) Dl = some (.lst dvs2) ∧ Paired (IH (upd H4 Dl (.lst (dvs ++ [wv])))) dvs2 doms2 ∧ doms2.length = i + 1 ∧ (∀ e ∈ doms2, DomOk e) ∧ upd H4 Dl (.lst (dvs ++ [wv])) Rl = some (.lst []) ∧ SrcAt (upd H4 Dl (.lst (dvs ++ [wv]))) d cs ∧ Rn d cs H (upd H4 Dl (.lst (dvs ++ [wv]))) := fun wv e H4 σ' hs4 rn4 ie el => by
        have hD4 := rn4 _ _ nD.1 nD.2 hD3
        have kt4 : Kt H'' H4 := (rnn.trans rn4).kt hs'
        refine ⟨dvs ++ [wv], doms ++ [e], _, _, rfl, upd_same, paired_app (paired_mono (fun _ _ z => (z.kt kt4).kt (ktL hD4)) pD) (paired_one (ie.kt (ktL hD4))), by rw [List.length_append, dl]; rfl, fun e' he' => ?_, by rw [upd_ne nDR.symm]; exact rn4 _ _ nR.1 nR.2 hR3, hs4.upd nD.1 nD.2, keepOut (B := H) hD ((rn'.trans rnn).trans rn4)⟩
        rcases List.mem_append.mp he' with z | z
        · exact d4 e' z
        · rw [List.mem_singleton.mp z]
          exact el
      have out : ∀ (wv : V) (e : List Int) (H4 : Hp), SrcAt H4 d cs → Rn d cs H3 H4 → IH H4 wv e → DomOk e → ∃ l xs y, V.ref Dl = .ref l ∧ [wv] = [y] ∧ H4 l = some (.lst xs) ∧ xs.length < sizeLine ∧ ∃ (dvs2 : List V) (doms2 : List (List Int)) (q4 q5 : Option V), [some (.ref d), some (.int most), some (.ref Dl), some (.ref Rl), some (.int (0 + ((i : Nat) : Int))), some (.ref L), none, none] = [some (.ref d), some (.int most), some (.ref Dl), some (.ref Rl), q4, q5, none, none] ∧ upd H4 l (.lst (xs ++ [y])) Dl = some (.lst dvs2) ∧ Paired (IH (upd H4 l (.lst (xs ++ [y])))) dvs2 doms2 ∧ doms2.length = i + 1 ∧ (∀ e ∈ doms2, DomOk e) ∧ upd H4 l (.lst (xs ++ [y])) Rl = some (.lst []) ∧ SrcAt (upd H4 l (.lst (xs ++ [y]))) d cs ∧ Rn d cs H (upd H4 l (.lst (xs ++ [y]))) := fun wv e H4 hs4 rn4 ie el =>
        ⟨Dl, dvs, wv, rfl, rfl, rn4 _ _ nD.1 nD.2 hD3, by rw [sizeLine_eq]; omega, fin wv e H4 [] hs4 rn4 ie el⟩
      -- the lot's first three
      have three : ∀ (H4 : Hp) (Q' : VK), SrcAt H4 d cs → Rn d cs H3 H4 → (∀ (wv : V) (e : List Int) (H5 : Hp), SrcAt H5 d cs → Rn d cs H3 H5 → IH H5 wv e → DomOk e → Q' wv H5) → rSlL K (.ref L) none (some 3) H4 fun z H5 => ∃ p ys, [z] = [V.ref p] ∧ ((SqL K H5 p ys ∧ ∀ l, H5 l = none → Q' (.ref l) (upd H5 l (.tup ys))) ∨ (SqT K H5 p ys ∧ Q' (.ref p) H5)) := fun H4 Q' hs4 rn4 kk => by
        have hL4 := rn4 _ _ nL.1 nL.2 hLv
        refine ⟨L, _, rfl, sql hL4, fun S hS => ⟨S, _, rfl, .inl ⟨sql upd_same, fun T hT => ?_⟩⟩⟩
        rw [cut_take _ (by decide : (0 : Int) ≤ 3), ← List.map_take] at hT ⊢
        have s45 : Same H4 (upd (upd H4 S (.lst ((vs.take (3 : Int).toNat).map V.int))) T (.tup ((vs.take (3 : Int).toNat).map V.int))) := fun b o e => upd_at hT (upd_at hS e)
        exact kk (.ref T) _ _ (hs4.same s45) (rn4.trans (rn_same s45)) ⟨T, rfl, upd_same⟩ ⟨by rw [List.length_take]; omega, vnd.1.sublist (List.take_sublist _ _), (fun v hv => by have := vnd4 v (List.take_subset _ _ hv); exact ⟨this.2, by omega⟩), (by rw [List.length_take]; exact Nat.min_le_left _ _), fun v hv => by have := vnd4 v (List.take_subset _ _ hv); exact ⟨this.2, this.1⟩⟩
      refine ⟨_, rfl, .inl ⟨rfl, _, sql hD3⟩, _, rfl, by decide, fun M hM => ?_⟩
      have s3M : Same H3 (upd H3 M (.lst [])) := same_new hM
      refine ⟨.list (vs.map .int), .list (([] : List Int).map .int), .lst (sql (s3M _ _ hLv)) (dpAll_ints vs), .lst (sql upd_same) (dpAll_ints []), cmp_lints vs, cmp_lints [], _, rfl, ?_⟩
      rw [eqv_lints]
      by_cases ve : vs = []
      · refine ifF (by rw [decide_eq_true ve]; rfl) ?_
        refine ⟨_, rfl, d, cs, 9, rfl, hs3.same s3M, by decide, fun r9 H9 _ _ hs9 rn9 => ⟨rfl, _, rfl, ?_⟩⟩
        have rn39 : Rn d cs H3 H9 := (rn_same s3M).trans rn9
        by_cases z : r9 = 0
        · refine ifT (by rw [z]; decide) ?_
          exact ⟨_, rfl, 3, rfl, three H9 _ hs9 rn39 fun wv e H5 h1 h2 h3 h4 => out wv e H5 h1 h2 h3 h4⟩
        · refine ifF (decide_eq_false fun q => z (V.int.inj q)) ⟨(show 2 ≤ sizeLine by decide), fun T hT => ?_⟩
          exact out (.ref T) [0, 1] _ (hs9.same (same_new hT)) (rn39.trans (rn_same (same_new hT))) ⟨T, rfl, upd_same⟩ (by decide)
      · refine ifT (by rw [decide_eq_false ve]; rfl) ?_
        refine ifT rfl ?_
        exact ⟨_, rfl, 3, rfl, three _ _ (hs3.same s3M) (rn_same s3M) fun wv e H5 h1 h2 h3 h4 => out wv e H5 h1 h2 h3 h4⟩
    · obtain ⟨dvs, doms, o4, o5, rfl, hDv, pD, dl, d4, hRv, hs', rn'⟩ := h
      have dl1 : 1 ≤ doms.length := by omega
      have dlm : (doms.length : Int) ≤ most := by omega
      have dvl := pD.length
      refine ⟨_, rfl, _, rfl, Dl, _, rfl, .inl (sql hDv), _, 2, rfl, rfl, d, cs, _, rfl, hs', by omega, fun r2 H4 e0 e1 hs4 rn4 => ⟨r2, rfl, ?_⟩⟩
      have rb2 : 0 ≤ r2 ∧ r2 < (doms.length : Int) + 2 := by
        have := e1 (by omega)
        omega
      refine ⟨by omega, by omega, ?_⟩
      refine for_it (walk_range (lo := 0) (n := r2.toNat)) (fun j σ H5 => ∃ (rvs : List V) (rules : List Rul) (q4 q5 q6 : Option V), σ = [some (.ref d), some (.int most), some (.ref Dl), some (.ref Rl), q4, q5, q6, none] ∧ H5 Rl = some (.lst rvs) ∧ Paired (RuH H5) rvs rules ∧ rules.length = j ∧ (∀ r ∈ rules, RuleOk doms.length r) ∧ H5 Dl = some (.lst dvs) ∧ Paired (IH H5) dvs doms ∧ SrcAt H5 d cs ∧ Rn d cs H H5)
        ⟨[], [], o4, o5, none, rfl, rn4 _ _ nR.1 nR.2 hRv, .nil, rfl, (fun r hr => by cases hr), rn4 _ _ nD.1 nD.2 hDv, paired_mono (fun _ _ z => z.kt (Rn.kt hs' rn4)) pD, hs4, rn'.trans rn4⟩ (fun j σ H5 _ h => trivial) (fun j x σ H5 H6 hj h y => ?_) (fun σ H5 h => ?_)
      · obtain ⟨rvs, rules, q4, q5, q6, rfl, hRr, pR, rl, rok, hDr, pDr, hs5, rn5⟩ := h
        obtain ⟨rfl, rfl⟩ := y
        have rvl := pR.length
        refine ⟨_, rfl, .inl ⟨rfl, _, sql hRr⟩, _, rfl, _, rfl, d, cs, .ref Dl, doms, rfl, hs5, .inr ⟨Dl, dvs, rfl, hDr, pDr⟩, dl1, by omega, fun e he => (d4 e he).1, fun e he => (d4 e he).2.2.1, fun w7 r7 H7 ok7 hs7 rn7 hr7 => ?_⟩
        have hR7 := rn7 _ _ nR.1 nR.2 hRr
        have kt7 : Kt H6 H7 := rn7.kt hs5
        refine ⟨Rl, rvs, w7, rfl, rfl, hR7, by rw [sizeLine_eq]; omega, rvs ++ [w7], rules ++ [r7], q4, q5, _, rfl, upd_same, paired_app (paired_mono (fun _ _ z => (z.kt kt7).kt (ktL hR7)) pR) (paired_one (hr7.kt (ktL hR7))), by rw [List.length_append, rl]; rfl, fun r hr => ?_, by rw [upd_ne nDR]; exact rn7 _ _ nD.1 nD.2 hDr, paired_mono (fun _ _ z => (z.kt kt7).kt (ktL hR7)) pDr, hs7.upd nR.1 nR.2, keepOut (B := H) hRH (rn5.trans rn7)⟩
        rcases List.mem_append.mp hr with z | z
        · exact rok r z
        · rw [List.mem_singleton.mp z]
          exact ok7
      · obtain ⟨rvs, rules, q4, q5, q6, rfl, hRr, pR, rl, rok, hDr, pDr, hs5, rn5⟩ := h
        refine ⟨_, rfl, Dl, dvs, rfl, .inl ⟨sql hDr, fun T1 hT1 => ?_⟩⟩
        refine ⟨_, rfl, Rl, rvs, rfl, .inl ⟨sql (upd_at hT1 hRr), fun T2 hT2 => ⟨(show 2 ≤ sizeLine by decide), fun T3 hT3 => ?_⟩⟩⟩
        have s8 : Same H5 (upd (upd (upd H5 T1 (.tup dvs)) T2 (.tup rvs)) T3 (.tup [.ref T1, .ref T2])) := fun b o e => upd_at hT3 (upd_at hT2 (upd_at hT1 e))
        refine k (.ref T3) ⟨doms, rules⟩ _ ⟨by show doms.length ≤ 8; omega, fun e he => (d4 e he).1, by show rules.length ≤ 100; omega, fun r hr => (rok r hr).small, fun r hr => (rok r hr).tab, fun r hr => (rok r hr).some, fun r hr => (rok r hr).cell⟩ dl1 dlm (by show rules.length ≤ 8; omega) (fun e he => (d4 e he).2) (fun r hr => ⟨(rok r hr).num, (rok r hr).c8⟩) (hs5.same s8) (rn5.trans (rn_same s8)) ⟨T3, .ref T1, .ref T2, rfl, upd_same, ⟨T1, dvs, rfl, upd_at hT3 (upd_at hT2 upd_same), paired_mono (fun _ _ z => z.kt (kt_same s8)) pDr⟩, ⟨T2, rvs, rfl, upd_at hT3 upd_same, paired_mono (fun _ _ z => z.kt (kt_same s8)) pR⟩⟩
end
end G9

set_option Elab.async false
set_option linter.all false
set_option maxRecDepth 100000
set_option maxHeartbeats 4000000
/-! zip of two tuples, the pair handed out kept (one name as target) -/
namespace GX
open PySem PySem.Spec PyProof.Rows L2
/-- a zip, whatever it knows of the pair that it gave out -/
abbrev ZipO (h : Heap) (z TI TO : Addr) (v : Value) (f : Bool) : Prop := h.get? z = some { cls := .type "zip", dict := none, data := .fields #[v, .bool f, .bool false, .ref TI, .ref TO], slots := #[] }
def Out (v : Value) : Prop := v = .none ∨ ∃ T : Nat, v = rawInt T
section
variable {prog : Program} {w : World} {A : Around} {E : Value → Shared → Prop} {s : Shared} {z TI TO i1 i2 : Addr} {fp1 fp2 : List Addr} {n1 n2 i : Nat} {P1 P2 : Nat → Value → Prop} {St1 St2 : Nat → Heap → Prop} {a1 a2 v : Value} {f : Bool}
theorem aliveAny {a : Addr} {Q : Option Obj → Shared → Prop} (h : Q (s.heap.get? a) s) : wpAny (model prog w) A (loadIfAlive a) Q E s := fun _ _ _ => h
theorem isFree_any {Q : Bool → Shared → Prop} (hz : ZipO s.heap z TI TO v f) (hv : Out v) (h1 : Q true s) (h2 : ∀ h', ZipO h' z TI TO v true → Heap.SameBut z s.heap h' → Q false { s with heap := h' }) : wpAny (model prog w) A (Builtin.SmallTypes.ownedTupleIsFree (.ref z)) Q E s := by
  unfold Builtin.SmallTypes.ownedTupleIsFree
  refine wpAny_bind (wpAny_field hz rfl (x := v) rfl ?_)
  rcases hv with rfl | ⟨T, rfl⟩
  · exact wpAny_pure h1
  · show wpAny _ _ (loadIfAlive ((T : Int).toNat) >>= _) _ _ _
    refine wpAny_bind (aliveAny ?_)
    cases s.heap.get? ((T : Int).toNat) with
    | none =>
      rw [if_pos (show (none : Option Obj).isNone = true from rfl)]
      exact wpAny_pure h1
    | some o =>
      rw [if_neg (show ¬ ((some o).isNone = true) from Bool.false_ne_true)]
      refine wpAny_bind (wpAny_field hz rfl (x := .bool f) rfl ?_)
      cases f with
      | true =>
        rw [if_neg (show ¬ ((Value.bool true != Value.bool true) = true) from Bool.false_ne_true)]
        exact wpAny_pure (h2 _ hz (.refl _ _))
      | false =>
        rw [if_pos (show (Value.bool false != Value.bool true) = true from rfl)]
        exact wpAny_bind (wpAny_setField_rec hz (by simp) fun g hg sg => wpAny_pure (h2 g hg sg))

theorem zipNext_item {Q : Value → Shared → Prop} (S : ZipSep2 z TI TO i1 i2 fp1 fp2) (D1 : Draws prog w A i1 fp1 n1 P1 St1) (D2 : Draws prog w A i2 fp2 n2 P2 St2) (hz : ZipO s.heap z TI TO v f) (hv : Out v) (hTI : IsTupOf2 s.heap TI (.ref i1) (.ref i2)) (hTO : IsTupOf2 s.heap TO a1 a2) (q1 : St1 i s.heap) (q2 : St2 i s.heap) (l1 : i < n1) (l2 : i < n2)
    (hQ : ∀ (y1 y2 : Value) (g : Heap) (tk : Nat) (v' : Value) (f' : Bool), P1 i y1 → P2 i y2 → Out v' → ZipO g z TI TO v' f' → (∃ b1 b2, IsTupOf2 g TO b1 b2) → St1 (i + 1) g → St2 (i + 1) g → IsTupOf2 g s.heap.objs.size y1 y2 → (∀ c o, c ≠ z → c ≠ TO → c ≠ i1 → c ≠ i2 → s.heap.get? c = some o → g.get? c = some o) → Q (.ref s.heap.objs.size) { s with heap := g, toks := tk }) :
    wpAny (model prog w) A (Builtin.«zip.__next__» ⟨[.ref z], []⟩) (fun r t => ∃ u, r = .done (.ret u) ∧ Q u t) E s := by
  obtain ⟨h0, gs, ds, k0, os⟩ := s
  have zlt : z < h0.objs.size := Heap.lt_size hz
  show wpAny _ _ (field (.ref z) 2 >>= fun _ => _) _ _ _
  refine wpAny_bind (wpAny_field hz rfl (x := .bool false) rfl ?_)
  show wpAny _ _ (field (.ref z) 3 >>= fun _ => _) _ _ _
  refine wpAny_bind (wpAny_field hz rfl (x := .ref TI) rfl (wpAny_bind (wpAny_seqItems hTI rfl ?_)))
  show wpAny _ _ (Builtin.SmallTypes.ownedTupleIsFree (.ref z) >>= fun _ => _) _ _ _
  refine wpAny_bind (isFree_any hz hv ?_ fun g0 hz0 s0 => ?_)
  · rw [if_pos rfl]
    refine wpAny_bind (wpAny_rule (wpAny_bind (wpAny_field hz rfl (x := .ref TO) rfl (wpAny_bind (wpAny_setField_rec hz (by simp) fun g0 hz0 s0 => ?_)))))
    have zz0 : ZipO g0 z TI TO .ellipsis f := hz0
    have c0 : Heap.SameBut z h0 g0 := s0
    clear hz0 s0
    refine wpAny_bind ?_
    simp only [List.zipIdx_cons, List.zipIdx_nil, List.forIn_cons, List.forIn_nil]
    refine wpAny_bind (wpAny_bind (wpAny_onRaise ?_))
    show wpAny _ _ (Builtin.SmallTypes.nextOf (.ref i1) >>= fun _ => _) _ _ ⟨g0, gs, ds, k0, os⟩
    refine wpAny_bind (D1.item i _ _ _ l1 (D1.over q1 c0 S.zf1) fun y1 p1 k1 r1 w1 b1 => wpAny_pure ?_)
    have c1 : Heap.SameBut i1 g0 p1 := b1
    have T1 : IsTupOf2 p1 TO a1 a2 := c1.extBut _ _ S.Ti1 (c0.extBut _ _ S.TOz hTO)
    refine wpAny_bind (wpAny_seqItems (s := ⟨p1, gs, ds, k1, os⟩) T1 rfl (wpAny_bind (updateSeq_IsTupOf2 (s := ⟨p1, gs, ds, k1, os⟩) T1 fun g1 hT1 b2 => ?_)))
    have T2 : IsTupOf2 g1 TO y1 a2 := hT1
    have c2 : Heap.SameBut TO p1 g1 := b2
    refine wpAny_bind (wpAny_letGo (wpAny_pure (wpAny_bind (wpAny_bind (wpAny_onRaise ?_)))))
    show wpAny _ _ (Builtin.SmallTypes.nextOf (.ref i2) >>= fun _ => _) _ _ ⟨g1, gs, ds, k1, os⟩
    refine wpAny_bind (D2.item i _ _ _ l2 (D2.over (D2.over (D2.over q2 c0 S.zf2) c1 S.sep1_2) c2 S.Tf2) fun y2 p2 k2 r2 w2 b3 => wpAny_pure ?_)
    have c3 : Heap.SameBut i2 g1 p2 := b3
    have T3 : IsTupOf2 p2 TO y1 a2 := c3.extBut _ _ S.Ti2 T2
    refine wpAny_bind (wpAny_seqItems (s := ⟨p2, gs, ds, k2, os⟩) T3 rfl (wpAny_bind (updateSeq_IsTupOf2 (s := ⟨p2, gs, ds, k2, os⟩) T3 fun g2 hT3 b4 => ?_)))
    have T4 : IsTupOf2 g2 TO y1 y2 := hT3
    have c4 : Heap.SameBut TO p2 g2 := b4
    refine wpAny_bind (wpAny_letGo (wpAny_pure (wpAny_pure (wpAny_bind (wpAny_seqItems (s := ⟨g2, gs, ds, k2, os⟩) T4 rfl (wpAny_bind (wpAny_newTuple ?_)))))))
    have size2 : g2.objs.size = h0.objs.size := by rw [c4.1, c3.1, c2.1, c1.1, c0.1]
    have thru : ∀ c o, c ≠ TO → c ≠ i1 → c ≠ i2 → g0.get? c = some o → g2.get? c = some o := fun c o n1 n2 n3 e => c4.extBut _ _ n1 (c3.extBut _ _ n3 (c2.extBut _ _ n1 (c1.extBut _ _ n2 e)))
    have zz2 : ZipO g2 z TI TO .ellipsis f := thru _ _ S.TOz.symm S.zi1 S.zi2 zz0
    have w1' : St1 (i + 1) g2 := D1.over (D1.over (D1.over w1 c2 S.Tf1) c3 S.sep2_1) c4 S.Tf1
    have w2' : St2 (i + 1) g2 := D2.over w2 c4 S.Tf2
    show wpAny _ _ (Builtin.SmallTypes.ownedTupleHandOut (.ref z) (.ref g2.objs.size) >>= fun _ => _) _ _ ⟨g2.push { cls := .type "tuple", data := .seq #[y1, y2] }, gs, ds, k2, os⟩
    refine wpAny_bind ?_
    unfold Builtin.SmallTypes.ownedTupleHandOut
    have zz3 : ZipO (g2.push { cls := .type "tuple", data := .seq #[y1, y2] }) z TI TO .ellipsis f := Heap.get?_push_of_some _ zz2
    refine wpAny_bind (wpAny_setField_rec zz3 (by simp) fun g4 hz4 b5 => wpAny_setField_rec (show ZipO g4 z TI TO (rawInt g2.objs.size) f from hz4) (by simp) fun g5 hz5 b6 => ?_)
    have zz5 : ZipO g5 z TI TO (rawInt g2.objs.size) false := hz5
    have c5 : Heap.SameBut z (g2.push { cls := .type "tuple", data := .seq #[y1, y2] }) g4 := b5
    have c6 : Heap.SameBut z g4 g5 := b6
    have up : ∀ c o, c ≠ z → (g2.push { cls := .type "tuple", data := .seq #[y1, y2] }).get? c = some o → g5.get? c = some o := fun c o n e => c6.extBut _ _ n (c5.extBut _ _ n e)
    have up2 : ∀ c o, c ≠ z → g2.get? c = some o → g5.get? c = some o := fun c o n e => up c o n (Heap.get?_push_of_some _ e)
    have TN : IsTupOf2 g5 g2.objs.size y1 y2 := up _ _ (by rw [size2]; exact Nat.ne_of_gt zlt) (Heap.get?_push_size _ rfl)
    refine wpAny_pure ⟨_, rfl, ?_⟩
    show Q (.ref g2.objs.size) ⟨g5, gs, ds, k2, os⟩
    rw [size2] at zz5 TN ⊢
    exact hQ y1 y2 g5 k2 _ false r1 r2 (.inr ⟨_, rfl⟩) zz5 ⟨_, _, up2 _ _ S.TOz T4⟩ (D1.frame _ _ _ w1' fun b hb o e => up2 b o (fun q => S.zf1 (q ▸ hb)) e) (D2.frame _ _ _ w2' fun b hb o e => up2 b o (fun q => S.zf2 (q ▸ hb)) e) TN
      fun c o n0 n1 n2 n3 e => up2 c o n0 (thru c o n1 n2 n3 (c0.extBut _ _ n0 e))
  · rw [if_neg Bool.false_ne_true]
    have zz0 : ZipO g0 z TI TO v true := hz0
    have c0 : Heap.SameBut z h0 g0 := s0
    refine wpAny_bind ?_
    rw [← Array.forIn_toList]
    simp only [List.forIn_cons, List.forIn_nil]
    refine wpAny_bind (wpAny_bind (wpAny_holding ?_))
    show wpAny _ _ (Builtin.SmallTypes.nextOf (.ref i1) >>= fun _ => _) _ _ ⟨g0, gs, ds, k0, os⟩
    refine wpAny_bind (D1.item i _ _ _ l1 (D1.over q1 c0 S.zf1) fun y1 p1 k1 r1 w1 b1 => wpAny_pure (wpAny_pure ?_))
    have c1 : Heap.SameBut i1 g0 p1 := b1
    refine wpAny_bind (wpAny_bind (wpAny_holding ?_))
    show wpAny _ _ (Builtin.SmallTypes.nextOf (.ref i2) >>= fun _ => _) _ _ ⟨p1, gs, ds, k1, os⟩
    refine wpAny_bind (D2.item i _ _ _ l2 (D2.over (D2.over q2 c0 S.zf2) c1 S.sep1_2) fun y2 p2 k2 r2 w2 b3 => wpAny_pure (wpAny_pure (wpAny_pure ?_)))
    have c3 : Heap.SameBut i2 p1 p2 := b3
    show wpAny _ _ (newTuple [y1, y2] >>= fun _ => _) _ _ ⟨p2, gs, ds, k2, os⟩
    refine wpAny_bind (wpAny_newTuple (wpAny_pure ⟨_, rfl, ?_⟩))
    have size2 : p2.objs.size = h0.objs.size := by rw [c3.1, c1.1, c0.1]
    have thru : ∀ c o, c ≠ i1 → c ≠ i2 → g0.get? c = some o → p2.get? c = some o := fun c o n2 n3 e => c3.extBut _ _ n3 (c1.extBut _ _ n2 e)
    have up : ∀ c o, p2.get? c = some o → (p2.push { cls := .type "tuple", data := .seq #[y1, y2] }).get? c = some o := fun c o e => Heap.get?_push_of_some _ e
    have TN : IsTupOf2 (p2.push { cls := .type "tuple", data := .seq #[y1, y2] }) p2.objs.size y1 y2 := Heap.get?_push_size _ rfl
    have w1' : St1 (i + 1) p2 := D1.over w1 c3 S.sep2_1
    show Q (.ref p2.objs.size) ⟨p2.push { cls := .type "tuple", data := .seq #[y1, y2] }, gs, ds, k2, os⟩
    rw [size2] at TN ⊢
    exact hQ y1 y2 _ k2 v true r1 r2 hv (up _ _ (thru _ _ S.zi1 S.zi2 zz0)) ⟨_, _, up _ _ (thru _ _ S.Ti1 S.Ti2 (c0.extBut _ _ S.TOz hTO))⟩ (D1.frame _ _ _ w1' fun b hb o e => up b o e) (D2.frame _ _ _ w2 fun b hb o e => up b o e) TN
      fun c o n0 n1 n2 n3 e => up c o (thru c o n2 n3 (c0.extBut _ _ n0 e))

theorem zipNext_end {Q : Fin → Shared → Prop} (S : ZipSep2 z TI TO i1 i2 fp1 fp2) (D1 : Draws prog w A i1 fp1 n1 P1 St1) (D2 : Draws prog w A i2 fp2 n2 P2 St2) (hz : ZipO s.heap z TI TO v f) (hv : Out v) (hTI : IsTupOf2 s.heap TI (.ref i1) (.ref i2)) (hTO : IsTupOf2 s.heap TO a1 a2) (q1 : St1 i s.heap) (q2 : St2 i s.heap) (l1 : i ≤ n1) (l2 : i ≤ n2) (hend : i = n1 ∨ i = n2)
    (hE : ∀ (g : Heap) (tk : Nat) (x : Addr), (∀ c o, c ≠ z → c ≠ TO → c ≠ i1 → c ≠ i2 → s.heap.get? c = some o → g.get? c = some o) → (∃ o, g.get? x = some o ∧ o.cls = .type "StopIteration") → E (.ref x) { s with heap := g, toks := tk }) :
    wpAny (model prog w) A (Builtin.«zip.__next__» ⟨[.ref z], []⟩) Q E s := by
  obtain ⟨h0, gs, ds, k0, os⟩ := s
  have back : ∀ {q : Heap} {k : Nat} {x : Addr}, ZipO q z TI TO .ellipsis f → (∀ c o, c ≠ z → c ≠ TO → c ≠ i1 → c ≠ i2 → h0.get? c = some o → q.get? c = some o) → (∃ o, q.get? x = some o ∧ o.cls = .type "StopIteration") → wpAny (model prog w) A (setField (.ref z) 0 .none) (fun _ t => E (.ref x) t) E ⟨q, gs, ds, k, os⟩ := fun {q k x} zq kp he => by
    obtain ⟨oe, hoe, hce⟩ := he
    have hne : x ≠ z := fun e => by
      rw [e, zq] at hoe
      cases hoe
      exact absurd hce (by simp)
    refine wpAny_setField_rec (s := ⟨q, gs, ds, k, os⟩) zq (by simp) fun q' _ b => ?_
    have c : Heap.SameBut z q q' := b
    exact hE q' k x (fun b o n0 n1 n2 n3 e => c.extBut _ _ n0 (kp b o n0 n1 n2 n3 e)) ⟨oe, c.extBut _ _ hne hoe, hce⟩
  show wpAny _ _ (field (.ref z) 2 >>= fun _ => _) _ _ _
  refine wpAny_bind (wpAny_field hz rfl (x := .bool false) rfl ?_)
  show wpAny _ _ (field (.ref z) 3 >>= fun _ => _) _ _ _
  refine wpAny_bind (wpAny_field hz rfl (x := .ref TI) rfl (wpAny_bind (wpAny_seqItems hTI rfl ?_)))
  show wpAny _ _ (Builtin.SmallTypes.ownedTupleIsFree (.ref z) >>= fun _ => _) _ _ _
  refine wpAny_bind (isFree_any hz hv ?_ fun g0 hz0 s0 => ?_)
  · rw [if_pos rfl]
    refine wpAny_bind (wpAny_rule (wpAny_bind (wpAny_field hz rfl (x := .ref TO) rfl (wpAny_bind (wpAny_setField_rec hz (by simp) fun g0 hz0 s0 => ?_)))))
    have zz0 : ZipO g0 z TI TO .ellipsis f := hz0
    have c0 : Heap.SameBut z h0 g0 := s0
    clear hz0 s0
    refine wpAny_bind ?_
    simp only [List.zipIdx_cons, List.zipIdx_nil, List.forIn_cons, List.forIn_nil]
    refine wpAny_bind (wpAny_bind (wpAny_onRaise ?_))
    show wpAny _ _ (Builtin.SmallTypes.nextOf (.ref i1) >>= fun _ => _) _ _ ⟨g0, gs, ds, k0, os⟩
    by_cases lt : i < n1
    · refine wpAny_bind (D1.item i _ _ _ lt (D1.over q1 c0 S.zf1) fun y1 p1 k1 r1 w1 b1 => wpAny_pure ?_)
      have c1 : Heap.SameBut i1 g0 p1 := b1
      have T1 : IsTupOf2 p1 TO a1 a2 := c1.extBut _ _ S.Ti1 (c0.extBut _ _ S.TOz hTO)
      refine wpAny_bind (wpAny_seqItems (s := ⟨p1, gs, ds, k1, os⟩) T1 rfl (wpAny_bind (updateSeq_IsTupOf2 (s := ⟨p1, gs, ds, k1, os⟩) T1 fun g1 hT1 b2 => ?_)))
      have c2 : Heap.SameBut TO p1 g1 := b2
      refine wpAny_bind (wpAny_letGo (wpAny_pure (wpAny_bind (wpAny_bind (wpAny_onRaise ?_)))))
      show wpAny _ _ (Builtin.SmallTypes.nextOf (.ref i2) >>= fun _ => _) _ _ ⟨g1, gs, ds, k1, os⟩
      have e2 : i = n2 := by omega
      have w2 : St2 n2 g1 := e2 ▸ D2.over (D2.over (D2.over q2 c0 S.zf2) c1 S.sep1_2) c2 S.Tf2
      refine wpAny_bind (D2.done ⟨g1, gs, ds, k1, os⟩ _ _ w2 fun q x hq he => ?_)
      have hq' : Heap.ExtBut i2 g1 q := hq
      exact back (hq' _ _ S.zi2 (c2.extBut _ _ S.TOz.symm (c1.extBut _ _ S.zi1 zz0))) (fun c o n0 n1 n2 n3 e => hq' _ _ n3 (c2.extBut _ _ n1 (c1.extBut _ _ n2 (c0.extBut _ _ n0 e)))) he
    · have e1 : i = n1 := by omega
      have w1 : St1 n1 g0 := e1 ▸ D1.over q1 c0 S.zf1
      refine wpAny_bind (D1.done ⟨g0, gs, ds, k0, os⟩ _ _ w1 fun q x hq he => ?_)
      have hq' : Heap.ExtBut i1 g0 q := hq
      exact back (hq' _ _ S.zi1 zz0) (fun c o n0 n1 n2 n3 e => hq' _ _ n2 (c0.extBut _ _ n0 e)) he
  · rw [if_neg Bool.false_ne_true]
    have c0 : Heap.SameBut z h0 g0 := s0
    refine wpAny_bind ?_
    rw [← Array.forIn_toList]
    simp only [List.forIn_cons, List.forIn_nil]
    refine wpAny_bind (wpAny_bind (wpAny_holding ?_))
    show wpAny _ _ (Builtin.SmallTypes.nextOf (.ref i1) >>= fun _ => _) _ _ ⟨g0, gs, ds, k0, os⟩
    by_cases lt : i < n1
    · refine wpAny_bind (D1.item i _ _ _ lt (D1.over q1 c0 S.zf1) fun y1 p1 k1 r1 w1 b1 => wpAny_pure (wpAny_pure ?_))
      have c1 : Heap.SameBut i1 g0 p1 := b1
      refine wpAny_bind (wpAny_bind (wpAny_holding ?_))
      show wpAny _ _ (Builtin.SmallTypes.nextOf (.ref i2) >>= fun _ => _) _ _ ⟨p1, gs, ds, k1, os⟩
      have e2 : i = n2 := by omega
      have w2 : St2 n2 p1 := e2 ▸ D2.over (D2.over q2 c0 S.zf2) c1 S.sep1_2
      refine wpAny_bind (D2.done ⟨p1, gs, ds, k1, os⟩ _ _ w2 fun q x hq he => ?_)
      have hq' : Heap.ExtBut i2 p1 q := hq
      exact hE q k1 x (fun c o n0 n1 n2 n3 e => hq' _ _ n3 (c1.extBut _ _ n2 (c0.extBut _ _ n0 e))) he
    · have e1 : i = n1 := by omega
      have w1 : St1 n1 g0 := e1 ▸ D1.over q1 c0 S.zf1
      refine wpAny_bind (D1.done ⟨g0, gs, ds, k0, os⟩ _ _ w1 fun q x hq he => ?_)
      have hq' : Heap.ExtBut i1 g0 q := hq
      exact hE q k0 x (fun c o n0 n1 n2 n3 e => hq' _ _ n2 (c0.extBut _ _ n0 e)) he
end
end GX

set_option Elab.async false
set_option linter.all false
set_option maxRecDepth 100000
set_option maxHeartbeats 4000000
/-! zip of two tuples, one name as target: the rule -/
namespace GX
open PySem PySem.Spec PyProof.Rows L2
section
variable {prog : Program} {w : World} {A : Around} {E : Value → Shared → Prop} {s : Shared} {z TI TO i1 i2 : Addr} {fp1 fp2 : List Addr} {n1 n2 i : Nat} {P1 P2 : Nat → Value → Prop} {St1 St2 : Nat → Heap → Prop} {a1 a2 v : Value} {f : Bool}
theorem zipIter_any {Q : Value → Shared → Prop} (hz : ZipO s.heap z TI TO v f) (h : Q (.ref z) s) : wpAny (model prog w) A (pyIter (.ref z)) Q E s := by
  have ty : s.TypeIs (.ref z) "zip" := ⟨_, hz, rfl⟩
  refine wpAny_pyIter_slot ty F.slot_zip_iter (wpAny_call_entry F.slot_zip_iter ty F.entry_zip_iter (show wpAny _ _ (ret (.ref z)) _ _ s from wpAny_pure ⟨_, rfl, "zip", _, ty, F.slot_zip_next.lookup, h⟩) (F.args_zip_iter_1 _))
theorem zipItem_any {Q : Option Value → Shared → Prop} (S : ZipSep2 z TI TO i1 i2 fp1 fp2) (D1 : Draws prog w A.in1 i1 fp1 n1 P1 St1) (D2 : Draws prog w A.in1 i2 fp2 n2 P2 St2) (hz : ZipO s.heap z TI TO v f) (hv : Out v) (hTI : IsTupOf2 s.heap TI (.ref i1) (.ref i2)) (hTO : IsTupOf2 s.heap TO a1 a2) (q1 : St1 i s.heap) (q2 : St2 i s.heap) (l1 : i < n1) (l2 : i < n2)
    (hQ : ∀ (y1 y2 : Value) (g : Heap) (tk : Nat) (v' : Value) (f' : Bool), P1 i y1 → P2 i y2 → Out v' → ZipO g z TI TO v' f' → (∃ b1 b2, IsTupOf2 g TO b1 b2) → St1 (i + 1) g → St2 (i + 1) g → IsTupOf2 g s.heap.objs.size y1 y2 → (∀ c o, c ≠ z → c ≠ TO → c ≠ i1 → c ≠ i2 → s.heap.get? c = some o → g.get? c = some o) → Q (some (.ref s.heap.objs.size)) { s with heap := g, toks := tk }) :
    wpAny (model prog w) A (pyNext (.ref z)) Q E s := by
  have ty : s.TypeIs (.ref z) "zip" := ⟨_, hz, rfl⟩
  unfold pyNext
  exact wpAny_bind (wpAny_attempt (wpAny_callSpecial?_slot (name := Str.ofString "__next__") ty F.slot_zip_next (wpAny_call_entry F.slot_zip_next ty F.entry_zip_next
    (zipNext_item S D1 D2 hz hv hTI hTO q1 q2 l1 l2 fun y1 y2 g tk v' f' e1 e2 e3 e4 e5 e6 e7 e8 e9 => wpAny_pure (hQ y1 y2 g tk v' f' e1 e2 e3 e4 e5 e6 e7 e8 e9)) (F.args_zip_next_1 _))))
theorem zipEnd_any {Q : Option Value → Shared → Prop} (S : ZipSep2 z TI TO i1 i2 fp1 fp2) (D1 : Draws prog w A.in1 i1 fp1 n1 P1 St1) (D2 : Draws prog w A.in1 i2 fp2 n2 P2 St2) (hz : ZipO s.heap z TI TO v f) (hv : Out v) (hTI : IsTupOf2 s.heap TI (.ref i1) (.ref i2)) (hTO : IsTupOf2 s.heap TO a1 a2) (q1 : St1 i s.heap) (q2 : St2 i s.heap) (l1 : i ≤ n1) (l2 : i ≤ n2) (hend : i = n1 ∨ i = n2)
    (hQ : ∀ (g : Heap) (tk : Nat), (∀ c o, c ≠ z → c ≠ TO → c ≠ i1 → c ≠ i2 → s.heap.get? c = some o → g.get? c = some o) → Q none { s with heap := g, toks := tk }) : wpAny (model prog w) A (pyNext (.ref z)) Q E s := by
  have ty : s.TypeIs (.ref z) "zip" := ⟨_, hz, rfl⟩
  unfold pyNext
  refine wpAny_bind (wpAny_attempt (wpAny_callSpecial?_slot (name := Str.ofString "__next__") ty F.slot_zip_next (wpAny_call_entry F.slot_zip_next ty F.entry_zip_next (zipNext_end S D1 D2 hz hv hTI hTO q1 q2 l1 l2 hend fun g tk x hk he => ?_) (F.args_zip_next_1 _))))
  obtain ⟨o, ho, hc⟩ := he
  exact wpAny_bind (wpAny_isInstance (T := "StopIteration") (b := true) ⟨o, ho, hc⟩ isSubtype_stop (wpAny_pure (hQ g tk hk)))
end
/-- two tuples, the items in new pairs -/
def Itz1 (K : PySem.W.Frag) (a b : Addr) : It where
  go i H := ∃ xs ys x y, SqT K H a xs ∧ SqT K H b ys ∧ xs[i]? = some x ∧ ys[i]? = some y
  yld i H v H' := ∃ T x y, v = .ref T ∧ H T = none ∧ H' = upd H T (.tup [x, y]) ∧ (∀ xs, SqT K H a xs → xs[i]? = some x) ∧ ∀ ys, SqT K H b ys → ys[i]? = some y
  stop i H := ∃ xs ys, SqT K H a xs ∧ SqT K H b ys ∧ min xs.length ys.length = i
theorem turn_zip1 {P : Program} {w : World} {K : PySem.W.Frag} {nm : Str} {ps : Pos} {a b z TI TO i1 i2 : Addr} (S : ZipSep2 z TI TO i1 i2 [i1, a] [i2, b]) (na : a ≠ i1) (nb : b ≠ i2) :
    Turn P w K (.Name nm ps) (Itz1 K a b) [z, TI, TO, i1, i2] z (fun i h => (∃ v f, Out v ∧ ZipO h z TI TO v f) ∧ IsTupOf2 h TI (.ref i1) (.ref i2) ∧ (∃ u v, IsTupOf2 h TO u v) ∧ h.IsTupleIter i1 a i ∧ h.IsTupleIter i2 b i) where
  mem := List.mem_cons_self ..
  obj := fun i h st c hc => by
    obtain ⟨⟨v, f, _, hz⟩, hTI, ⟨x, y, hTO⟩, ⟨o1, e1, _, d1⟩, ⟨o2, e2, _, d2⟩⟩ := st
    simp only [List.mem_cons, List.not_mem_nil, or_false] at hc
    rcases hc with rfl | rfl | rfl | rfl | rfl
    · exact ⟨_, hz, fun v q => nomatch q⟩
    · exact ⟨_, hTI, fun v q => nomatch q⟩
    · exact ⟨_, hTO, fun v q => nomatch q⟩
    · exact ⟨o1, e1, fun v q => by rw [d1] at q; cases q⟩
    · exact ⟨o2, e2, fun v q => by rw [d2] at q; cases q⟩
  keep := fun i h h' st k => by
    obtain ⟨⟨v, f, hv, hz⟩, hTI, ⟨x, y, hTO⟩, h1, h2⟩ := st
    exact ⟨⟨v, f, hv, k z (by simp) _ hz⟩, k TI (by simp) _ hTI, ⟨x, y, k TO (by simp) _ hTO⟩, h1.at fun o q => k i1 (by simp) o q, h2.at fun o q => k i2 (by simp) o q⟩
  item := by
    intro X hP hw hK hc i pins s σ H E I hf st hg
    subst hP hw hK
    obtain ⟨⟨v, f, hv, hz⟩, hTI, hTO, h1, h2⟩ := st
    obtain ⟨xs, ys, x, y, hqx, hqy, hx, hy⟩ := hg
    obtain ⟨its, rv, p, _⟩ := I.tuple hqx
    obtain ⟨its2, rv2, p2, _⟩ := I.tuple hqy
    have t1 : s.heap.IsTuple a its.toArray := p
    have t2 : s.heap.IsTuple b its2.toArray := p2
    obtain ⟨u, hu, ru⟩ := rv.get hx
    obtain ⟨u2, hu2, ru2⟩ := rv2.get hy
    have hd := I.ok.hd hc
    have lt1 : i < its.toArray.size := by
      rw [List.size_toArray]
      exact (List.getElem?_eq_some_iff.mp hu).1
    have lt2 : i < its2.toArray.size := by
      rw [List.size_toArray]
      exact (List.getElem?_eq_some_iff.mp hu2).1
    obtain ⟨u0, v0, hTO0⟩ := hTO
    refine zipItem_any S (Draws.tuple (A := X.A.in1) hd i1 a na its.toArray) (Draws.tuple (A := X.A.in1) hd i2 b nb its2.toArray) hz hv hTI hTO0 ⟨h1, t1⟩ ⟨h2, t2⟩ lt1 lt2 fun y1 y2 g tk v' f' e1 e2 hv' hz' hTO' w1 w2 hT hk => ?_
    have q1 : y1 = u := by
      have q : its[i]? = some y1 := by simpa using e1
      rw [hu] at q
      exact (Option.some.inj q).symm
    have q2 : y2 = u2 := by
      have q : its2[i]? = some y2 := by simpa using e2
      rw [hu2] at q
      exact (Option.some.inj q).symm
    subst q1 q2
    have new : ObjOk X.prog X.w (upd H s.heap.objs.size (.tup [x, y])) g s.heap.objs.size (.tup [x, y]) := ⟨by show 2 ≤ sizeLine; decide, [y1, y2], .cons ru (.cons ru2 .nil), ⟨_, hT, rfl, _, rfl⟩⟩
    have I1 : Inv X pins σ (upd H s.heap.objs.size (.tup [x, y])) { s with heap := g, toks := tk } :=
      I.turnedNew (t' := tk) (ch := [z, TI, TO, i1, i2]) (fun c o hb q => hk c o (fun e => hb (by simp [e])) (fun e => hb (by simp [e])) (fun e => hb (by simp [e])) (fun e => hb (by simp [e])) q) hf (Nat.le_refl _) new
    have hTn : H s.heap.objs.size = none := I.hok.fresh (Nat.le_refl _)
    refine ⟨_, rfl, (wpAny_pure ⟨.ref s.heap.objs.size, _, I1, rfl, ⟨_, x, y, rfl, hTn, rfl, fun l hl => by rw [I.tuple_inj hl hqx]; exact hx, fun l hl => by rw [I.tuple_inj hl hqy]; exact hy⟩, ⟨⟨v', f', hv', hz'⟩, hk _ _ S.TIz S.TITO S.TIi1 S.TIi2 hTI, hTO', w1.1, w2.1⟩, fun c hcm => ?_⟩)⟩
    have hlt : c < s.heap.objs.size := by
      simp only [List.mem_cons, List.not_mem_nil, or_false] at hcm
      rcases hcm with rfl | rfl | rfl | rfl | rfl
      · exact Heap.lt_size hz
      · exact Heap.lt_size hTI
      · exact Heap.lt_size hTO0
      · obtain ⟨_, e1, _⟩ := h1; exact Heap.lt_size e1
      · obtain ⟨_, e2, _⟩ := h2; exact Heap.lt_size e2
    rw [upd_ne (Nat.ne_of_lt hlt)]
    exact (hf c hcm).1
  done := by
    intro X hP hw hK hc i pins s σ H E I hf st hg
    subst hP hw hK
    obtain ⟨⟨v, f, hv, hz⟩, hTI, ⟨u0, v0, hTO⟩, h1, h2⟩ := st
    obtain ⟨xs, ys, hqx, hqy, hend⟩ := hg
    obtain ⟨its, rv, p, _⟩ := I.tuple hqx
    obtain ⟨its2, rv2, p2, _⟩ := I.tuple hqy
    have t1 : s.heap.IsTuple a its.toArray := p
    have t2 : s.heap.IsTuple b its2.toArray := p2
    have hd := I.ok.hd hc
    have m1 := rv.length
    have m2 := rv2.length
    have s1 : its.toArray.size = xs.length := by rw [List.size_toArray, m1]
    have s2 : its2.toArray.size = ys.length := by rw [List.size_toArray, m2]
    refine zipEnd_any S (Draws.tuple (A := X.A.in1) hd i1 a na its.toArray) (Draws.tuple (A := X.A.in1) hd i2 b nb its2.toArray) hz hv hTI hTO ⟨h1, t1⟩ ⟨h2, t2⟩ (by omega) (by omega) (by omega) fun g tk hk => ⟨rfl, I.turnedL (t' := tk) (ch := [z, TI, TO, i1, i2]) (fun c o hb q => hk c o (fun e => hb (by simp [e])) (fun e => hb (by simp [e])) (fun e => hb (by simp [e])) (fun e => hb (by simp [e])) q) hf⟩
  self := fun A i s Q E st h => let ⟨v, f, _, hz⟩ := st.1; zipIter_any hz h
theorem walk_zip1 {K : PySem.W.Frag} {a b : Addr} {xs ys : List V} {n : Nat} (hn : n = min xs.length ys.length) : Walk (Itz1 K a b) n (fun H => SqT K H a xs ∧ SqT K H b ys) (YPair (fun i => xs[i]?) (fun i => ys[i]?)) where
  goes := fun i H hi hq => ⟨xs, ys, xs[i]'(by omega), ys[i]'(by omega), hq.1, hq.2, List.getElem?_eq_getElem _, List.getElem?_eq_getElem _⟩
  stops := fun H hq => ⟨xs, ys, hq.1, hq.2, hn.symm⟩
  yields := fun i H x H' hi hq ⟨T, u, v, e, nn, w, z1, z2⟩ => ⟨T, u, v, e, nn, w, z1 xs hq.1, z2 ys hq.2⟩
def iZip1 (K : PySem.W.Frag) (ta : TA) : TI := fun σ H R => ta σ H fun vs H1 => ∃ a b xs ys, vs = [.ref a, .ref b] ∧ SqT K H1 a xs ∧ SqT K H1 b ys ∧ R (Itz1 K a b) H1
theorem pi_zip1 {X : Cx} {e e2 : Expr} {ta : TA} {p pos ps : Pos} {nm : Str} (hg : Gl X "zip") (hm : X.mg "zip" = none) (ha : PA X [e, e2] ta)
    (hs : starEach [e, e2] X.env = (false, eval e X.env) :: starEach [e2] X.env := by rfl) (hpl : (backTo pos (starEach [e2] X.env)).any (·.1) = false := by rfl) :
    PI X (.Name nm ps) (.Call (.Name "zip" p) [e, e2] [] pos) (iZip1 X.K ta) := by
  refine ⟨fun pins s σ H R I h => Call_ (ld_blt I hg hm PyProof.Rows.boot_zip (PyProof.Rows.callWith_type1 (thn (ha.run pos pins s σ H _ I h) fun us s1 hx => ?_) hs hpl))⟩
  obtain ⟨vs, H1, I1, r1, a, b, xs, ys, rfl, hqx, hqy, q⟩ := hx
  cases r1 with
  | cons r rr =>
    cases rr with
    | cons r' rr =>
      cases rr
      cases r
      cases r'
      obtain ⟨its, rv, p1, _⟩ := I1.tuple hqx
      obtain ⟨its2, rv2, p2, _⟩ := I1.tuple hqy
      have t1 : s1.heap.IsTuple a its.toArray := p1
      have t2 : s1.heap.IsTuple b its2.toArray := p2
      have la : a < s1.heap.objs.size := by obtain ⟨_, e, _⟩ := id t1; exact Heap.lt_size e
      have lb : b < s1.heap.objs.size := by obtain ⟨_, e, _⟩ := id t2; exact Heap.lt_size e
      refine zip_begins2 (begins_tuple a its.toArray) (begins_tuple b its2.toArray) t1 t2 fun h' hz hTI hTO h1 h2 hsz hk => zipIter_any (f := false) hz ?_
      have I2 : Inv X pins σ H1 { s1 with heap := h' } := I1.kept (t' := s1.toks) hk
      refine ⟨s1.heap.objs.size + 4, [s1.heap.objs.size + 4, s1.heap.objs.size + 2, s1.heap.objs.size + 3, s1.heap.objs.size, s1.heap.objs.size + 1], _, _, H1, rfl, I2, turn_zip1 (zsep _ a b la lb) (Nat.ne_of_lt la) (Nat.ne_of_lt (Nat.lt_succ_of_lt lb)), ⟨⟨_, false, .inl rfl, hz⟩, hTI, ⟨_, _, hTO⟩, ⟨_, h1, rfl, rfl⟩, ⟨_, h2, rfl, rfl⟩⟩, fun c hcm => ?_, q⟩
      have hle : s1.heap.objs.size ≤ c := by
        simp only [List.mem_cons, List.not_mem_nil, or_false] at hcm
        rcases hcm with rfl | rfl | rfl | rfl | rfl
        · exact Nat.le_add_right _ _
        · exact Nat.le_add_right _ _
        · exact Nat.le_add_right _ _
        · exact Nat.le_refl _
        · exact Nat.le_add_right _ _
      exact I1.fpOk hle (I1.hok.fresh hle)
theorem piZip1 (K : PySem.W.Frag) {X : Cx} {e e2 : Expr} {ta : TA} {p pos ps : Pos} {nm : Str} (hg : Gl X "zip") (hm : X.mg "zip" = none) (ha : PA X [e, e2] ta) (hK : X.K = K := by rfl)
    (hs : starEach [e, e2] X.env = (false, eval e X.env) :: starEach [e2] X.env := by rfl) (hpl : (backTo pos (starEach [e2] X.env)).any (·.1) = false := by rfl) :
    PI X (.Name nm ps) (.Call (.Name "zip" p) [e, e2] [] pos) (iZip1 K ta) := hK ▸ pi_zip1 hg hm ha hs hpl
end GX

set_option Elab.async false
set_option linter.all false
set_option maxRecDepth 100000
set_option maxHeartbeats 8000000
/-! the law's drawn rules -/
namespace G9
open PySem PySem.Spec PyProof.Rows L2 GX
theorem sortedTK (K : PySem.W.Frag) {X : Cx} (h : X.K = K := by rfl) : CallR X (.builtin "sorted") (fun vs H Q => ∃ (a : Addr) (ns : List Int), vs = [V.ref a] ∧ SqT K H a (ns.map V.int) ∧ ∀ (ns' : List Int) (p : Addr), ns'.Perm ns → ns'.Pairwise (· ≤ ·) → H p = none → Q (.ref p) (upd H p (.lst (ns'.map V.int)))) := h ▸ cr_sortedTI
theorem pairs_of {H : Hp} : ∀ {xs : List V}, (∀ x ∈ xs, ∃ (t : Addr) (p q : Int), x = V.ref t ∧ H t = some (.tup [.int p, .int q]) ∧ Few p ∧ Few q) → ∃ ties : List (Int × Int), Paired (fun x q => IH H x (tie2 q)) xs ties ∧ ties.length = xs.length ∧ ∀ q ∈ ties, Few q.1 ∧ Few q.2
  | [], _ => ⟨[], .nil, rfl, fun q hq => by cases hq⟩
  | x :: xs, h => by
    obtain ⟨ties, p, l, fw⟩ := pairs_of (xs := xs) fun y hy => h y (List.mem_cons_of_mem _ hy)
    obtain ⟨t, i, j, e, z, fi, fj⟩ := h x (List.mem_cons_self ..)
    exact ⟨(i, j) :: ties, .cons ⟨t, e, z⟩ p, by rw [List.length_cons, l, List.length_cons], fun q hq => (List.mem_cons.mp hq).elim (fun z => by rw [z]; exact ⟨fi, fj⟩) (fw q)⟩
theorem rowsOf_all : ∀ (n : Nat) (ds : List (List Int)), ds.length = n → (∀ e ∈ ds, ∀ v ∈ e, Few v) → ∀ r ∈ rowsOf ds, ∀ v ∈ r, Few v
  | 0, [], _, _, r, hr, v, hv => by
    have : r = [] := by simpa [rowsOf] using hr
    rw [this] at hv
    cases hv
  | n + 1, ds, h, hd, r, hr, v, hv => by
    have ne : ds ≠ [] := fun z => by rw [z] at h; cases h
    have e := List.dropLast_concat_getLast ne
    have hl : ds.dropLast.length = n := by rw [List.length_dropLast, h]; rfl
    rw [← e, rowsOf_snoc] at hr
    obtain ⟨q, hq, x, hx, rfl⟩ := mem_grow.mp hr
    rcases List.mem_append.mp hv with z | z
    · exact rowsOf_all n _ hl (fun e he => hd e (List.dropLast_subset _ he)) q hq v z
    · rw [List.mem_singleton.mp z]
      exact hd _ (List.getLast_mem ne) x hx
theorem dup {R F : Addr → Hp → Prop} {G : Prop} (h : (∀ a H, F a H → R a H) → G) (r : ∀ a H, F a H → R a H) : G := h r
section
variable {P : Program} {w : World} {K : PySem.W.Frag} {mg : Str → Option Value} {base : Heap} {f fP fO fR : Addr} {fd dP dO dR' : FuncData}
theorem ok_drawRule (B : Bl mg) (D : Df K mg "_law_draw_rule" sDrawRule ["_law_source", "_law_domains"] f fd) (DP : Df K mg "_law_pick" sPick ["_law_source", "_law_most"] fP dP) (GP : FnOk P w K mg base CX0 1 fP dP ["_law_source", "_law_most"] spPick)
    (DO : Df K mg "_law_any_order" sOrder ["_law_source", "_law_things"] fO dO) (GO : FnOk P w K mg base CX0 3 fO dO ["_law_source", "_law_things"] spOrder) (DRw : Df K mg "_law_rows" sRows ["_law_lots"] fR dR') (GR : FnOk P w K mg base CX0 1 fR dR' ["_law_lots"] spRows) : FnOk P w K mg base CX0 5 f fd ["_law_source", "_law_domains"] spDrawRule := by
  refine D.F.ok scDrawRule (fun vs H Q E h => ?_) (fun cdv A outer s H vs Q E hr h => ?_)
  · obtain ⟨d, cs, u, doms, rfl, _⟩ := h
    rfl
  · obtain ⟨d, cs, u, doms, rfl, hs, hd, n1, n8, d4, dF, k⟩ := h
    have hu := hr.units
    refine ⟨_, pss_cons (ps_set (i := 2) scDrawRule.nd rfl (.inl rfl) (pe_call GO (hr.mono (by decide)) (by rfl) DO.g DO.F.kp DO.b .nil pass0 (pa_cons (pv 0) (pa_cons (pe_listRg rfl (by rfl) B.list (prg_1 (by rfl) B.range (pe_callB call_len_seq (by rfl) B.len PySem.boot_len (pa_cons (pv 1) pa_nil)))) pa_nil))))
      (pss_cons (ps_set (i := 3) scDrawRule.nd rfl (.inl rfl) (pe_ifExp (pt_cmpR op_gt (pe_callB call_len_seq (by rfl) B.len PySem.boot_len (pa_cons (pv 2) pa_nil)) pe_int (nomark _))
          (pe_callTy call_tuple_of (by rfl) B.tuple PyProof.Rows.boot_tuple (pa_cons (pe_slice sl_list (pv 2) po_none (po_some (pe_op op_add pe_int (pe_call GP (hr.mono (by decide)) (by rfl) DP.g DP.F.kp DP.b .nil pass0 (pa_cons (pv 0) (pa_cons (pe_callB (call_min2 rfl) (by rfl) B.min PyProof.Rows.boot_min (pa_cons pe_int (pa_cons (pe_op op_sub (pe_callB call_len_seq (by rfl) B.len PySem.boot_len (pa_cons (pv 2) pa_nil)) pe_int) pa_nil))) pa_nil)))))) pa_nil))
          (pe_callTy call_tuple_of (by rfl) B.tuple PyProof.Rows.boot_tuple (pa_cons (pv 2) pa_nil))))
      (pss_cons (ps_set (i := 4) scDrawRule.nd rfl (.inl rfl) (pe_call GP (hr.mono (by decide)) (by rfl) DP.g DP.F.kp DP.b .nil pass0 (pa_cons (pv 0) (pa_cons pe_int pa_nil))))
      (pss_cons (ps_if (pt_cmpR op_eq (pv 4) pe_int (nomark _))
          (pss_cons (ps_setLc (i := 5) (own := [("_law_row", 9)]) rfl scDrawRule.nd rfl rfl (sw_true rfl rfl rfl (by decide +kernel)) (pi_list (pe_call GR (hr.mono (by decide)) (by rfl) DRw.g DRw.F.kp DRw.b .nil pass0 (pa_cons
                (pe_lc (own := [("_law_cell", 10)]) rfl scDrawRule.nd (pi_tup (pv 3)) (blkOk_by (N := ["_law_source", "_law_domains", "_law_cells", "_law_some", "_law_road", "_law_rows_here", "_law_low", "_law_values", "_law_ties", "_law_row", "_law_cell", "_law_pair"]) (sc := defScope sDrawRule) (by decide +kernel)) (fun _ _ _ _ _ => pg_name (i := 10) scDrawRule.nd rfl (.inl rfl)) (fun _ _ _ _ _ => pts_nil) (fun _ _ _ _ _ => pe_ix (IxR.or (ixT K) (ixL K)) (pv 1) (pv 10) (fun _ _ => rfl))) pa_nil)))
              (blkOk_by (N := ["_law_source", "_law_domains", "_law_cells", "_law_some", "_law_road", "_law_rows_here", "_law_low", "_law_values", "_law_ties", "_law_row", "_law_cell", "_law_pair"]) (sc := defScope sDrawRule) (by decide +kernel))
              (fun _ _ _ _ _ => pg_name (i := 9) scDrawRule.nd rfl (.inl rfl)) (fun _ _ _ _ _ => pts_one (pt_cmpR op_gt (pe_call GP (hr.mono (by decide)) (by rfl) DP.g DP.F.kp DP.b .nil pass0 (pa_cons (pv 0) (pa_cons pe_int pa_nil))) pe_int (nomark _))) (fun _ _ _ _ _ => pv 9))
            (pss_one (ps_ret (pe_tup (pa_cons pe_str (pa_cons (pv 3) (pa_cons (pe_callTy call_tuple_of (by rfl) B.tuple PyProof.Rows.boot_tuple (pa_cons (pv 5) pa_nil)) pa_nil))))))) pss_nil)
      (pss_cons (ps_if (pw_or (pt_cmpR op_eq (pv 4) pe_int (nomark _)) (pw_or1 (pw_and (pt_cmpR op_eq (pv 4) pe_int (nomark _)) (pw_and1 (pt_cmpR op_lt (pe_callB call_len_seq (by rfl) B.len PySem.boot_len (pa_cons (pv 3) pa_nil)) pe_int (nomark _)))).pt)).pt (pss_one (ps_ret (pe_tup (pa_cons pe_str (pa_cons (pv 3) pa_nil))))) pss_nil)
      (pss_cons (ps_if (pt_cmpR op_eq (pv 4) pe_int (nomark _)) (pss_cons (ps_set (i := 6) scDrawRule.nd rfl (.inl rfl) (pe_call GP (hr.mono (by decide)) (by rfl) DP.g DP.F.kp DP.b .nil pass0 (pa_cons (pv 0) (pa_cons pe_int pa_nil))))
            (pss_one (ps_ret (pe_tup (pa_cons pe_str (pa_cons (pv 3) (pa_cons (pv 6) (pa_cons (pe_op op_add (pv 6) (pe_call GP (hr.mono (by decide)) (by rfl) DP.g DP.F.kp DP.b .nil pass0 (pa_cons (pv 0) (pa_cons pe_int pa_nil)))) pa_nil)))))))) pss_nil)
      (pss_cons (ps_if (pt_cmpR op_eq (pv 4) pe_int (nomark _)) (pss_cons (ps_set (i := 6) scDrawRule.nd rfl (.inl rfl) (pe_call GP (hr.mono (by decide)) (by rfl) DP.g DP.F.kp DP.b .nil pass0 (pa_cons (pv 0) (pa_cons (pe_callB call_len_seq (by rfl) B.len PySem.boot_len (pa_cons (pv 3) pa_nil)) pa_nil))))
            (pss_cons (ps_set (i := 7) scDrawRule.nd rfl (.inl rfl) (pe_tup (pa_cons (pe_call GP (hr.mono (by decide)) (by rfl) DP.g DP.F.kp DP.b .nil pass0 (pa_cons (pv 0) (pa_cons pe_int pa_nil))) (pa_cons (pe_op op_add pe_int (pe_call GP (hr.mono (by decide)) (by rfl) DP.g DP.F.kp DP.b .nil pass0 (pa_cons (pv 0) (pa_cons pe_int pa_nil)))) pa_nil))))
            (pss_one (ps_ret (pe_tup (pa_cons pe_str (pa_cons (pv 3) (pa_cons (pv 7) (pa_cons (pv 6) (pa_cons (pe_op op_add (pv 6) (pe_call GP (hr.mono (by decide)) (by rfl) DP.g DP.F.kp DP.b .nil pass0 (pa_cons (pv 0) (pa_cons pe_int pa_nil)))) pa_nil)))))))))) pss_nil)
      (pss_cons (ps_if (pt_cmpR op_eq (pv 4) pe_int (nomark _)) (pss_one (ps_ret (pe_tup (pa_cons pe_str (pa_cons (pe_ix ix_tup (pv 3) pe_int (fun _ _ => rfl)) (pa_cons (pe_ix ix_tup (pv 3) pe_int (fun _ _ => rfl)) pa_nil)))))) pss_nil)
      (pss_cons (ps_if (pt_cmpR op_eq (pv 4) pe_int (nomark _)) (pss_one (ps_ret (pe_tup (pa_cons pe_str (pa_cons (pv 3) (pa_cons (pe_ix ix_list (pe_lst (pa_cons (pe_tup pa_nil) (pa_cons (pe_tup (pa_cons pe_int pa_nil)) (pa_cons (pe_tup (pa_cons pe_int pa_nil)) (pa_cons (pe_tup (pa_cons pe_int (pa_cons pe_int pa_nil))) pa_nil)))))
            (pe_call GP (hr.mono (by decide)) (by rfl) DP.g DP.F.kp DP.b .nil pass0 (pa_cons (pv 0) (pa_cons pe_int pa_nil))) (fun _ _ => rfl)) pa_nil)))))) pss_nil)
      (pss_cons (ps_setLc (i := 8) (own := [("_law_pair", 11)]) rfl scDrawRule.nd rfl rfl (sw_true rfl rfl rfl (by decide +kernel)) (piZip1 K (by rfl) B.zip (pa_cons (pv 3) (pa_cons (pe_slice (slA K) (pv 3) (po_some pe_int) po_none) pa_nil)))
              (blkOk_by (N := ["_law_source", "_law_domains", "_law_cells", "_law_some", "_law_road", "_law_rows_here", "_law_low", "_law_values", "_law_ties", "_law_row", "_law_cell", "_law_pair"]) (sc := defScope sDrawRule) (by decide +kernel))
              (fun _ _ _ _ _ => pg_name (i := 11) scDrawRule.nd rfl (.inl rfl)) (fun _ _ _ _ _ => pts_one (pt_cmpR op_gt (pe_call GP (hr.mono (by decide)) (by rfl) DP.g DP.F.kp DP.b .nil pass0 (pa_cons (pv 0) (pa_cons pe_int pa_nil))) pe_int (nomark _)))
              (fun _ _ _ _ _ => pe_callTy (tupleOf K) (by rfl) B.tuple PyProof.Rows.boot_tuple (pa_cons (pe_callB (sortedTK K) (by rfl) B.sorted PyProof.Rows.boot_sorted (pa_cons (pv 11) pa_nil)) pa_nil)))
      (pss_one (ps_ret (pe_tup (pa_cons pe_str (pa_cons (pv 3) (pa_cons (pe_callTy call_tuple_of (by rfl) B.tuple PyProof.Rows.boot_tuple (pa_cons (pe_callB cr_sortedP (by rfl) B.sorted PyProof.Rows.boot_sorted (pa_cons (pv 8) pa_nil)) pa_nil)) (pa_cons (pe_tup (pa_cons pe_int (pa_cons pe_int pa_nil))) pa_nil)))))))))))))))), ?_⟩
    -- the domains
    obtain ⟨ua, uvs, rfl, pU, hua, una⟩ : ∃ ua uvs, u = .ref ua ∧ Paired (IH H) uvs doms ∧ (H ua = some (.tup uvs) ∨ H ua = some (.lst uvs)) ∧ ua ≠ d ∧ ua ≠ cs := by
      rcases hd with ⟨a, vs, rfl, e, p⟩ | ⟨a, vs, rfl, e, p⟩
      · exact ⟨a, vs, rfl, p, .inl e, hs.ne e⟩
      · obtain ⟨zs, l, m, t, hd', hcs, _⟩ := hs
        refine ⟨a, vs, rfl, p, .inr e, fun z => ?_, fun z => ?_⟩
        · rw [z, hd'] at e
          cases e
        · rw [z, hcs] at e
          cases p with
          | nil => exact absurd n1 (by decide)
          | cons i r =>
            obtain ⟨b, eb, _⟩ := i
            subst eb
            have e2 := HO.lst.inj (Option.some.inj e)
            cases zs with
            | nil => cases e2
            | cons z0 zs => cases e2
    have ul := pU.length
    have hU : ∀ H', Rn d cs H H' → (SqL K H' ua uvs ∨ SqT K H' ua uvs) := fun H' rn => by
      rcases hua with e | e
      · exact .inr (sqt (rn _ _ una.1 una.2 e))
      · exact .inl (sql (rn _ _ una.1 una.2 e))
    refine ⟨_, rfl, _, rfl, ua, _, rfl, hU H (.refl _ _ _), _, rfl, RgOk.of_le (by decide) (by omega) (by decide) (by omega), fun q hq => ?_⟩
    have nq := hs.none hq
    refine ⟨d, cs, .ref q, nI (List.range doms.length), rfl, hs.upd nq.1 nq.2, ⟨q, rfl, by rw [upd_same, ul, rgV_nI]⟩, by unfold nI; rw [List.length_map, List.length_range]; omega, fun l N H2 pm hs2 rn2 hln hl2 => ?_⟩
    have rn02 : Rn d cs H H2 := (rn_same (same_new hq)).trans rn2
    have N_len : N.length = doms.length := by
      rw [pm.length_eq]
      unfold nI
      rw [List.length_map, List.length_range]
    have N_nd : N.Nodup := by
      refine pm.nodup_iff.mpr ?_
      unfold nI
      exact (List.nodup_range).map _ (fun a b h => by omega)
    have N_rg : ∀ c ∈ N, 0 ≤ c ∧ c < (doms.length : Int) := fun c hc => by
      obtain ⟨j, hj, rfl⟩ := List.mem_map.mp (pm.mem_iff.mp hc)
      rw [List.mem_range] at hj
      omega
    have nl : l ≠ d ∧ l ≠ cs := (hs.upd (o := .lst (rgV 0 (uvs.length : Int))) nq.1 nq.2).none hln
    have cutS : ∀ k : Nat, 1 ≤ k → k ≤ 3 → (N.take k).Nodup ∧ 1 ≤ (N.take k).length ∧ (N.take k).length ≤ 3 ∧ ∀ c ∈ N.take k, 0 ≤ c ∧ c < (doms.length : Int) := fun k k1 k3 =>
      ⟨(List.take_sublist _ _).nodup N_nd, by rw [List.length_take]; omega, by rw [List.length_take]; omega, fun c hc => N_rg c (List.take_subset _ _ hc)⟩
    refine ⟨_, rfl, l, _, rfl, .inl (sql hl2), _, _, rfl, rfl, _, rfl, ?_⟩
    apply dup (F := fun T H3 => ∃ S : List Int, SrcAt H3 d cs ∧ Rn d cs H H3 ∧ H3 T = some (.tup (S.map V.int)) ∧ S.Nodup ∧ 1 ≤ S.length ∧ S.length ≤ 3 ∧ ∀ c ∈ S, 0 ≤ c ∧ c < (doms.length : Int))
    · intro rest
      by_cases g : (1 : Int) < ((N.map V.int).length : Nat)
      · refine ifT (decide_eq_true g) ?_
        have e1 : 2 ≤ N.length := by
          rw [List.length_map] at g
          omega
        have mm : (if (((N.map V.int).length : Nat) : Int) - 1 < 2 then (((N.map V.int).length : Nat) : Int) - 1 else 2) ≤ 2 := by
          split <;> omega
        refine ⟨_, rfl, _, rfl, _, rfl, l, _, rfl, .inl (sql hl2), _, _, rfl, rfl, _, _, rfl, ?_⟩
        generalize (if (((N.map V.int).length : Nat) : Int) - 1 < 2 then (((N.map V.int).length : Nat) : Int) - 1 else 2) = most at mm ⊢
        refine ⟨d, cs, most, rfl, hs2, by omega, fun r H3 r0 r1 hs3 rn3 => ⟨_, _, rfl, rfl, _, rfl, ?_⟩⟩
        have rb : 0 ≤ r ∧ r ≤ 1 := by
          by_cases z : most < 2
          · have := r0 z
            omega
          · have := r1 (by omega)
            omega
        have hl3 : H3 l = some (.lst (N.map V.int)) := rn3 _ _ nl.1 nl.2 hl2
        refine ⟨l, _, rfl, sql hl3, fun L3 hL3 => ⟨L3, _, rfl, .inl ⟨sql upd_same, fun T hT => ?_⟩⟩⟩
        rw [cut_take _ (by show (0 : Int) ≤ 2 + r; omega), ← List.map_take] at hT ⊢
        obtain ⟨c1, c2, c3, c4⟩ := cutS (2 + r).toNat (by omega) (by omega)
        have sm : Same H3 (upd (upd H3 L3 (.lst ((N.take (2 + r).toNat).map V.int))) T (.tup ((N.take (2 + r).toNat).map V.int))) := fun b o e => upd_at hT (upd_at hL3 e)
        have f1 : SrcAt (upd (upd H3 L3 (.lst ((N.take (2 + r).toNat).map V.int))) T (.tup ((N.take (2 + r).toNat).map V.int))) d cs := hs3.same sm
        have f2 : Rn d cs H (upd (upd H3 L3 (.lst ((N.take (2 + r).toNat).map V.int))) T (.tup ((N.take (2 + r).toNat).map V.int))) := (rn02.trans rn3).trans (rn_same sm)
        have f3 : upd (upd H3 L3 (.lst ((N.take (2 + r).toNat).map V.int))) T (.tup ((N.take (2 + r).toNat).map V.int)) T = some (.tup ((N.take (2 + r).toNat).map V.int)) := upd_same
        generalize upd (upd H3 L3 (.lst ((N.take (2 + r).toNat).map V.int))) T (.tup ((N.take (2 + r).toNat).map V.int)) = H5 at f1 f2 f3 ⊢
        exact rest T H5 ⟨_, f1, f2, f3, c1, c2, c3, c4⟩
      · refine ifF (decide_eq_false g) ?_
        refine ⟨_, rfl, l, _, rfl, .inl ⟨sql hl2, fun T hT => ?_⟩⟩
        have f1 : SrcAt (upd H2 T (.tup (N.map V.int))) d cs := hs2.same (same_new hT)
        have f2 : Rn d cs H (upd H2 T (.tup (N.map V.int))) := rn02.trans (rn_same (same_new hT))
        have f3 : upd H2 T (.tup (N.map V.int)) T = some (.tup (N.map V.int)) := upd_same
        have e1 : N.length = 1 := by
          rw [List.length_map] at g
          omega
        generalize upd H2 T (.tup (N.map V.int)) = H3 at f1 f2 f3 ⊢
        exact rest T H3 ⟨N, f1, f2, f3, N_nd, by omega, by omega, N_rg⟩
    intro T H3 hF
    obtain ⟨S, hs3, rn3, hT, S_nd, S1, S3, S_rg⟩ := hF
    refine ⟨_, rfl, d, cs, 7, rfl, hs3, by decide, fun r H4 r0 r1 hs4 rn4 => ?_⟩
    have r7 := r1 (by decide)
    have rnH : Rn d cs H H4 := rn3.trans rn4
    have nT := hs3.ne hT
    have hT4 : H4 T = some (.tup (S.map V.int)) := rn4 _ _ nT.1 nT.2 hT
    have iS : IH H4 (.ref T) S := ⟨T, rfl, hT4⟩
    have S_ne : S ≠ [] := fun z => by
      rw [z] at S1
      exact absurd S1 (by decide)
    have fin : ∀ (w : V) (rr : Rul) (H' : Hp), Rul.cells rr = S → RulNum rr → (match rr with | .joined _ ties _ => ties.length ≤ 100 | _ => True) → TabLen rr → SrcAt H' d cs → Rn d cs H4 H' → RuH H' w rr → Q w H' := fun w rr H' ec hnum hj ht hs' rn' hr' =>
      k w rr H' ⟨hnum, by rw [ec]; omega, ⟨by rw [ec]; exact S_nd, by rw [ec]; omega, hj⟩, by rw [ec]; exact S_ne, ht, by rw [ec]; exact S_rg⟩ hs' (rnH.trans rn') hr'
    have c7 : r = 0 ∨ r = 1 ∨ r = 2 ∨ r = 3 ∨ r = 4 ∨ r = 5 ∨ r = 6 := by omega
    have unl : ∀ (T2 : Addr), H4 T2 = none → Q (.ref T2) (upd H4 T2 (.tup [.str "unlike", .ref T])) := fun T2 hT2 =>
      fin (.ref T2) (.unlike S) _ rfl trivial trivial trivial (hs4.same (same_new hT2)) (rn_same (same_new hT2)) ⟨T2, .ref T, rfl, upd_same, iS.kt (kt_same (same_new hT2))⟩
    rcases c7 with rfl | rfl | rfl | rfl | rfl | rfl | rfl
    -- table
    · refine ⟨_, rfl, rfl, _, rfl, ifT (by decide) ?_⟩
      have hU4 := hU H4 rnH
      have at4 : ∀ c ∈ S, atI uvs c = some (uvs.getD c.toNat .non) := fun c hc => by
        obtain ⟨c0, c1⟩ := S_rg c hc
        have lt : c.toNat < uvs.length := by omega
        have e : ((c.toNat : Nat) : Int) = c := Int.toNat_of_nonneg c0
        rw [← e]
        refine L2.atI_nat ?_
        rw [List.getD_eq_getElem?_getD, Int.toNat_natCast, List.getElem?_eq_getElem lt]
        rfl
      have pS : ∀ C : List Int, (∀ c ∈ C, 0 ≤ c ∧ c < (doms.length : Int)) → Paired (IH H) (C.map fun c => uvs.getD c.toNat .non) (C.map fun c => doms.getD c.toNat []) := by
        intro C
        induction C with
        | nil => exact fun _ => .nil
        | cons c C ih =>
          intro hC
          obtain ⟨c0, c1⟩ := hC c (List.mem_cons_self ..)
          have lt : c.toNat < doms.length := by omega
          obtain ⟨x, hx, ix⟩ := paired_at' pU (List.getElem?_eq_getElem lt)
          refine .cons ?_ (ih fun z hz => hC z (List.mem_cons_of_mem _ hz))
          show IH H (uvs.getD c.toNat .non) (doms.getD c.toNat [])
          rw [List.getD_eq_getElem?_getD, hx, List.getD_eq_getElem?_getD, List.getElem?_eq_getElem lt]
          exact ix
      refine ⟨_, rfl, T, rfl, ⟨_, sqt hT4⟩, fun Lq hLq => ?_⟩
      refine lc_it (walk_tup (xs := S.map V.int)) (fun i H' => H' = upd H4 Lq (.lst ((S.take i).map fun c => uvs.getD c.toNat .non))) rfl (fun i H' _ h => ?_) (fun i x H' H'' hi h y => ?_) (fun H' h => ?_)
      · subst h
        exact sqt (upd_at hLq hT4)
      · obtain ⟨rfl, hx⟩ := y
        obtain ⟨c, hc, rfl⟩ := at_ints hx
        subst h
        have hm : c ∈ S := List.mem_of_getElem? hc
        have goon : ∃ xs, upd H4 Lq (.lst ((S.take i).map fun c => uvs.getD c.toNat .non)) Lq = some (.lst xs) ∧ xs.length < sizeLine ∧ upd (upd H4 Lq (.lst ((S.take i).map fun c => uvs.getD c.toNat .non))) Lq (.lst (xs ++ [uvs.getD c.toNat .non])) = upd H4 Lq (.lst ((S.take (i + 1)).map fun c => uvs.getD c.toNat .non)) := by
          refine ⟨_, upd_same, ?_, ?_⟩
          · rw [List.length_map, List.length_take, sizeLine_eq]
            omega
          · rw [upd_upd, List.take_add_one, hc, List.map_append]
            rfl
        obtain ⟨xs, g1, g2, g3⟩ := goon
        rcases hua with e | e
        · exact ⟨rfl, _, rfl, _, rfl, .inl ⟨ua, _, c, _, rfl, rfl, sqt (upd_at hLq (rnH _ _ una.1 una.2 e)), at4 c hm, xs, g1, g2, g3⟩⟩
        · exact ⟨rfl, _, rfl, _, rfl, .inr ⟨ua, _, c, _, rfl, rfl, sql (upd_at hLq (rnH _ _ una.1 una.2 e)), at4 c hm, xs, g1, g2, g3⟩⟩
      · rw [List.length_map, List.take_length] at h
        have sq : Same H4 (upd H4 Lq (.lst (S.map fun c => uvs.getD c.toNat .non))) := same_new hLq
        subst h
        refine ⟨.ref Lq, S.map fun c => doms.getD c.toNat [], rfl, .inr ⟨Lq, _, rfl, upd_same, paired_mono (fun _ _ z => (z.kt (rnH.kt hs)).kt (kt_same sq)) (pS S S_rg)⟩, by rw [List.length_map]; omega, fun e he => ?_, fun l2 H5 s5 hln hlr => ?_⟩
        · obtain ⟨c, hc, rfl⟩ := List.mem_map.mp he
          obtain ⟨c0, c1⟩ := S_rg c hc
          have lt : c.toNat < doms.length := by omega
          rw [List.getD_eq_getElem?_getD, List.getElem?_eq_getElem lt]
          exact d4 _ (List.getElem_mem lt)
        have RF : ∀ r ∈ rowsOf (S.map fun c => doms.getD c.toNat []), r.length ≤ 8 ∧ ∀ v ∈ r, Few v := fun r hr => by
          refine ⟨by rw [rowsOf_each _ _ rfl r hr, List.length_map]; omega, rowsOf_all _ _ rfl (fun e he => ?_) r hr⟩
          obtain ⟨c, hc, rfl⟩ := List.mem_map.mp he
          obtain ⟨c0, c1⟩ := S_rg c hc
          have lt : c.toNat < doms.length := by omega
          rw [List.getD_eq_getElem?_getD, List.getElem?_eq_getElem lt]
          exact dF _ (List.getElem_mem lt)
        have RL : (rowsOf (S.map fun c => doms.getD c.toNat [])).length ≤ 64 := Nat.le_trans (rowsOf_len _ _ rfl fun e he => by
          obtain ⟨c, hc, rfl⟩ := List.mem_map.mp he
          obtain ⟨c0, c1⟩ := S_rg c hc
          have lt : c.toNat < doms.length := by omega
          rw [List.getD_eq_getElem?_getD, List.getElem?_eq_getElem lt]
          exact d4 _ (List.getElem_mem lt)) (Nat.le_trans (Nat.pow_le_pow_right (by decide) (by rw [List.length_map]; exact S3)) (by decide))
        generalize rowsOf (S.map fun c => doms.getD c.toNat []) = RR at hlr RL RF
        obtain ⟨a2, rvs, e2, hrv, prv⟩ := hlr
        cases e2
        have sB := Same.tr sq s5
        have n2 := (hs4.same sq).none hln
        have hs5 := hs4.same sB
        have rn5 : Rn d cs H4 H5 := rn_same sB
        have rvl := prv.length
        refine ⟨l2, rfl, ⟨_, sql hrv⟩, fun Lr hLr => ?_⟩
        have nLr := hs5.none hLr
        refine lc_it (walk_list (K := K) (a := l2) (xs := rvs)) (fun i H' => ∃ (vs : List V) (rows : List (List Int)), H' Lr = some (.lst vs) ∧ Paired (IH H') vs rows ∧ (rows.length ≤ i ∧ ∀ r ∈ rows, r ∈ RR) ∧ SrcAt H' d cs ∧ Rn d cs H5 H')
          ⟨[], [], upd_same, .nil, ⟨Nat.le_refl _, fun r hr => by cases hr⟩, hs5.upd nLr.1 nLr.2, rn_same (same_new hLr)⟩ (fun i H' _ h => ?_) (fun i x H' H'' hi h y => ?_) (fun H' h => ?_)
        · obtain ⟨_, _, _, _, _, _, rn'⟩ := h
          exact sql (rn' _ _ n2.1 n2.2 hrv)
        · obtain ⟨rfl, hx⟩ := y
          obtain ⟨vs, rows, hv, pv', ⟨rl, rin⟩, hs', rn'⟩ := h
          obtain ⟨row, hrow, ir⟩ := paired_at prv hx
          refine ⟨rfl, _, rfl, d, cs, 3, rfl, hs', by decide, fun r6 H6 _ _ hs6 rn6 => ⟨_, _, rfl, rfl, _, rfl, ?_⟩⟩
          have hv6 := rn6 _ _ nLr.1 nLr.2 hv
          have p6 := paired_mono (fun _ _ z => IH.kt (Rn.kt hs' rn6) z) pv'
          have ir6 := ir.kt ((rn'.trans rn6).kt hs5)
          have vl := pv'.length
          by_cases g : r6 > 0
          · refine ifT (decide_eq_true g) ⟨_, rfl, _, hv6, by rw [sizeLine_eq]; omega, vs ++ [x], rows ++ [row], upd_same, paired_app (paired_mono (fun _ _ z => IH.kt (ktL hv6) z) p6) (paired_one (ir6.kt (ktL hv6))), ⟨by rw [List.length_append]; show rows.length + 1 ≤ _; omega, fun r hr => (List.mem_append.mp hr).elim (rin r) fun z => by rw [List.mem_singleton.mp z]; exact List.mem_of_getElem? hrow⟩, hs6.upd nLr.1 nLr.2, fun b o h1 h2 e => ?_⟩
            rw [upd_ne (fun z => by rw [z, hLr] at e; cases e)]
            exact rn6 b o h1 h2 (rn' b o h1 h2 e)
          · exact ifF (decide_eq_false g) ⟨vs, rows, hv6, p6, ⟨by omega, rin⟩, hs6, rn'.trans rn6⟩
        · obtain ⟨vs, rows, hv, pv', ⟨rl, rin⟩, hs', rn'⟩ := h
          refine ⟨_, rfl, _, rfl, Lr, vs, rfl, .inl ⟨sql hv, fun T9 hT9 => ⟨(show 3 ≤ sizeLine by decide), fun T3 hT3 => ?_⟩⟩⟩
          have s2 : Same H' (upd (upd H' T9 (.tup vs)) T3 (.tup [.str "table", .ref T, .ref T9])) := fun b o e => upd_at hT3 (upd_at hT9 e)
          have rnA := rn5.trans rn'
          exact fin (.ref T3) (.table S rows) _ rfl ⟨by omega, fun r hr => RF r (rin r hr)⟩ trivial (by show rows.length ≤ 65536; omega) (hs'.same s2) (rnA.trans (rn_same s2)) ⟨T3, .ref T, .ref T9, rfl, upd_same, (iS.kt (rnA.kt hs4)).kt (kt_same s2), ⟨T9, vs, rfl, upd_at hT3 upd_same, paired_mono (fun _ _ z => IH.kt (kt_same s2) z) pv'⟩⟩
    · refine ⟨_, rfl, rfl, _, rfl, ifF (by decide) ?_⟩
      refine ⟨_, rfl, rfl, _, rfl, ifT (by decide) ?_⟩
      refine ifT rfl ?_
      exact ⟨_, rfl, (show 2 ≤ sizeLine by decide), unl⟩
    -- sum
    · refine ⟨_, rfl, rfl, _, rfl, ifF (by decide) ?_⟩
      refine ⟨_, rfl, rfl, _, rfl, ifF (by decide) ?_⟩
      refine ⟨_, rfl, rfl, _, rfl, ifF (by decide) (ifF rfl ?_)⟩
      refine ⟨_, rfl, rfl, _, rfl, ifT (by decide) ?_⟩
      refine ⟨_, rfl, d, cs, 6, rfl, hs4, by decide, fun r5 H5 _ b5 hs5 rn5 => ?_⟩
      refine ⟨_, rfl, _, rfl, _, rfl, _, rfl, d, cs, 3, rfl, hs5, by decide, fun r6 H6 _ b6 hs6 rn6 => ⟨_, _, rfl, rfl, (show 4 ≤ sizeLine by decide), fun T2 hT2 => ?_⟩⟩
      have b5' := b5 (by decide)
      have b6' := b6 (by decide)
      exact fin (.ref T2) (.sum S r5 (r5 + r6)) _ rfl ⟨⟨by omega, by omega⟩, by omega, by omega⟩ trivial trivial (hs6.same (same_new hT2)) ((Rn.trans rn5 rn6).trans (rn_same (same_new hT2))) ⟨T2, .ref T, rfl, upd_same, (iS.kt (Rn.kt hs4 (Rn.trans rn5 rn6))).kt (kt_same (same_new hT2))⟩
    -- count
    · refine ⟨_, rfl, rfl, _, rfl, ifF (by decide) ?_⟩
      refine ⟨_, rfl, rfl, _, rfl, ifF (by decide) ?_⟩
      refine ⟨_, rfl, rfl, _, rfl, ifF (by decide) (ifF rfl ?_)⟩
      refine ⟨_, rfl, rfl, _, rfl, ifF (by decide) ?_⟩
      refine ⟨_, rfl, rfl, _, rfl, ifT (by decide) ?_⟩
      refine ⟨_, rfl, _, rfl, T, _, rfl, .inr (sqt hT4), d, cs, _, rfl, hs4, by rw [List.length_map]; omega, fun r5 H5 a5 b5 hs5 rn5 => ?_⟩
      refine ⟨_, rfl, d, cs, 2, rfl, hs5, by decide, fun r6 H6 _ b6 hs6 rn6 => ⟨_, rfl, d, cs, 2, rfl, hs6, by decide, fun r8 H7 _ b8 hs7 rn7 => ⟨_, _, rfl, rfl, (show 2 ≤ sizeLine by decide), fun Tv hTv => ?_⟩⟩⟩
      have sv : Same H7 (upd H7 Tv (.tup [.int r6, .int (2 + r8)])) := same_new hTv
      have hs8 := hs7.same sv
      refine ⟨_, rfl, _, rfl, _, rfl, _, rfl, _, rfl, d, cs, 2, rfl, hs8, by decide, fun r9 H8 _ b9 hs9 rn9 => ⟨_, _, rfl, rfl, (show 5 ≤ sizeLine by decide), fun T2 hT2 => ?_⟩⟩
      have rnA : Rn d cs H4 H8 := (((Rn.trans rn5 rn6).trans rn7).trans (rn_same sv)).trans rn9
      have iv : IH H8 (.ref Tv) [r6, 2 + r8] := IH.kt (Rn.kt hs8 rn9) ⟨Tv, rfl, upd_same⟩
      have b6' := b6 (by decide)
      have b8' := b8 (by decide)
      have b9' := b9 (by decide)
      have b5' : 0 ≤ r5 ∧ r5 < 4 := by
        rw [List.length_map] at a5 b5
        by_cases z : ((S.length : Nat) : Int) < 2
        · have := a5 z
          omega
        · have := b5 (by omega)
          omega
      exact fin (.ref T2) (.count S [r6, 2 + r8] r5 (r5 + r9)) _ rfl ⟨⟨by show 2 ≤ 8; decide, fun v hv => by
        rcases List.mem_cons.mp hv with z | z
        · rw [z]; exact ⟨by omega, by omega⟩
        · rw [List.mem_singleton.mp z]; exact ⟨by omega, by omega⟩⟩, ⟨by omega, by omega⟩, by omega, by omega⟩ trivial trivial (hs9.same (same_new hT2)) (rnA.trans (rn_same (same_new hT2))) ⟨T2, .ref T, .ref Tv, rfl, upd_same, (iS.kt (rnA.kt hs4)).kt (kt_same (same_new hT2)), iv.kt (kt_same (same_new hT2))⟩
    -- below
    · refine ⟨_, rfl, rfl, _, rfl, ifF (by decide) ?_⟩
      refine ⟨_, rfl, rfl, _, rfl, ifF (by decide) ?_⟩
      refine ⟨_, rfl, rfl, _, rfl, ifT (by decide) ?_⟩
      refine ⟨_, rfl, T, _, rfl, .inr (sqt hT4), _, _, rfl, rfl, _, rfl, ?_⟩
      by_cases g : (((S.map V.int).length : Nat) : Int) < 2
      · refine ifT (decide_eq_true g) ?_
        exact ⟨_, rfl, (show 2 ≤ sizeLine by decide), unl⟩
      · refine ifF (decide_eq_false g) ?_
        refine ⟨_, rfl, rfl, _, rfl, ifF (by decide) ?_⟩
        refine ⟨_, rfl, rfl, _, rfl, ifF (by decide) ?_⟩
        refine ⟨_, rfl, rfl, _, rfl, ifT (by decide) ?_⟩
        obtain ⟨x, y, rest, eS⟩ : ∃ x y rest, S = x :: y :: rest := by
          match S, g with
          | x :: y :: rest, _ => exact ⟨x, y, rest, rfl⟩
          | [x], g => exact absurd (show (1 : Int) < 2 by decide) g
          | [], g => exact absurd (show (0 : Int) < 2 by decide) g
        subst eS
        refine ⟨_, rfl, T, _, 0, _, rfl, rfl, sqt hT4, (show atI ((x :: y :: rest).map V.int) ((0 : Nat) : Int) = some (V.int x) from L2.atI_nat rfl), _, rfl, T, _, 1, _, rfl, rfl, sqt hT4, (show atI ((x :: y :: rest).map V.int) ((1 : Nat) : Int) = some (V.int y) from L2.atI_nat rfl), (show 3 ≤ sizeLine by decide), fun T2 hT2 => ?_⟩
        have nd2 : [x, y].Nodup := (List.Sublist.nodup (List.Sublist.cons₂ x (List.Sublist.cons₂ y (List.nil_sublist rest))) S_nd)
        exact k (.ref T2) (.below x y) _ ⟨trivial, (show 2 ≤ 8 by decide), ⟨nd2, (show 2 ≤ 100 by decide), trivial⟩, (fun z => nomatch z), trivial, fun c hc => S_rg c (by
          rcases List.mem_cons.mp hc with z | z
          · rw [z]; exact List.mem_cons_self ..
          · rw [List.mem_singleton.mp z]; exact List.mem_cons_of_mem _ (List.mem_cons_self ..))⟩ (hs4.same (same_new hT2)) (rnH.trans (rn_same (same_new hT2))) ⟨T2, rfl, upd_same⟩
    -- runs
    · refine ⟨_, rfl, rfl, _, rfl, ifF (by decide) ?_⟩
      refine ⟨_, rfl, rfl, _, rfl, ifF (by decide) ?_⟩
      refine ⟨_, rfl, rfl, _, rfl, ifF (by decide) (ifF rfl ?_)⟩
      refine ⟨_, rfl, rfl, _, rfl, ifF (by decide) ?_⟩
      refine ⟨_, rfl, rfl, _, rfl, ifF (by decide) ?_⟩
      refine ⟨_, rfl, rfl, _, rfl, ifF (by decide) ?_⟩
      refine ⟨_, rfl, rfl, _, rfl, ifT (by decide) ?_⟩
      refine ⟨_, rfl, (show 0 ≤ sizeLine by decide), fun A1 h1 => ⟨(show 1 ≤ sizeLine by decide), fun A2 h2 => ⟨(show 1 ≤ sizeLine by decide), fun A3 h3 => ⟨(show 2 ≤ sizeLine by decide), fun A4 h4 => ⟨(show 4 ≤ sizeLine by decide), fun L hL => ?_⟩⟩⟩⟩⟩
      have s1 := same_new (o := .tup []) h1
      have s2 := same_new (o := .tup [.int 1]) h2
      have s3 := same_new (o := .tup [.int 2]) h3
      have s4 := same_new (o := .tup [.int 1, .int 1]) h4
      have s5 := same_new (o := .lst [.ref A1, .ref A2, .ref A3, .ref A4]) hL
      have sA := Same.tr (Same.tr (Same.tr (Same.tr s1 s2) s3) s4) s5
      have q1 := s5 _ _ (s4 _ _ (s3 _ _ (s2 _ _ (upd_same (H := H4) (a := A1) (o := .tup [])))))
      have q2 := s5 _ _ (s4 _ _ (s3 _ _ (upd_same (a := A2) (o := .tup [.int 1]))))
      have q3 := s5 _ _ (s4 _ _ (upd_same (a := A3) (o := .tup [.int 2])))
      have q4 := s5 _ _ (upd_same (a := A4) (o := .tup [.int 1, .int 1]))
      have nL := (hs4.same (Same.tr (Same.tr (Same.tr s1 s2) s3) s4)).none hL
      have hL' : upd _ L (HO.lst [.ref A1, .ref A2, .ref A3, .ref A4]) L = some (.lst [.ref A1, .ref A2, .ref A3, .ref A4]) := upd_same (H := upd (upd (upd (upd H4 A1 (.tup [])) A2 (.tup [.int 1])) A3 (.tup [.int 2])) A4 (.tup [.int 1, .int 1]))
      have hs5 := hs4.same sA
      generalize upd _ L (HO.lst [.ref A1, .ref A2, .ref A3, .ref A4]) = H5 at sA q1 q2 q3 q4 hL' hs5 ⊢
      refine ⟨_, rfl, d, cs, 4, rfl, hs5, by decide, fun r6 H6 _ e6 hs6 rn6 => ?_⟩
      have rb := e6 (by decide)
      obtain ⟨b, ls, hat, hb, hnum⟩ : ∃ (b : Addr) (ls : List Int), atI ([.ref A1, .ref A2, .ref A3, .ref A4] : List V) r6 = some (.ref b) ∧ H5 b = some (.tup (ls.map V.int)) ∧ ls.length ≤ 8 ∧ ∀ v ∈ ls, Few v := by
        have c4 : r6 = 0 ∨ r6 = 1 ∨ r6 = 2 ∨ r6 = 3 := by omega
        rcases c4 with rfl | rfl | rfl | rfl
        · exact ⟨A1, [], rfl, q1, by decide, by decide⟩
        · exact ⟨A2, [1], rfl, q2, by decide, by decide⟩
        · exact ⟨A3, [2], rfl, q3, by decide, by decide⟩
        · exact ⟨A4, [1, 1], rfl, q4, by decide, by decide⟩
      have ib : IH H6 (.ref b) ls := IH.kt (Rn.kt hs5 rn6) ⟨b, rfl, hb⟩
      refine ⟨L, _, r6, _, rfl, rfl, sql (rn6 _ _ nL.1 nL.2 hL'), hat, (show 3 ≤ sizeLine by decide), fun T2 hT2 => ?_⟩
      have rnA : Rn d cs H4 H6 := (rn_same sA).trans rn6
      exact fin (.ref T2) (.runs S ls) _ rfl hnum trivial trivial (hs6.same (same_new hT2)) (rnA.trans (rn_same (same_new hT2))) ⟨T2, .ref T, .ref b, rfl, upd_same, (iS.kt (rnA.kt hs4)).kt (kt_same (same_new hT2)), ib.kt (kt_same (same_new hT2))⟩
    · refine ⟨_, rfl, rfl, _, rfl, ifF (by decide) ?_⟩
      refine ⟨_, rfl, rfl, _, rfl, ifF (by decide) ?_⟩
      refine ⟨_, rfl, rfl, _, rfl, ifF (by decide) (ifF rfl ?_)⟩
      refine ⟨_, rfl, rfl, _, rfl, ifF (by decide) ?_⟩
      refine ⟨_, rfl, rfl, _, rfl, ifF (by decide) ?_⟩
      refine ⟨_, rfl, rfl, _, rfl, ifF (by decide) ?_⟩
      refine ⟨_, rfl, rfl, _, rfl, ifF (by decide) ?_⟩
      have ne0 : HT.sIx (S.map V.int).length 0 (some 1) = 1 := by
        have l1 : 1 ≤ (S.map V.int).length := by rw [List.length_map]; exact S1
        rw [show (some (1 : Int)) = some ((1 : Nat) : Int) from rfl, HT.sIx_nat]
        omega
      refine ⟨_, rfl, _, rfl, 1, rfl, T, _, rfl, sqt hT4, fun e => absurd e.1 (by rw [ne0]; decide), fun _ A hA => ?_⟩
      have ec : cutV (S.map V.int) (some 1) none = (S.drop 1).map V.int := by
        unfold cutV
        rw [ne0, List.map_drop]
        refine List.take_of_length_le ?_
        rw [List.length_drop]
        simp [HT.sIx]
      rw [ec]
      have sA := same_new (o := .tup ((S.drop 1).map V.int)) hA
      have hA5 : upd H4 A (.tup ((S.drop 1).map V.int)) A = some (.tup ((S.drop 1).map V.int)) := upd_same
      have hT5 := sA _ _ hT4
      have hs5 := hs4.same sA
      have rn5 : Rn d cs H4 (upd H4 A (.tup ((S.drop 1).map V.int))) := rn_same sA
      generalize upd H4 A (.tup ((S.drop 1).map V.int)) = H5 at hA5 hT5 hs5 rn5 ⊢
      refine ⟨T, A, _, _, rfl, sqt hT5, sqt hA5, fun L hL => ?_⟩
      have nL := hs5.none hL
      have nA := hs5.ne hA5
      have nT5 := hs5.ne hT5
      refine lc_it (walk_zip1 (xs := S.map V.int) (ys := (S.drop 1).map V.int) (n := S.length - 1) (by simp)) (fun i H' => ∃ tvs : List V, H' L = some (.lst tvs) ∧ (∀ x ∈ tvs, ∃ (t : Addr) (p q : Int), x = V.ref t ∧ H' t = some (.tup [.int p, .int q]) ∧ Few p ∧ Few q) ∧ tvs.length ≤ i ∧ SrcAt H' d cs ∧ Rn d cs H5 H')
        ⟨[], upd_same, (fun x hx => by cases hx), Nat.le_refl _, hs5.upd nL.1 nL.2, rn_same (same_new hL)⟩ (fun i H' _ h => ?_) (fun i x H' H'' hi h y => ?_) (fun H' h => ?_)
      · obtain ⟨_, _, _, _, _, rn'⟩ := h
        exact ⟨sqt (rn' _ _ nT5.1 nT5.2 hT5), sqt (rn' _ _ nA.1 nA.2 hA5)⟩
      · obtain ⟨T1, e1, e2, rfl, hT1, rfl, h1, h2⟩ := y
        obtain ⟨tvs, hLv, each, tl, hs', rn'⟩ := h
        obtain ⟨c1, hc1, rfl⟩ := at_ints h1
        obtain ⟨c2, hc2, rfl⟩ := at_ints h2
        have s1 := same_new (o := .tup [V.int c1, V.int c2]) hT1
        have hs6 := hs'.same s1
        have hLv6 := s1 _ _ hLv
        have hT6 : upd H' T1 (.tup [V.int c1, V.int c2]) T1 = some (.tup [V.int c1, V.int c2]) := upd_same
        have each6 : ∀ x ∈ tvs, ∃ (t : Addr) (p q : Int), x = V.ref t ∧ upd H' T1 (.tup [V.int c1, V.int c2]) t = some (.tup [.int p, .int q]) ∧ Few p ∧ Few q := fun x hx => by
          obtain ⟨t, p, q, e, z, fz⟩ := each x hx
          exact ⟨t, p, q, e, s1 _ _ z, fz⟩
        have rn6 : Rn d cs H5 (upd H' T1 (.tup [V.int c1, V.int c2])) := rn'.trans (rn_same s1)
        generalize upd H' T1 (.tup [V.int c1, V.int c2]) = H6 at hs6 hLv6 hT6 each6 rn6 ⊢
        have nT1 := hs6.ne hT6
        refine ⟨rfl, _, rfl, d, cs, 4, rfl, hs6, by decide, fun r8 H7 _ _ hs7 rn7 => ⟨_, _, rfl, rfl, _, rfl, ?_⟩⟩
        have hLv7 := rn7 _ _ nL.1 nL.2 hLv6
        have hT7 := rn7 _ _ nT1.1 nT1.2 hT6
        have each7 : ∀ x ∈ tvs, ∃ (t : Addr) (p q : Int), x = V.ref t ∧ H7 t = some (.tup [.int p, .int q]) ∧ Few p ∧ Few q := fun x hx => by
          obtain ⟨t, p, q, e, z, fz⟩ := each6 x hx
          have nt := hs6.ne z
          exact ⟨t, p, q, e, rn7 _ _ nt.1 nt.2 z, fz⟩
        by_cases g : r8 > 0
        · refine ifT (decide_eq_true g) ?_
          refine ⟨_, rfl, T1, [c1, c2], rfl, sqt hT7, fun ns' p pm _ hp => ⟨p, _, rfl, .inl ⟨sql upd_same, fun l' hl' => ?_⟩⟩⟩
          obtain ⟨u1, u2, rfl⟩ : ∃ u1 u2, ns' = [u1, u2] := by
            have := pm.length_eq
            match ns', this with
            | [u1, u2], _ => exact ⟨u1, u2, rfl⟩
          have fu : ∀ v ∈ [u1, u2], Few v := fun v hv => by
            have h1 := pm.mem_iff.mp hv
            rcases List.mem_cons.mp h1 with z | z
            · rw [z]
              have := S_rg c1 (List.mem_of_getElem? hc1)
              exact ⟨by omega, by omega⟩
            · rw [List.mem_singleton.mp z]
              have := S_rg c2 (List.drop_subset _ _ (List.mem_of_getElem? hc2))
              exact ⟨by omega, by omega⟩
          have s2 : Same H7 (upd (upd H7 p (.lst ([u1, u2].map V.int))) l' (.tup ([u1, u2].map V.int))) := fun b o e => upd_at hl' (upd_at hp e)
          have hl8 : upd (upd H7 p (.lst ([u1, u2].map V.int))) l' (.tup ([u1, u2].map V.int)) l' = some (.tup [.int u1, .int u2]) := upd_same
          have hs8 := hs7.same s2
          have hLv8 := s2 _ _ hLv7
          have each8 : ∀ x ∈ tvs, ∃ (t : Addr) (p q : Int), x = V.ref t ∧ upd (upd H7 _ (.lst ([u1, u2].map V.int))) l' (.tup ([u1, u2].map V.int)) t = some (.tup [.int p, .int q]) ∧ Few p ∧ Few q := fun x hx => by
            obtain ⟨t, p, q, e, z, fz⟩ := each7 x hx
            exact ⟨t, p, q, e, s2 _ _ z, fz⟩
          have rn8 : Rn d cs H5 (upd (upd H7 p (.lst ([u1, u2].map V.int))) l' (.tup ([u1, u2].map V.int))) := (rn6.trans rn7).trans (rn_same s2)
          generalize upd (upd H7 p (.lst ([u1, u2].map V.int))) l' (.tup ([u1, u2].map V.int)) = H8 at hl8 hs8 hLv8 each8 rn8 ⊢
          have keepT : ∀ {t : Addr} {p q : Int}, H8 t = some (.tup [.int p, .int q]) → upd H8 L (.lst (tvs ++ [.ref l'])) t = some (.tup [.int p, .int q]) := fun {t p q} e => by
            rw [upd_ne (ne_of e hLv8 fun z => by cases z)]
            exact e
          refine ⟨_, hLv8, by rw [sizeLine_eq]; omega, tvs ++ [.ref l'], upd_same, fun x hx => ?_, by rw [List.length_append]; show tvs.length + 1 ≤ _; omega, hs8.upd nL.1 nL.2, fun b o n1 n2 e => ?_⟩
          · rcases List.mem_append.mp hx with z | z
            · obtain ⟨t, p, q, e, w, fz⟩ := each8 x z
              exact ⟨t, p, q, e, keepT w, fz⟩
            · exact ⟨l', u1, u2, List.mem_singleton.mp z, keepT hl8, fu _ (List.mem_cons_self ..), fu _ (List.mem_cons_of_mem _ (List.mem_cons_self ..))⟩
          · rw [upd_ne (fun z => by rw [z, hL] at e; cases e)]
            exact rn8 b o n1 n2 e
        · exact ifF (decide_eq_false g) ⟨tvs, hLv7, each7, by omega, hs7, rn6.trans rn7⟩
      · obtain ⟨tvs, hLv, each, tl, hs', rn'⟩ := h
        refine ⟨_, rfl, _, rfl, L, tvs, rfl, sql hLv, (fun x hx => let ⟨t, p, q, e, z, _⟩ := each x hx; ⟨t, p, q, e, z⟩), fun ys p pm hp => ⟨p, _, rfl, .inl ⟨sql upd_same, fun T9 hT9 => ⟨(show 2 ≤ sizeLine by decide), fun T2 hT2 => ⟨(show 4 ≤ sizeLine by decide), fun T3 hT3 => ?_⟩⟩⟩⟩⟩
        have s2 : Same H' (upd (upd (upd (upd H' p (.lst ys)) T9 (.tup ys)) T2 (.tup [.int 1, .int 2])) T3 (.tup [.str "joined", .ref T, .ref T9, .ref T2])) := fun b o e => upd_at hT3 (upd_at hT2 (upd_at hT9 (upd_at hp e)))
        obtain ⟨ties, pt, ptl, pfw⟩ := pairs_of (fun x hx => each x (pm.mem_iff.mp hx))
        have rnA := rn5.trans rn'
        exact fin (.ref T3) (.joined S ties [1, 2]) _ rfl ⟨⟨by have := pm.length_eq; omega, pfw⟩, by show 2 ≤ 8; decide, by decide⟩ (by show ties.length ≤ 100; have := pm.length_eq; omega) trivial (hs'.same s2) (rnA.trans (rn_same s2)) ⟨T3, .ref T, .ref T9, .ref T2, rfl, upd_same, (iS.kt (rnA.kt hs4)).kt (kt_same s2), ⟨T9, ys, rfl, upd_at hT3 (upd_at hT2 upd_same), paired_map (paired_mono (fun _ _ z => IH.kt (kt_same s2) z) pt)⟩, ⟨T2, rfl, upd_at hT3 upd_same⟩⟩
end
end G9

set_option Elab.async false
set_option linter.all false
set_option maxRecDepth 100000
set_option maxHeartbeats 8000000
/-! set(l), l a list of ints -/
namespace GX
open PySem PySem.Spec PyProof.Rows L2
section
variable {P : Program} {w : World} {A : Around} {E : Value → Shared → Prop} {s : Shared}
/-- a set as it is made -/
abbrev blank (w : World) : Obj := { cls := .type "set", dict := none, data := .set #[] 0 (.fresh 0 0 (!w.params.followText "set-order")) }
theorem set_of_list {l : Addr} {items : Array Value} (ns : List Int) {Q : Value → Shared → Prop} (hh : A.handled = none) (hl : s.heap.IsList l items) (areInts : IntsAre items.toList ns) (few : ns.length + 1 < scanBound)
    (fin : ∀ (h' : Heap) (tk c : Nat), SetR w h' s.heap.objs.size (fun j => decide (j ∈ ns)) c → c ≤ ns.length → (∀ b o, s.heap.get? b = some o → h'.get? b = some o) → Q (.ref s.heap.objs.size) { s with heap := h', toks := tk }) :
    wpAny (model P w) A (call (.type "set") [.ref l]) Q E s := by
  have count : items.size = ns.length := (Array.length_toList (xs := items)).symm.trans (IntsAre.length areInts)
  obtain ⟨c, tl, hmro⟩ := F.called_set.mro
  have made := F.called_set.made
  have sub := F.called_set.sub
  refine wpAny_call (codeAny_of_tree ?_)
  show wpAny _ _ (callAny (.type "set") _) _ _ _
  refine wpAny_pure ⟨Code.quiet_builtin _ (by decide +kernel), codeAny_builtin F.entry_type_call ?_⟩
  rw [Around.under_plain (weight_type_call_type "set" [.ref l] []) rfl]
  have notType := F.called_set.notType
  have can := F.called_set.canCreate
  have chk := F.typeCall_set_1 (.ref l)
  repeat any_goals (first | assumption | wp_step)
  refine codeAny_mono (code_set_led1 (.ref l) (E := E) (Q₁ := fun obj s₁ => obj = .ref s.heap.objs.size ∧ s₁ = { s with heap := s.heap.push (blank w) }) ⟨rfl, rfl⟩) fun r s₁ hr => ?_
  cases r with
  | error e => exact hr
  | ok fl =>
    cases fl with
    | ret obj =>
      obtain ⟨rfl, rfl⟩ := hr
      have at0 : (s.heap.push (blank w)).get? s.heap.objs.size = some (blank w) := Heap.get?_push_size _ rfl
      have ty0 : Shared.TypeIs { s with heap := s.heap.push (blank w) } (.ref s.heap.objs.size) "set" := ⟨_, at0, rfl⟩
      have lookInit := F.called_set.init.lookup
      have bindInit := F.called_set.init.bind (.ref s.heap.objs.size)
      repeat any_goals (first | assumption | wp_step)
      refine codeAny_mono (codeAny_call_builtin (R := wants (fun r s₂ => r = .none ∧ ∃ h' tk c, s₂ = { s with heap := h', toks := tk } ∧ SetR w h' s.heap.objs.size (fun j => decide (j ∈ ns)) c ∧ c ≤ ns.length ∧ ∀ b o, s.heap.get? b = some o → h'.get? b = some o) E) F.called_set.init.plain F.entry_set_init (check_set_init_1 ty0 ?_)) fun r₂ s₂ hr₂ => ?_
      · obtain ⟨⟨oc, od, odata, osl⟩, oat, ocls, nl, odat⟩ := hl
        simp only at ocls odat
        subst ocls
        subst odat
        have oat1 : (s.heap.push (blank w)).get? l = some { cls := .type "list", dict := od, data := .seq items nl, slots := osl } := Heap.get?_push_of_some _ oat
        have no1 := F.sub_list_set
        have no2 := F.sub_list_frozenset
        have no3 : (Value.type "list" == Value.type "dict") = false := by decide
        have list1 : (s.heap.push (blank w)).IsList l items := ⟨_, oat1, rfl, nl, rfl⟩
        unfold Builtin.«set.__init__» noKeywords Builtin.Frozenset.updateFrom
        generalize hPI : pyIter = PI
        wp_walk
        subst hPI
        refine wpAny_pyIter_list list1 (wpAny_bind (wpAny_runValue ?_))
        have low : l < s.heap.objs.size := Heap.lt_size oat
        have size1 : (s.heap.push (blank w)).objs.size = s.heap.objs.size + 1 := Heap.size_push ..
        have apartI : l ≠ (s.heap.push (blank w)).objs.size := by rw [size1]; exact Nat.ne_of_lt (Nat.lt_succ_of_lt low)
        have apartS : s.heap.objs.size ∉ [(s.heap.push (blank w)).objs.size, l] := by
          rw [size1]
          exact notin2 (Nat.ne_of_lt (Nat.lt_succ_self _)) (Nat.ne_of_gt low)
        have vals : ∀ (i : Nat) (v : Value), items[i]? = some v → ∃ k t, ns[i]? = some k ∧ v = .int k t := fun i v hv => by
          have hi : i < ns.length := by rw [← count]; exact (Array.getElem?_eq_some_iff.mp hv).1
          obtain ⟨t, e⟩ := PyProof.Rows.IntsAre.int_at areInts i v (by rw [Array.getElem?_toList]; exact hv)
          have gd : ns.getD i 0 = ns[i] := by rw [List.getD_eq_getElem?_getD, List.getElem?_eq_getElem hi]; rfl
          exact ⟨ns[i], t, List.getElem?_eq_getElem hi, by rw [e, gd]⟩
        have clean : A.in1.in1.in1.handled = none := by simp [hh]
        refine set_update_ints ((Walks.list clean _ l apartI items).toS) s.heap.objs.size apartS ns count few vals (items.size - 0) 0 _ (by omega) (Nat.zero_le _) ⟨⟨_, Heap.get?_push_size _ rfl, rfl, rfl⟩, list1.push _⟩ ⟨0, Nat.le_refl 0, setR_new_at (Heap.get?_push_of_some _ at0)⟩ fun s' c' hm hc' hS' => ?_
        obtain ⟨h', g2, d', tk', os'⟩ := s'
        obtain rfl : g2 = s.gens := hm.gens
        obtain rfl : d' = s.drawn := hm.drawn
        obtain rfl : os' = s.os := hm.os
        show wpAny _ _ _ _ _ _
        refine wpAny_pure ?_
        show wpAny _ _ (ret Value.none) _ _ _
        rw [count] at hc'
        refine wpAny_pure ⟨rfl, h', tk', c', rfl, hS', hc', fun b o e => ?_⟩
        have lowb : b < s.heap.objs.size := Heap.lt_size e
        exact hm.heap b o (by
          rw [size1]
          simp only [List.mem_cons, List.not_mem_nil, or_false, not_or]
          exact ⟨Nat.ne_of_lt lowb, Nat.ne_of_lt (Nat.lt_succ_of_lt lowb)⟩) (Heap.get?_push_of_some _ (Heap.get?_push_of_some _ e))
      · cases r₂ with
        | error e => exact hr₂
        | ok fl₂ =>
          cases fl₂ with
          | ret r =>
            obtain ⟨rfl, h', tk, c', rfl, g1, g2, g3⟩ := hr₂
            repeat any_goals (first | assumption | wp_step)
            exact fin _ _ _ g1 g2 g3
          | _ => exact False.elim hr₂
    | _ => exact False.elim hr
end
theorem cr_setL {X : Cx} (hc : X.calm = true) : CallR X (.type "set") (fun xs H Q => ∃ (l : Addr) (ns : List Int), xs = [V.ref l] ∧ SqL X.K H l (ns.map V.int) ∧ ns.length ≤ 1000 ∧ ∀ (a : Addr) (c : Nat), H a = none → c ≤ ns.length → Q (.ref a) (upd H a (SetO X.w a (fun j => decide (j ∈ ns)) c))) := by
  intro pins s σ H xs us Q I r h
  obtain ⟨l, ns, rfl, hs, hl, q⟩ := h
  obtain ⟨its, rv, pl, hz⟩ := I.list hs
  rw [Vals.ref1 r]
  refine set_of_list ns (I.ok.hd hc) pl.isList (by simpa using RZ.intsAre_vals rv) (by unfold scanBound; omega) fun h' tk c R hc2 k => ?_
  exact ⟨.ref s.heap.objs.size, _, I.laid (t' := tk) k (Nat.le_refl _) (setO_new R), rfl, q _ c (I.hok.fresh (Nat.le_refl _)) hc2⟩
end GX

set_option Elab.async false
set_option linter.all false
set_option maxRecDepth 100000
set_option maxHeartbeats 4000000
/-! part_of, common_part -/
namespace G9
open PySem PySem.Spec PyProof.Rows L2 GX
/-- a row's pairs at some cells -/
def pairsAt (row ks : List Int) : List (Int × Int) := ks.map fun c => (c, row.getD c.toNat 0)
def spPartOf : Sp := fun vs H Q _ => ∃ (v : V) (row : List Int) (l : Addr) (cs : List Int), vs = [v, .ref l] ∧ IH H v row ∧ H l = some (.lst (cs.map V.int)) ∧ cs.length < 64 ∧ (∀ c ∈ cs, 0 ≤ c ∧ c < (row.length : Int)) ∧ ∀ (w : V) (ks : List Int) (H' : Hp), Same H H' → ks.Pairwise (· < ·) → (∀ c, c ∈ ks ↔ c ∈ cs) → RowsH H' w ((pairsAt row ks).map tie2) → Q w H'
def spCommon (pT : Addr) : Sp := fun vs H Q _ => ∃ u p, vs = [u] ∧ PzH H u p ∧ PzOk p ∧ GxR.TabG H pT ∧ (∀ H', Kb H H' → answersOf p = [] → Q .non H') ∧
  ∀ (w : V) (ks row : List Int) (rest : List (List Int)) (H' : Hp), Kb H H' → answersOf p = row :: rest → ks.Pairwise (· < ·) → (∀ c, c ∈ ks ↔ ∃ j : Nat, j < row.length ∧ isFree p row j = false ∧ c = (j : Int)) → RowsH H' w ((pairsAt row ks).map tie2) → (∃ a, w = .ref a) → Q w H'
section
variable {P : Program} {w : World} {K : PySem.W.Frag} {mg : Str → Option Value} {base : Heap} {f f1 f2 f3 : Addr} {fd fd1 fd2 fd3 : FuncData} {pT : Addr}
end
end G9

set_option Elab.async false
set_option linter.all false
set_option maxRecDepth 100000
set_option maxHeartbeats 4000000
/-! answers of puzzles that are changed -/
namespace G9
open PySem PySem.Spec PyProof.Rows L2 GX
theorem ans_add (p : Puz) (r : Rul) : answersOf (addRules p [r]) = (answersOf p).filter fun row => fitsB r (pick row (Rul.cells r)) := by
  unfold answersOf
  rw [List.filter_filter]
  refine List.filter_congr fun row _ => ?_
  unfold isAns allFit addRules
  rw [List.map_append, List.all_append]
  simp [Bool.and_comm]
theorem ans_drop (p : Puz) {j : Nat} {r : Rul} (h : p.rules[j]? = some r) : (answersOf (dropRule p j)).filter (fun row => fitsB r (pick row (Rul.cells r))) = answersOf p := by
  have hj := (List.getElem?_eq_some_iff.mp h).1
  have e : p.rules = p.rules.take j ++ r :: p.rules.drop (j + 1) := by
    conv => lhs; rw [← List.take_append_drop j p.rules]
    rw [List.drop_eq_getElem_cons hj, (List.getElem?_eq_some_iff.mp h).2]
  unfold answersOf
  rw [List.filter_filter]
  refine List.filter_congr fun row _ => ?_
  unfold isAns allFit dropRule
  conv => rhs; rw [e]
  simp only [List.map_append, List.map_cons, List.all_append, List.all_cons, id]
  cases (List.map (fun r => fitsB r (pick row (Rul.cells r))) (p.rules.take j)).all id <;> cases fitsB r (pick row (Rul.cells r)) <;> simp
/-- rows of domains that keep some of their values -/
theorem rows_filter (P : Nat → Int → Bool) (g : Nat → List Int → List Int) : ∀ (n : Nat) (ds : List (List Int)), ds.length = n → (∀ (c : Nat) (d : List Int), ds[c]? = some d → g c d = d.filter (P c)) →
    rowsOf (idxMap g 0 ds) = (rowsOf ds).filter fun row => (List.range n).all fun c => P c (row.getD c 0)
  | 0, [], _, _ => by simp [rowsOf, idxMap]
  | n + 1, ds, h, hg => by
    have ne : ds ≠ [] := fun z => by rw [z] at h; cases h
    have e := List.dropLast_concat_getLast ne
    have hl : ds.dropLast.length = n := by rw [List.length_dropLast, h]; rfl
    have last : ds[n]? = some (ds.getLast ne) := by
      rw [List.getLast_eq_getElem, ← List.getElem?_eq_getElem]
      congr 1
      omega
    have ih := rows_filter P g n ds.dropLast hl fun c d hc => hg c d (by
      rw [List.getElem?_dropLast] at hc
      split at hc
      · exact hc
      · cases hc)
    have gl := hg n _ last
    generalize ds.getLast ne = d at *
    generalize ds.dropLast = es at *
    subst e
    rw [idxMap_snoc, rowsOf_snoc, rowsOf_snoc, ih, hl, Nat.zero_add, gl]
    have step : ∀ (A : List (List Int)), (∀ q ∈ A, q.length = n) → grow (A.filter fun row => (List.range n).all fun c => P c (row.getD c 0)) (d.filter (P n)) = (grow A d).filter fun row => (List.range (n + 1)).all fun c => P c (row.getD c 0) := by
      intro A
      induction A with
      | nil => intro _; rfl
      | cons a A ihA =>
        intro hA
        have al := hA a (List.mem_cons_self ..)
        have ihA := ihA fun q hq => hA q (List.mem_cons_of_mem _ hq)
        have eg : ∀ (B : List (List Int)) (b dd : List Int), grow (b :: B) dd = dd.map (fun v => b ++ [v]) ++ grow B dd := fun _ _ _ => rfl
        have one : (d.map fun v => a ++ [v]).filter (fun row => (List.range (n + 1)).all fun c => P c (row.getD c 0)) = if ((List.range n).all fun c => P c (a.getD c 0)) = true then (d.filter (P n)).map (fun v => a ++ [v]) else [] := by
          have test : ∀ v, ((List.range (n + 1)).all fun c => P c ((a ++ [v]).getD c 0)) = (((List.range n).all fun c => P c (a.getD c 0)) && P n v) := fun v => by
            rw [List.range_succ, List.all_append]
            congr 1
            · rw [Bool.eq_iff_iff, List.all_eq_true, List.all_eq_true]
              refine forall_congr' fun c => forall_congr' fun hc => ?_
              have hc := List.mem_range.mp hc
              rw [List.getD_eq_getElem?_getD, List.getD_eq_getElem?_getD, List.getElem?_append_left (by omega)]
            · have gd : (a ++ [v]).getD n 0 = v := by
                rw [List.getD_eq_getElem?_getD, ← al, List.getElem?_concat_length]
                rfl
              rw [List.all_cons, List.all_nil, gd, Bool.and_true]
          rw [List.filter_map]
          by_cases fa : ((List.range n).all fun c => P c (a.getD c 0)) = true
          · rw [if_pos fa]
            congr 1
            refine List.filter_congr fun v _ => ?_
            show ((List.range (n + 1)).all fun c => P c ((a ++ [v]).getD c 0)) = _
            rw [test, fa, Bool.true_and]
          · rw [if_neg fa]
            have : d.filter ((fun row => (List.range (n + 1)).all fun c => P c (row.getD c 0)) ∘ fun v => a ++ [v]) = [] := List.filter_eq_nil_iff.mpr fun v _ => by
              show ¬ ((List.range (n + 1)).all fun c => P c ((a ++ [v]).getD c 0)) = true
              rw [test, Bool.and_eq_true]
              exact fun z => fa z.1
            rw [this]
            rfl
        by_cases fa : ((List.range n).all fun c => P c (a.getD c 0)) = true
        · rw [List.filter_cons, if_pos fa, eg, eg, List.filter_append, ihA, one, if_pos fa]
        · rw [List.filter_cons, if_neg fa, eg, List.filter_append, ihA, one, if_neg fa, List.nil_append]
    exact step _ (rowsOf_each n es hl)
/-- values that keep to a part -/
def keeps (f : List (Int × Int)) (c : Nat) (v : Int) : Bool := match valOf f (c : Int) with
  | some x => decide (v = x)
  | none => true
theorem valOf_some {f : List (Int × Int)} {c v : Int} (h : valOf f c = some v) : (c, v) ∈ f := by
  unfold valOf at h
  cases e : f.find? (fun p => decide (p.1 = c)) with
  | none => rw [e] at h; cases h
  | some q =>
    rw [e] at h
    cases h
    have h1 := List.find?_some e
    have h2 := List.mem_of_find?_eq_some e
    have : q.1 = c := by simpa using h1
    rw [← this]
    exact h2
theorem valOf_mem {f : List (Int × Int)} (nd : (f.map (·.1)).Nodup) {q : Int × Int} (h : q ∈ f) : valOf f q.1 = some q.2 := by
  cases e : valOf f q.1 with
  | none =>
    unfold valOf at e
    cases e2 : f.find? (fun p => decide (p.1 = q.1)) with
    | none =>
      have := List.find?_eq_none.mp e2 q h
      simp at this
    | some z => rw [e2] at e; cases e
  | some v =>
    have h1 := valOf_some e
    -- two pairs of one cell are one
    have one : ∀ {l : List (Int × Int)}, (l.map (·.1)).Nodup → ∀ {a b : Int × Int}, a ∈ l → b ∈ l → a.1 = b.1 → a = b := by
      intro l
      induction l with
      | nil => intro _ a b ha; cases ha
      | cons z l ih =>
        intro nd a b ha hb e
        obtain ⟨n1, n2⟩ := List.nodup_cons.mp nd
        rcases List.mem_cons.mp ha with ea | ea <;> rcases List.mem_cons.mp hb with eb | eb
        · rw [ea, eb]
        · exact absurd (List.mem_map.mpr ⟨b, eb, by rw [← e, ea]⟩) n1
        · exact absurd (List.mem_map.mpr ⟨a, ea, by rw [e, eb]⟩) n1
        · exact ih n2 ea eb e
    have := one nd h h1 rfl
    rw [this]
theorem filter_one {d : List Int} (nd : d.Nodup) {x : Int} (h : x ∈ d) : d.filter (fun v => decide (v = x)) = [x] := by
  induction d with
  | nil => cases h
  | cons a d ih =>
    obtain ⟨n1, n2⟩ := List.nodup_cons.mp nd
    by_cases e : a = x
    · subst e
      rw [List.filter_cons, if_pos (by simp)]
      have : d.filter (fun v => decide (v = a)) = [] := List.filter_eq_nil_iff.mpr fun v hv => by
        simp only [decide_eq_true_eq]
        exact fun z => n1 (z ▸ hv)
      rw [this]
    · rw [List.filter_cons, if_neg (by simpa using e)]
      exact ih n2 ((List.mem_cons.mp h).resolve_left fun z => e z.symm)
theorem ans_cut {p : Puz} {f : List (Int × Int)} (pk : PartOk p f) (nd : ∀ e ∈ p.doms, e.Nodup) : answersOf (cutP p f) = withOf p f := by
  have hr := rows_filter (keeps f) (cutD f) _ p.doms rfl fun c d hc => by
    unfold cutD keeps
    cases e : valOf f (c : Int) with
    | none => exact (List.filter_eq_self.mpr fun _ _ => rfl).symm
    | some v =>
      have hv := pk.val _ (valOf_some e)
      have gd : p.doms.getD ((c : Int)).toNat [] = d := by rw [Int.toNat_natCast, List.getD_eq_getElem?_getD, hc]; rfl
      rw [gd] at hv
      exact (filter_one (nd d (List.mem_of_getElem? hc)) hv).symm
  unfold withOf answersOf
  show (rowsOf (idxMap (cutD f) 0 p.doms)).filter _ = _
  rw [hr, List.filter_filter, List.filter_filter]
  refine List.filter_congr fun row hrow => ?_
  have rl := rowsOf_each _ p.doms rfl row hrow
  show (isAns (cutP p f) row && _) = (holds f row && isAns p row)
  have e1 : isAns (cutP p f) row = isAns p row := rfl
  have e2 : ((List.range p.doms.length).all fun c => keeps f c (row.getD c 0)) = holds f row := by
    rw [Bool.eq_iff_iff]
    unfold holds
    rw [List.all_eq_true, List.all_eq_true]
    constructor
    · intro h q hq
      have cr := pk.cell q hq
      have := h q.1.toNat (List.mem_range.mpr (by omega))
      unfold keeps at this
      rw [Int.toNat_of_nonneg cr.1, valOf_mem pk.nd hq] at this
      exact this
    · intro h c hc
      unfold keeps
      cases e : valOf f (c : Int) with
      | none => rfl
      | some v =>
        have := h _ (valOf_some e)
        exact this
  rw [e1, e2, Bool.and_comm]
theorem ans_nar {p : Puz} (kept : List (List Int)) : answersOf (narP p kept) = (answersOf p).filter fun row => (List.range p.doms.length).all fun c => decide (row.getD c 0 ∈ kept.getD c []) := by
  have hr := rows_filter (fun c v => decide (v ∈ kept.getD c [])) (nar1 kept) _ p.doms rfl fun c d hc => rfl
  unfold answersOf
  show (rowsOf (idxMap (nar1 kept) 0 p.doms)).filter _ = _
  rw [hr, List.filter_filter, List.filter_filter]
  refine List.filter_congr fun row hrow => ?_
  have e1 : isAns (narP p kept) row = isAns p row := rfl
  rw [e1, Bool.and_comm]
end G9

set_option Elab.async false
set_option linter.all false
set_option maxRecDepth 100000
set_option maxHeartbeats 4000000
/-! answers of puzzles beside one another -/
namespace G9
open PySem PySem.Spec PyProof.Rows L2 GX
def cross (X Y : List (List Int)) : List (List Int) := X.flatMap fun a => Y.map fun b => a ++ b
theorem cross_cons (a : List Int) (X Y : List (List Int)) : cross (a :: X) Y = Y.map (fun b => a ++ b) ++ cross X Y := rfl
theorem grow_app (A B : List (List Int)) (d : List Int) : grow (A ++ B) d = grow A d ++ grow B d := by
  unfold grow
  rw [List.flatMap_append]
theorem grow_map (a d : List Int) : ∀ Y : List (List Int), grow (Y.map fun b => a ++ b) d = (grow Y d).map fun b => a ++ b
  | [] => rfl
  | b :: Y => by
    have e : ∀ (B : List (List Int)) (b : List Int), grow (b :: B) d = d.map (fun v => b ++ [v]) ++ grow B d := fun _ _ => rfl
    rw [List.map_cons, e, e, grow_map a d Y, List.map_append, List.map_map]
    congr 1
    refine List.map_congr_left fun v _ => ?_
    simp
theorem grow_cross (d : List Int) (Y : List (List Int)) : ∀ X : List (List Int), grow (cross X Y) d = cross X (grow Y d)
  | [] => rfl
  | a :: X => by rw [cross_cons, cross_cons, grow_app, grow_map, grow_cross d Y X]
theorem cross_one (X : List (List Int)) : cross X [[]] = X := by
  induction X with
  | nil => rfl
  | cons a X ih => rw [cross_cons, ih]; simp
theorem rows_app (A : List (List Int)) : ∀ (n : Nat) (B : List (List Int)), B.length = n → rowsOf (A ++ B) = cross (rowsOf A) (rowsOf B)
  | 0, [], _ => by
    rw [List.append_nil]
    exact (cross_one _).symm
  | n + 1, B, h => by
    have ne : B ≠ [] := fun z => by rw [z] at h; cases h
    have e := List.dropLast_concat_getLast ne
    have hl : B.dropLast.length = n := by rw [List.length_dropLast, h]; rfl
    rw [← e, ← List.append_assoc, rowsOf_snoc, rowsOf_snoc, rows_app A n _ hl, grow_cross]
theorem cross_filter (f g h : List Int → Bool) (Y : List (List Int)) : ∀ (X : List (List Int)), (∀ a ∈ X, ∀ b ∈ Y, h (a ++ b) = (f a && g b)) → (cross X Y).filter h = cross (X.filter f) (Y.filter g)
  | [], _ => rfl
  | a :: X, H => by
    have ih := cross_filter f g h Y X fun a' ha => H a' (List.mem_cons_of_mem _ ha)
    have Ha := H a (List.mem_cons_self ..)
    rw [cross_cons, List.filter_append, ih, List.filter_map, List.filter_cons]
    by_cases fa : f a = true
    · rw [if_pos fa, cross_cons]
      congr 2
      refine List.filter_congr fun b hb => ?_
      show h (a ++ b) = _
      rw [Ha b hb, fa, Bool.true_and]
    · rw [if_neg fa]
      have : Y.filter (h ∘ fun b => a ++ b) = [] := List.filter_eq_nil_iff.mpr fun b hb => by
        show ¬ h (a ++ b) = true
        rw [Ha b hb, Bool.and_eq_true]
        exact fun z => fa z.1
      rw [this]
      rfl
theorem cross_len (X Y : List (List Int)) : (cross X Y).length = X.length * Y.length := by
  induction X with
  | nil => simp [cross]
  | cons a X ih => rw [cross_cons, List.length_append, ih, List.length_map, List.length_cons, Nat.succ_mul, Nat.add_comm]
/-! rules that are moved -/
theorem marked_move (n : Int) : ∀ (cs vals vs : List Int), markedOf (cs.map (· + n)) vals vs = (markedOf cs vals vs).map (· + n)
  | [], vals, vs => by simp [markedOf]
  | c :: cs, [], vs => by simp [markedOf]
  | c :: cs, v :: vals, vs => by
    have ih := marked_move n cs vals vs
    unfold markedOf at ih ⊢
    rw [List.map_cons, List.zip_cons_cons, List.zip_cons_cons, List.filter_cons, List.filter_cons]
    by_cases h : v ∈ vs
    · rw [if_pos (by simpa using h), if_pos (by simpa using h), List.map_cons, List.map_cons, List.map_cons, ih]
    · rw [if_neg (by simpa using h), if_neg (by simpa using h), ih]
theorem conn_move {M : List Int} {T : List (Int × Int)} {s : Int} (n : Int) {x : Int} (h : Conn M T s x) : Conn (M.map (· + n)) (T.map fun p => (p.1 + n, p.2 + n)) (s + n) (x + n) := by
  induction h with
  | start hs => exact .start (List.mem_map.mpr ⟨s, hs, rfl⟩)
  | step _ hy ha ih =>
    refine .step ih (List.mem_map.mpr ⟨_, hy, rfl⟩) ?_
    rcases ha with z | z
    · exact .inl (List.mem_map.mpr ⟨_, z, rfl⟩)
    · exact .inr (List.mem_map.mpr ⟨_, z, rfl⟩)
theorem back_map (n : Int) : ∀ M : List Int, (M.map (· + n)).map (· + (-n)) = M
  | [] => rfl
  | a :: M => by
    rw [List.map_cons, List.map_cons, back_map n M]
    congr 1
    omega
theorem back_map2 (n : Int) : ∀ T : List (Int × Int), (T.map fun p => (p.1 + n, p.2 + n)).map (fun p => (p.1 + (-n), p.2 + (-n))) = T
  | [] => rfl
  | a :: T => by
    rw [List.map_cons, List.map_cons, back_map2 n T]
    congr 1
    refine Prod.ext ?_ ?_
    · show a.1 + n + -n = a.1
      omega
    · show a.2 + n + -n = a.2
      omega
theorem joined_move1 (n : Int) {M : List Int} {T : List (Int × Int)} (h : Joined M T) : Joined (M.map (· + n)) (T.map fun p => (p.1 + n, p.2 + n)) := by
  intro s r e m hm
  cases M with
  | nil => cases e
  | cons a M =>
    rw [List.map_cons] at e
    cases e
    obtain ⟨x, hx, rfl⟩ := List.mem_map.mp hm
    exact conn_move n (h a M rfl x hx)
theorem joined_move (n : Int) (M : List Int) (T : List (Int × Int)) : joinedB (M.map (· + n)) (T.map fun p => (p.1 + n, p.2 + n)) = joinedB M T := by
  by_cases h : Joined M T
  · rw [joinedB_yes h, joinedB_yes (joined_move1 n h)]
  · rw [joinedB_no h]
    refine joinedB_no fun z => h ?_
    have := joined_move1 (-n) z
    rw [back_map, back_map2] at this
    exact this
theorem fits_move (n : Int) (r : Rul) (vals : List Int) : fitsB (moveR n r) vals = fitsB r vals := by
  cases r with
  | joined cs ties vs =>
    simp only [fitsB, moveR]
    rw [marked_move, joined_move]
  | _ => rfl
theorem pick_behind {a b cs : List Int} (h : ∀ c ∈ cs, 0 ≤ c) : pick (a ++ b) (cs.map (· + (a.length : Int))) = pick b cs := by
  unfold pick
  rw [List.map_map]
  refine List.map_congr_left fun c hc => ?_
  have h0 := h c hc
  show (a ++ b).getD (c + (a.length : Int)).toNat 0 = b.getD c.toNat 0
  have e : (c + (a.length : Int)).toNat = a.length + c.toNat := by omega
  rw [e, List.getD_eq_getElem?_getD, List.getD_eq_getElem?_getD, List.getElem?_append_right (by omega), Nat.add_sub_cancel_left]
theorem pick_ahead2 {a b cs : List Int} (h : ∀ c ∈ cs, 0 ≤ c ∧ c < (a.length : Int)) : pick (a ++ b) cs = pick a cs := by
  unfold pick
  refine List.map_congr_left fun c hc => ?_
  obtain ⟨h0, h1⟩ := h c hc
  rw [List.getD_eq_getElem?_getD, List.getD_eq_getElem?_getD, List.getElem?_append_left (by omega)]
theorem ans_beside {p q : Puz} (okp : PzOk p) (okq : PzOk q) : answersOf (besideP p q) = cross (answersOf p) (answersOf q) := by
  unfold answersOf
  show (rowsOf (p.doms ++ q.doms)).filter _ = _
  rw [rows_app _ _ _ rfl]
  refine cross_filter _ _ _ _ _ fun a ha b hb => ?_
  have al := rowsOf_each _ p.doms rfl a ha
  unfold isAns allFit besideP
  rw [List.map_append, List.all_append, List.map_map]
  congr 1
  · congr 1
    refine List.map_congr_left fun r hr => ?_
    rw [pick_ahead2 fun c hc => by rw [al]; exact okp.cell r hr c hc]
  · congr 1
    refine List.map_congr_left fun r hr => ?_
    show fitsB (moveR (p.doms.length : Int) r) (pick (a ++ b) (Rul.cells (moveR (p.doms.length : Int) r))) = _
    rw [fits_move, cells_move, ← al, pick_behind fun c hc => (okq.cell r hr c hc).1]
theorem ok_besideP {p q : Puz} (okp : PzOk p) (okq : PzOk q) (h : p.doms.length + q.doms.length ≤ 8) (hr : p.rules.length + q.rules.length ≤ 100) : PzOk (besideP p q) where
  n8 := by show (p.doms ++ q.doms).length ≤ 8; rw [List.length_append]; exact h
  d4 := fun d hd => (List.mem_append.mp hd).elim (okp.d4 d) (okq.d4 d)
  r100 := by show (p.rules ++ q.rules.map _).length ≤ 100; rw [List.length_append, List.length_map]; exact hr
  small := fun r hr => by
    rcases List.mem_append.mp hr with z | z
    · exact okp.small r z
    · obtain ⟨r0, h0, rfl⟩ := List.mem_map.mp z
      obtain ⟨s1, s2, s3⟩ := okq.small r0 h0
      refine ⟨?_, ?_, ?_⟩
      · rw [cells_move]
        exact List.Pairwise.map _ (fun a b h z => h (by have z : a + (p.doms.length : Int) = b + (p.doms.length : Int) := z; omega)) s1
      · rw [cells_move, List.length_map]
        exact s2
      · cases r0 with
        | joined cs ties vs =>
          show (ties.map _).length ≤ 100
          rw [List.length_map]
          exact s3
        | _ => trivial
  tab := fun r hr => by
    rcases List.mem_append.mp hr with z | z
    · exact okp.tab r z
    · obtain ⟨r0, h0, rfl⟩ := List.mem_map.mp z
      have := okq.tab r0 h0
      cases r0 <;> exact this
  some := fun r hr => by
    rcases List.mem_append.mp hr with z | z
    · exact okp.some r z
    · obtain ⟨r0, h0, rfl⟩ := List.mem_map.mp z
      rw [cells_move]
      exact fun e => okq.some r0 h0 (List.map_eq_nil_iff.mp e)
  cell := fun r hr c hc => by
    have tot : ((besideP p q).doms.length : Int) = (p.doms.length : Int) + (q.doms.length : Int) := by
      show ((p.doms ++ q.doms).length : Int) = _
      rw [List.length_append]
      omega
    rw [tot]
    rcases List.mem_append.mp hr with z | z
    · have := okp.cell r z c hc
      omega
    · obtain ⟨r0, h0, rfl⟩ := List.mem_map.mp z
      rw [cells_move] at hc
      obtain ⟨c0, hc0, rfl⟩ := List.mem_map.mp hc
      have := okq.cell r0 h0 c0 hc0
      omega
end G9

set_option Elab.async false
set_option linter.all false
set_option maxRecDepth 100000
set_option maxHeartbeats 4000000
/-! what is free, what is in all answers, what is forced -/
namespace G9
open PySem PySem.Spec PyProof.Rows L2 GX
theorem forced_iff (p : Puz) (f : List (Int × Int)) : decide ((withOf p f).length = (answersOf p).length) = decide (withOf p f = answersOf p) := by
  by_cases h : withOf p f = answersOf p
  · rw [decide_eq_true h, h]
    exact decide_eq_true rfl
  · rw [decide_eq_false h]
    refine decide_eq_false fun z => h ?_
    unfold withOf at z ⊢
    exact List.filter_eq_self.mpr (List.length_filter_eq_length_iff.mp z)
theorem with_common {p : Puz} {row : List Int} {rest : List (List Int)} {ks : List Int} (h : answersOf p = row :: rest) (mem : ∀ c, c ∈ ks ↔ ∃ j : Nat, j < row.length ∧ isFree p row j = false ∧ c = (j : Int)) : withOf p (pairsAt row ks) = answersOf p := by
  unfold withOf
  refine List.filter_eq_self.mpr fun o ho => ?_
  unfold holds pairsAt
  rw [List.all_map, List.all_eq_true]
  intro c hc
  obtain ⟨j, hj, hf, rfl⟩ := (mem c).mp hc
  show decide (o.getD ((j : Int)).toNat 0 = row.getD ((j : Int)).toNat 0) = true
  rw [Int.toNat_natCast]
  refine decide_eq_true ?_
  unfold isFree at hf
  rw [List.any_eq_false] at hf
  have := hf o ho
  simpa using this
theorem free_same {p : Puz} {a b : List Int} (ha : a ∈ answersOf p) (hb : b ∈ answersOf p) (c : Nat) : isFree p a c = isFree p b c := by
  have one : ∀ {a b : List Int}, a ∈ answersOf p → b ∈ answersOf p → isFree p a c = true → isFree p b c = true := fun {a b} ha hb h => by
    unfold isFree at h ⊢
    rw [List.any_eq_true] at h ⊢
    obtain ⟨o, ho, hd⟩ := h
    have hd : o.getD c 0 ≠ a.getD c 0 := by simpa using hd
    by_cases e : o.getD c 0 = b.getD c 0
    · exact ⟨a, ha, decide_eq_true fun z => hd (by rw [e, z])⟩
    · exact ⟨o, ho, decide_eq_true e⟩
  rw [Bool.eq_iff_iff]
  exact ⟨one ha hb, one hb ha⟩
theorem sorted_one : ∀ {l m : List Int}, l.Perm m → l.Pairwise (· ≤ ·) → m.Pairwise (· ≤ ·) → l = m
  | [], m, h, _, _ => (List.Perm.nil_eq h)
  | a :: l, m, h, hl, hm => by
    cases m with
    | nil => exact absurd h.symm.nil_eq (by simp)
    | cons b m =>
      obtain ⟨l1, l2⟩ := List.pairwise_cons.mp hl
      obtain ⟨m1, m2⟩ := List.pairwise_cons.mp hm
      have e : a = b := by
        have ha : a ∈ b :: m := h.mem_iff.mp (List.mem_cons_self ..)
        have hb : b ∈ a :: l := h.mem_iff.mpr (List.mem_cons_self ..)
        rcases List.mem_cons.mp ha with z | z
        · exact z
        · rcases List.mem_cons.mp hb with y | y
          · exact y.symm
          · have := m1 a z
            have := l1 b y
            omega
      subst e
      rw [sorted_one (List.perm_cons a |>.mp h) l2 m2]
theorem range_le (n : Nat) : (nI (List.range n)).Pairwise (· ≤ ·) := by
  unfold nI
  exact List.Pairwise.map _ (fun a b h => by omega) (List.pairwise_lt_range (n := n))
theorem free_rest {p : Puz} {row r0 : List Int} {rest : List (List Int)} {ks : List Int} (h : answersOf p = r0 :: rest) (hr : row ∈ answersOf p) (lt : ks.Pairwise (· < ·)) (mem : ∀ c, c ∈ ks ↔ ∃ j : Nat, j < r0.length ∧ isFree p r0 j = false ∧ c = (j : Int)) {ns : List Int} (pm : ns.Perm (nI (freeOf p row) ++ ks)) (le : ns.Pairwise (· ≤ ·)) : ns = nI (List.range row.length) := by
  refine sorted_one (pm.trans ?_) le (range_le _)
  have h0 : r0 ∈ answersOf p := by rw [h]; exact List.mem_cons_self ..
  have el : r0.length = row.length := (ans_len h0).trans (ans_len hr).symm
  have inj : ∀ l : List Nat, l.Nodup → (nI l).Nodup := fun l hl => by
    unfold nI
    exact List.Pairwise.map _ (fun a b h z => h (by omega)) hl
  have n1 : (nI (freeOf p row)).Nodup := inj _ (List.Pairwise.filter _ List.nodup_range)
  have n2 : ks.Nodup := lt.imp fun h z => by omega
  have m1 : ∀ c, c ∈ nI (freeOf p row) ↔ ∃ j : Nat, j < row.length ∧ isFree p row j = true ∧ c = (j : Int) := fun c => by
    unfold nI freeOf
    simp only [List.mem_map, List.mem_filter, List.mem_range]
    constructor
    · rintro ⟨j, ⟨a, b⟩, rfl⟩
      exact ⟨j, a, b, rfl⟩
    · rintro ⟨j, a, b, rfl⟩
      exact ⟨j, ⟨a, b⟩, rfl⟩
  have nd : (nI (freeOf p row) ++ ks).Nodup := by
    rw [List.nodup_append]
    refine ⟨n1, n2, fun a ha b hb e => ?_⟩
    obtain ⟨j, _, f1, rfl⟩ := (m1 a).mp ha
    obtain ⟨j2, _, f2, rfl⟩ := (mem b).mp hb
    have : j = j2 := by omega
    subst this
    rw [free_same hr h0, f2] at f1
    cases f1
  refine (List.perm_ext_iff_of_nodup nd (inj _ List.nodup_range)).mpr fun c => ?_
  rw [List.mem_append, m1, mem]
  unfold nI
  simp only [List.mem_map, List.mem_range]
  constructor
  · rintro (⟨j, a, _, rfl⟩ | ⟨j, a, _, rfl⟩)
    · exact ⟨j, a, rfl⟩
    · exact ⟨j, by omega, rfl⟩
  · rintro ⟨j, a, rfl⟩
    cases e : isFree p row j with
    | true => exact .inl ⟨j, a, e, rfl⟩
    | false => exact .inr ⟨j, by omega, by rw [free_same h0 hr]; exact e, rfl⟩
end G9

set_option Elab.async false
set_option linter.all false
set_option maxRecDepth 100000
set_option maxHeartbeats 8000000
/-! what the law's body rests on -/
namespace G9
open PySem PySem.Spec PyProof.Rows L2 GX
/-- the source and the table of codes -/
structure LI (d cs pT : Addr) (H : Hp) : Prop where
  src : SrcAt H d cs
  tab : GxR.TabG H pT
/-- tuples stay, and lists but the source's -/
structure LX (cs : Addr) (H H' : Hp) : Prop where
  kt : Kt H H'
  ls : ∀ b xs, b ≠ cs → H b = some (.lst xs) → H' b = some (.lst xs)
theorem LX.refl (cs : Addr) (H : Hp) : LX cs H H := ⟨.refl H, fun _ _ _ e => e⟩
theorem LX.trans {cs : Addr} {A B C : Hp} (h : LX cs A B) (g : LX cs B C) : LX cs A C := ⟨h.kt.trans g.kt, fun b xs n e => g.ls b xs n (h.ls b xs n e)⟩
theorem lx_same {cs : Addr} {H H' : Hp} (s : Same H H') : LX cs H H' := ⟨kt_same s, fun b xs _ e => s b _ e⟩
theorem lx_kb {cs : Addr} {H H' : Hp} (s : Kb H H') : LX cs H H' := ⟨kt_kb s, fun b xs _ e => s.1 b _ (fun ps z => by cases z) e⟩
section
variable {d cs pT : Addr} {H H' : Hp}
theorem LI.same (L : LI d cs pT H) (s : Same H H') : LI d cs pT H' := ⟨L.src.same s, (kb_same s).2 _ L.tab⟩
theorem LI.kb (L : LI d cs pT H) (s : Kb H H') : LI d cs pT H' := ⟨L.src.kb s, s.2 _ L.tab⟩
theorem LI.rn (L : LI d cs pT H) (hs : SrcAt H' d cs) (rn : Rn d cs H H') : LI d cs pT H' := by
  obtain ⟨ps, e, t⟩ := L.tab
  obtain ⟨zs, l, m, u, hd, hcs, _⟩ := L.src
  exact ⟨hs, ps, rn _ _ (ne_of e hd fun z => by cases z) (ne_of e hcs fun z => by cases z) e, t⟩
theorem LI.lx (L : LI d cs pT H) (rn : Rn d cs H H') : LX cs H H' := by
  refine ⟨rn.kt L.src, fun b xs n e => ?_⟩
  obtain ⟨zs, l, m, u, hd, hcs, _⟩ := L.src
  exact rn b _ (ne_of e hd fun z => by cases z) n e
end
/-- a list of rows, not the source's -/
structure LA (cs : Addr) (H : Hp) (l : Addr) (rows : List (List Int)) : Prop where
  ne : l ≠ cs
  rows : LRows H (.ref l) rows
theorem LA.lx {cs : Addr} {H H' : Hp} {l : Addr} {rows : List (List Int)} (h : LA cs H l rows) (k : LX cs H H') : LA cs H' l rows := by
  obtain ⟨a, vs, e, q, p⟩ := h.rows
  cases e
  exact ⟨h.ne, l, vs, rfl, k.ls _ _ h.ne q, paired_mono (fun _ _ => IH.kt k.kt) p⟩
theorem LA.at {cs : Addr} {H : Hp} {l : Addr} {rows : List (List Int)} (h : LA cs H l rows) : ∃ vs, H l = some (.lst vs) ∧ Paired (IH H) vs rows := by
  obtain ⟨a, vs, e, q, p⟩ := h.rows
  cases e
  exact ⟨vs, q, p⟩
/-- a comprehension's list at D, as it comes -/
abbrev LcB (J : It) (g : TG) (tt : TT) (te : TE) (vs : List Nat) (σ : L2.St) (H1 : Hp) (D : Addr) (Qd : Hp → Prop) : Prop := ∃ W : Nat → Nat → Hp → Prop, (∃ m, W 0 m (upd H1 D (.lst []))) ∧ (∀ i m H, W i m H → (J.stop i H ∧ Qd H) ∨ (J.go i H ∧ (∃ Nx : Hp → Prop, (∀ H', Nx H' → ∃ m', m' < m ∧ W (i + 1) m' H') ∧ (∀ x H', J.yld i H x H' → g x (wipe σ vs) H' (fun σ2 H2 => wipe σ2 vs = wipe σ vs ∧ tt σ2 H2 (fun b H3 => if b = true then te σ2 H3 (fun y H4 => ∃ acc, H4 D = some (.lst acc) ∧ acc.length < sizeLine ∧ Nx (upd H4 D (.lst (acc ++ [y])))) else Nx H3))))))
/-- [x for x in xs if ..] over rows -/
theorem lc_filt {J : It} {n i : Nat} {G : Hp → Prop} {σ : L2.St} {own : List Nat} {tt : TT} {H1 : Hp} {L : Addr} {Qd : Hp → Prop} {vs : List V} {rows : List (List Int)} {Pred : List Int → Bool} (w : Walk J n G (YAt vs)) (hL : H1 L = none) (hn : n = vs.length) (hG : ∀ H', Same H1 H' → G H') (pv : Paired (IH H1) vs rows) (small : rows.length ≤ 65536)
    (k : ∀ (H3 : Hp) (acc : List V), Same H1 H3 → H3 L = some (.lst acc) → Paired (IH H3) acc (rows.filter Pred) → Qd H3)
    (hw : ∀ x : V, wipe ((wipe σ own).set i (some x)) own = wipe σ own) (hv : ∀ x : V, ((wipe σ own).set i (some x))[i]? = some (some x))
    (ht : ∀ (m : Nat) (x : V) (row : List Int) (H3 : Hp) (C : Bool → Hp → Prop), rows[m]? = some row → Same H1 H3 → IH H3 x row → (∀ H4, Same H3 H4 → C (Pred row) H4) → tt ((wipe σ own).set i (some x)) H3 C) :
    LcB J (gName i) tt (tVar i) own σ H1 L Qd := by
  have vl := pv.length
  have smN : ∀ {B : Hp}, (∀ b o, b ≠ L → H1 b = some o → B b = some o) → Same H1 B := fun hA b o e => hA b o (fun z => by rw [z, hL] at e; cases e) e
  refine lc_it w (fun m H3 => ∃ acc, H3 L = some (.lst acc) ∧ Paired (IH H3) acc ((rows.take m).filter Pred) ∧ ∀ b o, b ≠ L → H1 b = some o → H3 b = some o) ⟨[], upd_same, .nil, fun b o hb e => by rw [upd_ne hb]; exact e⟩ (fun m H3 _ h => ?_) (fun m x H3 H4 hm h y => ?_) (fun H3 h => ?_)
  · obtain ⟨_, _, _, kp⟩ := h
    exact hG _ (smN kp)
  · obtain ⟨rfl, hx⟩ := y
    obtain ⟨acc, hA, pA, kp⟩ := h
    have s4 := smN kp
    obtain ⟨row, hr, ir⟩ := paired_at pv hx
    have ir4 := ir.kt (kt_same s4)
    have al : acc.length ≤ rows.length := by
      rw [pA.length]
      exact Nat.le_trans (List.length_filter_le _ _) (by rw [List.length_take]; exact Nat.min_le_right _ _)
    have tk : rows.take (m + 1) = rows.take m ++ [row] := by rw [List.take_add_one, hr]; rfl
    refine ⟨hw x, ht m x row H4 _ hr s4 ir4 fun H5 s5 => ?_⟩
    have hA5 := s5 _ _ hA
    have pA5 := paired_mono (fun _ _ q => IH.kt (kt_same s5) q) pA
    by_cases h : Pred row = true
    · rw [if_pos h]
      refine ⟨x, hv x, acc, hA5, by rw [sizeLine_eq]; omega, acc ++ [x], upd_same, ?_, fun b o hb e => ?_⟩
      · rw [tk, List.filter_append]
        have : [row].filter Pred = [row] := by simp [h]
        rw [this]
        exact paired_app (paired_mono (fun _ _ q => q.kt (ktL hA5)) pA5) (paired_one ((ir4.kt (kt_same s5)).kt (ktL hA5)))
      · rw [upd_ne hb]
        exact s5 _ _ (kp b o hb e)
    · have h' : Pred row = false := by simpa using h
      rw [if_neg h]
      refine ⟨acc, hA5, ?_, fun b o hb e => s5 _ _ (kp b o hb e)⟩
      rw [tk, List.filter_append]
      have : [row].filter Pred = [] := by simp [h']
      rw [this, List.append_nil]
      exact pA5
  · obtain ⟨acc, hA, pA, kp⟩ := h
    rw [hn, vl, List.take_length] at pA
    exact k H3 acc (smN kp) hA pA
theorem ok_add {p : Puz} {r : Rul} (ok : PzOk p) (okr : RuleOk p.doms.length r) (h : p.rules.length ≤ 50) : PzOk (addRules p [r]) where
  n8 := ok.n8
  d4 := ok.d4
  r100 := by
    show (p.rules ++ [r]).length ≤ 100
    rw [List.length_append]
    show p.rules.length + 1 ≤ 100
    omega
  small := fun x hx => (List.mem_append.mp hx).elim (ok.small x) fun z => by rw [List.mem_singleton.mp z]; exact okr.small
  tab := fun x hx => (List.mem_append.mp hx).elim (ok.tab x) fun z => by rw [List.mem_singleton.mp z]; exact okr.tab
  some := fun x hx => (List.mem_append.mp hx).elim (ok.some x) fun z => by rw [List.mem_singleton.mp z]; exact okr.some
  cell := fun x hx => (List.mem_append.mp hx).elim (ok.cell x) fun z => by rw [List.mem_singleton.mp z]; exact okr.cell
theorem ok_drop {p : Puz} (ok : PzOk p) (j : Nat) : PzOk (dropRule p j) := by
  have sub : ∀ x ∈ (dropRule p j).rules, x ∈ p.rules := fun x hx => (List.mem_append.mp hx).elim (fun z => List.take_subset _ _ z) fun z => List.drop_subset _ _ z
  refine ⟨ok.n8, ok.d4, ?_, fun x hx => ok.small x (sub x hx), fun x hx => ok.tab x (sub x hx), fun x hx => ok.some x (sub x hx), fun x hx => ok.cell x (sub x hx)⟩
  have := ok.r100
  show (p.rules.take j ++ p.rules.drop (j + 1)).length ≤ 100
  rw [List.length_append, List.length_take, List.length_drop]
  omega
theorem dupV {R F : V → Hp → Prop} {G : Prop} (h : (∀ v H, F v H → R v H) → G) (r : ∀ v H, F v H → R v H) : G := h r
theorem all_at (row : List Int) (lots : List (List Int)) (n : Nat) : (((List.range n).map fun c => decide (row.getD c 0 ∈ lots.getD c [])).all id) = (List.range n).all fun c => decide (row.getD c 0 ∈ lots.getD c []) := by
  rw [List.all_map]
  rfl
theorem dupH {R F : Hp → Prop} {G : Prop} (h : (∀ H, F H → R H) → G) (r : ∀ H, F H → R H) : G := h r
theorem inc_len : ∀ (ks : List Int) (a n : Int), ks.Pairwise (· < ·) → (∀ c ∈ ks, a ≤ c ∧ c < n) → a ≤ n → (ks.length : Int) ≤ n - a
  | [], a, n, _, _, h => by
    show ((0 : Nat) : Int) ≤ n - a
    omega
  | c :: t, a, n, pw, rg, _ => by
    obtain ⟨h1, h2⟩ := List.pairwise_cons.mp pw
    obtain ⟨c1, c2⟩ := rg c (List.mem_cons_self ..)
    have := inc_len t (c + 1) n h2 (fun x hx => ⟨by have := h1 x hx; omega, (rg x (List.mem_cons_of_mem _ hx)).2⟩) (by omega)
    rw [List.length_cons]
    omega
/-- two rows put together -/
theorem cat_two {K : PySem.W.Frag} {H : Hp} {x y : V} {r s : List Int} (hx : IH H x r) (hy : IH H y s) (hl : r.length + s.length ≤ 1000) {Q : VK} (k : ∀ w H', Same H H' → IH H' w (r ++ s) → Q w H') : rCatA K x y H Q := by
  obtain ⟨a, rfl, ha⟩ := hx
  obtain ⟨b, rfl, hb⟩ := hy
  refine ⟨a, b, _, _, rfl, rfl, sqt ha, sqt hb, by rw [List.length_map, List.length_map, sizeLine_eq]; omega, fun e => ?_, fun e1 e2 => ?_, fun e1 _ p hp => ?_⟩
  · have : r = [] := List.map_eq_nil_iff.mp e
    subst this
    exact k _ _ (same_refl H) ⟨b, rfl, hb⟩
  · have : s = [] := List.map_eq_nil_iff.mp e2
    subst this
    rw [List.append_nil] at k
    exact k _ _ (same_refl H) ⟨a, rfl, ha⟩
  · exact k _ _ (same_new hp) ⟨p, rfl, by rw [upd_same, List.map_append]⟩
end G9

set_option Elab.async false
set_option linter.all false
set_option maxRecDepth 100000
set_option maxHeartbeats 4000000
/-! small data: what repr asks of it -/
namespace G9
open PySem PySem.Spec PyProof.Rows L2 GX
structure Sm (d : PyData) (k w : Nat) : Prop where
  sh : d.showable = true
  hd : d.hasDict = false
  dp : d.depth ≤ k
  ls : d.leavesShort 11 = true
  wt : d.weight ≤ w
structure SmA (ds : List PyData) (k w : Nat) : Prop where
  sh : PyData.showableAll ds = true
  hd : PyData.hasDictAll ds = false
  dp : PyData.depthAll ds ≤ k
  ls : PyData.leavesShortAll 11 ds = true
  wt : PyData.weightAll ds ≤ w
theorem SmA.nil {k w : Nat} : SmA [] k w := ⟨rfl, rfl, Nat.zero_le _, rfl, Nat.zero_le _⟩
theorem SmA.cons {d : PyData} {ds : List PyData} {k w v : Nat} (h : Sm d k w) (g : SmA ds k v) : SmA (d :: ds) k (w + v + 2) := by
  refine ⟨?_, ?_, ?_, ?_, ?_⟩
  · simp only [PyData.showableAll, h.sh, g.sh, Bool.and_self]
  · simp only [PyData.hasDictAll, h.hd, g.hd, Bool.or_self]
  · simp only [PyData.depthAll]
    exact Nat.max_le.mpr ⟨h.dp, g.dp⟩
  · simp only [PyData.leavesShortAll, h.ls, g.ls, Bool.and_self]
  · have := h.wt
    have := g.wt
    simp only [PyData.weightAll]
    omega
theorem SmA.mono {ds : List PyData} {k w j v : Nat} (h : SmA ds k w) (a : k ≤ j) (b : w ≤ v) : SmA ds j v := ⟨h.sh, h.hd, Nat.le_trans h.dp a, h.ls, Nat.le_trans h.wt b⟩
theorem Sm.mono {d : PyData} {k w j v : Nat} (h : Sm d k w) (a : k ≤ j) (b : w ≤ v) : Sm d j v := ⟨h.sh, h.hd, Nat.le_trans h.dp a, h.ls, Nat.le_trans h.wt b⟩
theorem SmA.list {ds : List PyData} {k w : Nat} (h : SmA ds k w) : Sm (.list ds) (k + 1) (w + 4) := by
  refine ⟨?_, ?_, ?_, ?_, ?_⟩
  · simp only [PyData.showable, h.sh]
  · simp only [PyData.hasDict, h.hd]
  · have := h.dp
    simp only [PyData.depth]
    omega
  · simp only [PyData.leavesShort, h.ls]
  · have := h.wt
    simp only [PyData.weight]
    omega
theorem SmA.tuple {ds : List PyData} {k w : Nat} (h : SmA ds k w) : Sm (.tuple ds) (k + 1) (w + 4) := by
  refine ⟨?_, ?_, ?_, ?_, ?_⟩
  · simp only [PyData.showable, h.sh]
  · simp only [PyData.hasDict, h.hd]
  · have := h.dp
    simp only [PyData.depth]
    omega
  · simp only [PyData.leavesShort, h.ls]
  · have := h.wt
    simp only [PyData.weight]
    omega
theorem sm_int {v : Int} (h : 0 ≤ v) (h2 : v < 1000000000) (k : Nat) : Sm (.int v) k 30 := by
  have hl : v.natAbs.log2 < 30 := by
    by_cases h0 : v.natAbs = 0
    · rw [h0]
      decide
    · exact (Nat.log2_lt h0).mpr (by omega)
  refine ⟨?_, rfl, Nat.zero_le _, ?_, ?_⟩
  · simp only [PyData.showable, decide_eq_true_eq]
    omega
  · simp only [PyData.leavesShort, PyData.shown]
    have := int_text_length_le10 (a := v) (k := 10) (by decide) (by omega)
    exact decide_eq_true (by rw [PySem.ofString_length]; exact this)
  · simp only [PyData.weight]
    split <;> omega
theorem sm_none (k : Nat) : Sm .none k 30 := ⟨rfl, rfl, Nat.zero_le _, rfl, by simp [PyData.weight]⟩
theorem sm_bool (b : Bool) (k : Nat) : Sm (.bool b) k 30 := ⟨rfl, rfl, Nat.zero_le _, rfl, by simp [PyData.weight]⟩
theorem sm_str (x : Str) (k : Nat) (h : PyData.leavesShort 11 (.str x) = true) (w : PyData.weight (.str x) ≤ 30) : Sm (.str x) k 30 := ⟨rfl, rfl, Nat.zero_le _, h, w⟩
theorem Sm.fits {d : PyData} {k w : Nat} (h : Sm d k w) (hk : k ≤ 60) (hw : w ≤ 2 ^ 20) : d.showable = true ∧ d.hasDict = false ∧ d.depth ≤ 60 ∧ d.shown.length ≤ sizeLine :=
  ⟨h.sh, h.hd, Nat.le_trans h.dp hk, PyData.shown_fits (B := 11) (by decide) (by decide) h.ls (Nat.le_trans h.wt hw)⟩
theorem smA_ints : ∀ {ns : List Int} (k : Nat), (∀ v ∈ ns, Few v) → SmA (ns.map .int) k (32 * ns.length)
  | [], k, _ => .nil
  | v :: ns, k, h => by
    obtain ⟨h1, h2⟩ := h v (List.mem_cons_self ..)
    exact (SmA.cons (sm_int h1 (by omega) k) (smA_ints k fun x hx => h x (List.mem_cons_of_mem _ hx))).mono (Nat.le_refl _) (by rw [List.length_cons]; omega)
theorem sm_dI {ns : List Int} (h : ∀ v ∈ ns, Few v) (hl : ns.length ≤ 8) (k : Nat) : Sm (dI ns) (k + 1) 260 := by
  have := (smA_ints k h).tuple
  exact Sm.mono (d := .tuple (ns.map .int)) this (Nat.le_refl _) (by omega)
theorem smA_rows : ∀ {rows : List (List Int)} (k : Nat), (∀ r ∈ rows, r.length ≤ 8 ∧ ∀ v ∈ r, Few v) → SmA (rows.map dI) (k + 1) (262 * rows.length)
  | [], k, _ => .nil
  | r :: rows, k, h => by
    obtain ⟨h1, h2⟩ := h r (List.mem_cons_self ..)
    exact (SmA.cons (sm_dI h2 h1 k) (smA_rows k fun x hx => h x (List.mem_cons_of_mem _ hx))).mono (Nat.le_refl _) (by rw [List.length_cons]; omega)
theorem sm_rows {rows : List (List Int)} (h : ∀ r ∈ rows, r.length ≤ 8 ∧ ∀ v ∈ r, Few v) (k : Nat) : Sm (dRows rows) (k + 2) (262 * rows.length + 4) := Sm.mono (d := .tuple (rows.map dI)) (smA_rows k h).tuple (Nat.le_refl _) (Nat.le_refl _)
end G9

set_option Elab.async false
set_option linter.all false
set_option maxRecDepth 100000
set_option maxHeartbeats 8000000
/-! is_whole, _stands_in, first_broken, settled, answer_values -/
namespace G9
open PySem PySem.Spec PyProof.Rows L2 GX
/-- what may stand in a tuple that is judged -/
inductive Mb (H : Hp) : V → Prop
  | int (i : Int) : Mb H (.int i)
  | bl (b : Bool) : Mb H (.bl b)
  | non : Mb H .non
  | str (x : Str) : Mb H (.str x)
  | tup {a : Addr} {xs : List V} (e : H a = some (.tup xs)) : Mb H (.ref a)
theorem Mb.kt {H H' : Hp} (k : Kt H H') {v : V} (h : Mb H v) : Mb H' v := by
  cases h with
  | int i => exact .int i
  | bl b => exact .bl b
  | non => exact .non
  | str x => exact .str x
  | tup e => exact .tup (k _ _ e)
def isI : V → Bool
  | .int _ => true
  | _ => false
def toI : V → Int
  | .int i => i
  | _ => 0
def spWhole : Sp := fun vs H Q _ => ∃ v, vs = [v] ∧ Mb H v ∧ Q (.bl (isI v)) H
def spStands : Sp := fun vs H Q _ => ∃ u dom v, vs = [u, .int v] ∧ IH H u dom ∧ Q (.bl (decide (v ∈ dom))) H
/-- the first cell whose domain has not its value -/
def badCell (p : Puz) (ns : List Int) : Option Nat := (List.range p.doms.length).find? fun c => !decide (ns.getD c 0 ∈ p.doms.getD c [])
noncomputable def badRule (p : Puz) (ns : List Int) : Option Nat := (List.range p.rules.length).find? fun j => !((p.rules[j]?.map fun r => fitsB r (pick ns (Rul.cells r))).getD true)
noncomputable def brokenD (p : Puz) (ns : List Int) : PyData := match badCell p ns with
  | some c => .tuple [.str "cell", .int ((c : Nat) : Int)]
  | none => match badRule p ns with
    | some j => .tuple [.str "rule", .int ((j : Nat) : Int)]
    | none => .none
def spBroken (K : PySem.W.Frag) : Sp := fun vs H Q _ => ∃ u p v ns, vs = [u, v] ∧ PzH H u p ∧ PzOk p ∧ IH H v ns ∧ ns.length = p.doms.length ∧ ∀ w H', Same H H' → Dp K H' w (brokenD p ns) → Q w H'
theorem find_at {f : Nat → Bool} {n i : Nat} (h : i < n) (bad : f i = true) (good : ∀ j < i, f j = false) : (List.range n).find? f = some i := by
  rw [List.find?_range_eq_some]
  exact ⟨bad, List.mem_range.mpr h, fun j hj => by rw [good j hj]; rfl⟩
theorem find_no {f : Nat → Bool} {n : Nat} (good : ∀ j < n, f j = false) : (List.range n).find? f = none := by
  rw [List.find?_eq_none]
  intro j hj
  rw [good j (List.mem_range.mp hj)]
  exact Bool.false_ne_true
section
variable {P : Program} {w : World} {K : PySem.W.Frag} {mg : Str → Option Value} {base : Heap} {f f1 f2 f3 : Addr} {fd fd1 fd2 fd3 : FuncData} {pT : Addr}
theorem ok_whole (B : Bl mg) (D : Df K mg "is_whole" sIsWhole ["value"] f fd) : FnOk P w K mg base CX0 1 f fd ["value"] spWhole := by
  refine D.F.ok scIsWhole (fun vs H Q E h => ?_) (fun cdv A outer s H vs Q E hr h => ?_)
  · obtain ⟨v, rfl, _⟩ := h
    rfl
  · obtain ⟨v, rfl, hv, k⟩ := h
    refine ⟨_, pss_one (ps_ret (pe_and (pe_callB call_isi (by rfl) B.isi PyProof.Rows.boot_isinstance (pa_cons (pv 0) (pa_cons (pe_bltn (v := .ty "int") (by rfl) B.int PyProof.Rows.boot_int rfl) pa_nil)))
      (pe_one (pe_not (pe_callB call_isi (by rfl) B.isi PyProof.Rows.boot_isinstance (pa_cons (pv 0) (pa_cons (pe_bltn (v := .ty "bool") (by rfl) B.bool PyProof.Rows.boot_bool rfl) pa_nil))))))), ?_⟩
    cases hv with
    | int i => exact ⟨_, rfl, _, _, _, _, true, rfl, .ty _, .base (.int _), kit_ty (by decide +kernel), _, rfl, ifT rfl ⟨_, rfl, _, _, _, _, false, rfl, .ty _, .base (.int _), kit_ty (by decide +kernel), _, rfl, k⟩⟩
    | bl b => exact ⟨_, rfl, _, _, _, _, true, rfl, .ty _, .base (.bl _), kit_ty (by decide +kernel), _, rfl, ifT rfl ⟨_, rfl, _, _, _, _, true, rfl, .ty _, .base (.bl _), kit_ty (by decide +kernel), _, rfl, k⟩⟩
    | non => exact ⟨_, rfl, _, _, _, _, false, rfl, .ty _, .base .non, kit_ty (by decide +kernel), _, rfl, ifF rfl k⟩
    | str x => exact ⟨_, rfl, _, _, _, _, false, rfl, .ty _, .base (.str _), kit_ty (by decide +kernel), _, rfl, ifF rfl k⟩
    | tup e => exact ⟨_, rfl, _, _, _, _, false, rfl, .ty _, .base (.tup e), kit_ty (by decide +kernel), _, rfl, ifF rfl k⟩
end
end G9

set_option Elab.async false
set_option linter.all false
set_option maxRecDepth 100000
set_option maxHeartbeats 4000000
/-! the law's any_order, of any things -/
namespace G9
open PySem PySem.Spec PyProof.Rows L2 GX
def spOrderV : Sp := fun vs H Q _ => ∃ (d cs la : Addr) (xs : List V), vs = [.ref d, .ref la] ∧ SrcAt H d cs ∧ H la = some (.lst xs) ∧ xs.length ≤ 100000 ∧ ∀ (l : Addr) (xs' : List V) (H' : Hp), xs'.Perm xs → SrcAt H' d cs → Rn d cs H H' → H l = none → H' l = some (.lst xs') → Q (.ref l) H'
section
variable {P : Program} {w : World} {K : PySem.W.Frag} {mg : Str → Option Value} {base : Heap} {f fP : Addr} {fd dP : FuncData}
theorem ok_orderV (B : Bl mg) (D : Df K mg "_law_any_order" sOrder ["_law_source", "_law_things"] f fd) (DP : Df K mg "_law_pick" sPick ["_law_source", "_law_most"] fP dP) (GP : FnOk P w K mg base CX0 1 fP dP ["_law_source", "_law_most"] spPick) : FnOk P w K mg base CX0 3 f fd ["_law_source", "_law_things"] spOrderV := by
  refine D.F.ok scOrder (fun vs H Q E h => ?_) (fun cdv A outer s H vs Q E hr h => ?_)
  · obtain ⟨d, cs, la, xs, rfl, _⟩ := h
    rfl
  · obtain ⟨d, cs, ta, xs, rfl, hs, hta, hn, k⟩ := h
    refine ⟨_, pss_cons (ps_set (i := 2) scOrder.nd rfl (.inr rfl) (pe_callTy call_list_of (by rfl) B.list PyProof.Rows.boot_list (pa_cons (pv 1) pa_nil)))
      (pss_one (ps_ret (pe_lc (own := [("_law_lap", 3)]) rfl scOrder.nd (pi_range1 (by rfl) B.range (pa_cons (pe_callB call_len_seq (by rfl) B.len PySem.boot_len (pa_cons (pv 2) pa_nil)) pa_nil)) (blkOk_by (N := ["_law_source", "_law_things", "_law_others", "_law_lap"]) (sc := defScope sOrder) (by decide +kernel))
        (fun _ _ _ _ _ => pg_name (i := 3) scOrder.nd rfl (.inl rfl)) (fun _ _ _ _ _ => pts_nil)
        (fun _ _ _ _ _ => (show PE _ _ (tBM K "list" rPopAt _ _) from pe_bm PySem.F.plainAttrs_list PySem.F.slot_list_pop PySem.F.type_list_pop mt_popAt (pv 2) (pa_cons (pe_call GP (hr.mono (by decide)) (by rfl) DP.g DP.F.kp DP.b .nil pass0 (pa_cons (pv 0) (pa_cons (pe_callB (lenK K) (by rfl) B.len PySem.boot_len (pa_cons (pv 2) pa_nil)) pa_nil))) pa_nil)))))), ?_⟩
    refine ⟨_, rfl, ta, _, rfl, .inl (sql hta), fun ot hot => ?_⟩
    have n1 := hs.none hot
    refine ⟨_, rfl, ot, _, rfl, .inl (sql upd_same), _, rfl, by omega, by omega, fun L hL => ?_⟩
    have hs1 : SrcAt (upd H ot (.lst xs)) d cs := hs.upd n1.1 n1.2
    have n2 := hs1.none hL
    have n3 : ot ≠ L := ne_of_none upd_same hL
    have hLH : H L = none := none_under hL
    refine lc_it (walk_range (lo := 0) (n := ((xs.length : Nat) : Int).toNat)) (fun i H' => ∃ done rest : List V, H' ot = some (.lst rest) ∧ H' L = some (.lst done) ∧ (done ++ rest).Perm xs ∧ rest.length + i = xs.length ∧ SrcAt H' d cs ∧ Rn d cs H H')
      ⟨[], xs, upd_at hL upd_same, upd_same, .refl _, rfl, hs1.upd n2.1 n2.2, fun b o _ _ e => upd_at hL (upd_at hot e)⟩ (fun i H' _ h => trivial) (fun i x H' H'' hi h y => ?_) (fun H' h => ?_)
    · obtain ⟨done, rest, hO, hLd, pm, rl, hs', rn⟩ := h
      obtain ⟨rfl, rfl⟩ := y
      have ilt : i < xs.length := by rw [Int.toNat_natCast] at hi; exact hi
      have dl : done.length ≤ xs.length := by
        have := pm.length_eq
        rw [List.length_append] at this
        omega
      refine ⟨rfl, _, rfl, .inl ⟨rfl, _, sql hO⟩, _, rfl, _, rfl, ot, _, rfl, .inl (sql hO), d, cs, _, rfl, hs', by omega, fun r H1 r0 r1 hs2 rn2 => ?_⟩
      have rb : 0 ≤ r ∧ r < (rest.length : Int) := by
        by_cases h2 : (rest.length : Int) < 2
        · have := r0 h2
          omega
        · exact r1 (by omega)
      have hO1 : H1 ot = some (.lst rest) := rn2 _ _ n1.1 n1.2 hO
      have hL1 : H1 L = some (.lst done) := rn2 _ _ n2.1 n2.2 hLd
      have rlt : r.toNat < rest.length := by omega
      refine ⟨ot, _, r, r.toNat, rest[r.toNat]'rlt, rfl, rfl, hO1, by omega, by omega, seqIndex_of rb.1 rb.2, List.getElem?_eq_getElem rlt, ?_⟩
      have hL2 : upd H1 ot (.lst (rest.eraseIdx r.toNat)) L = some (.lst done) := by rw [upd_ne n3.symm]; exact hL1
      refine ⟨_, hL2, by rw [sizeLine_eq]; omega, done ++ [rest[r.toNat]'rlt], rest.eraseIdx r.toNat, ?_, upd_same, ?_, ?_, (hs2.upd n1.1 n1.2).upd n2.1 n2.2, fun b o h1 h2 e => ?_⟩
      · rw [upd_ne n3, upd_same]
      · refine .trans ?_ pm
        rw [List.append_assoc]
        exact .append_left _ (erase_perm rlt)
      · rw [List.length_eraseIdx_of_lt rlt]
        omega
      · rw [upd_ne (fun z => by rw [z, hLH] at e; cases e), upd_ne (fun z => by rw [z, hot] at e; cases e)]
        exact rn2 b o h1 h2 (rn b o h1 h2 e)
    · obtain ⟨done, rest, hO, hLd, pm, rl, hs', rn⟩ := h
      rw [Int.toNat_natCast] at rl
      have : rest = [] := List.eq_nil_of_length_eq_zero (by omega)
      subst this
      rw [List.append_nil] at pm
      exact k L done H' pm hs' rn hLH hLd
end
end G9

set_option Elab.async false
set_option linter.all false
set_option maxRecDepth 100000
set_option maxHeartbeats 4000000
/-! what stays over a step of the law; dict of pairs (v, 0) -/
namespace G9
open PySem PySem.Spec PyProof.Rows L2 GX
theorem rowsOf_three : ∀ (n : Nat) (ds : List (List Int)), ds.length = n → (∀ d ∈ ds, d.length ≤ 3) → (rowsOf ds).length ≤ 3 ^ n
  | 0, [], _, _ => Nat.le_refl _
  | n + 1, ds, h, hd => by
    have ne : ds ≠ [] := fun z => by rw [z] at h; cases h
    have e := List.dropLast_concat_getLast ne
    have hl : ds.dropLast.length = n := by rw [List.length_dropLast, h]; rfl
    rw [← e, rowsOf_snoc]
    have i1 := rowsOf_three n _ hl fun d hd' => hd d (List.dropLast_subset _ hd')
    have i2 := hd _ (List.getLast_mem ne)
    rw [grow_len]
    exact Nat.mul_le_mul i1 i2
structure Wk (d cs : Addr) (H H' : Hp) : Prop where
  src : SrcAt H' d cs
  lx : LX cs H H'
  tb : ∀ P, GxR.TabG H P → GxR.TabG H' P
section
variable {d cs : Addr} {H H' H2 : Hp}
theorem wk_same (hs : SrcAt H d cs) (s : Same H H') : Wk d cs H H' := ⟨hs.same s, lx_same s, (kb_same s).2⟩
theorem wk_kb (hs : SrcAt H d cs) (s : Kb H H') : Wk d cs H H' := ⟨hs.kb s, lx_kb s, s.2⟩
theorem wk_rn (hs : SrcAt H d cs) (hs' : SrcAt H' d cs) (rn : Rn d cs H H') : Wk d cs H H' := by
  obtain ⟨zs, l, m, u, hd, hcs, _⟩ := id hs
  refine ⟨hs', ⟨rn.kt hs, fun b xs n e => rn b _ (ne_of e hd fun z => by cases z) n e⟩, fun P ⟨ps, e, t⟩ => ⟨ps, rn _ _ (ne_of e hd fun z => by cases z) (ne_of e hcs fun z => by cases z) e, t⟩⟩
theorem Wk.tr (h : Wk d cs H H') (g : Wk d cs H' H2) : Wk d cs H H2 := ⟨g.src, h.lx.trans g.lx, fun P e => g.tb P (h.tb P e)⟩
theorem Wk.same (h : Wk d cs H H') (s : Same H' H2) : Wk d cs H H2 := h.tr (wk_same h.src s)
theorem Wk.kb (h : Wk d cs H H') (s : Kb H' H2) : Wk d cs H H2 := h.tr (wk_kb h.src s)
theorem Wk.rn (h : Wk d cs H H') (hs : SrcAt H2 d cs) (r : Rn d cs H' H2) : Wk d cs H H2 := h.tr (wk_rn h.src hs r)
end
theorem Wk.refl {d cs : Addr} {H : Hp} (h : SrcAt H d cs) : Wk d cs H H := ⟨h, .refl _ _, fun _ e => e⟩
def pr0 (v : Int) : Key × V := (.inl v, .int 0)
theorem put0_in {us : List Int} {v : Int} (h : v ∈ us) : putK (us.map pr0) (.inl v) (.int 0) = us.map pr0 := by
  unfold putK
  have a : ((us.map pr0).any fun kv => decide (kv.1 = Sum.inl v)) = true := by
    rw [List.any_map, List.any_eq_true]
    exact ⟨v, h, decide_eq_true rfl⟩
  rw [if_pos a, List.map_map]
  refine List.map_congr_left fun u hu => ?_
  show (if (Sum.inl u : Key) = Sum.inl v then _ else pr0 u) = pr0 u
  by_cases e : (Sum.inl u : Key) = Sum.inl v
  · rw [if_pos e]
    unfold pr0
    rw [e]
  · rw [if_neg e]
theorem put0_new {us : List Int} {v : Int} (h : v ∉ us) : putK (us.map pr0) (.inl v) (.int 0) = (us ++ [v]).map pr0 := by
  unfold putK
  have a : ¬ ((us.map pr0).any fun kv => decide (kv.1 = Sum.inl v)) = true := by
    rw [List.any_map, List.any_eq_true]
    rintro ⟨u, hu, e⟩
    have e2 : (Sum.inl u : Key) = Sum.inl v := of_decide_eq_true e
    exact h (Sum.inl.inj e2 ▸ hu)
  rw [if_neg a, List.map_append]
  rfl
theorem merge0 : ∀ (vals us : List Int), us.Nodup → ∃ ws : List Int, mergeK (us.map pr0) (vals.map pr0) = ws.map pr0 ∧ ws.Nodup ∧ ∀ x, x ∈ ws ↔ x ∈ us ∨ x ∈ vals
  | [], us, nd => ⟨us, rfl, nd, fun x => by simp⟩
  | v :: vals, us, nd => by
    by_cases h : v ∈ us
    · obtain ⟨ws, e, n2, m⟩ := merge0 vals us nd
      refine ⟨ws, ?_, n2, fun x => ?_⟩
      · show mergeK (putK (us.map pr0) (.inl v) (.int 0)) (vals.map pr0) = _
        rw [put0_in h]
        exact e
      · rw [m x, List.mem_cons]
        constructor
        · rintro (z | z)
          · exact .inl z
          · exact .inr (.inr z)
        · rintro (z | z | z)
          · exact .inl z
          · exact .inl (z ▸ h)
          · exact .inr z
    · obtain ⟨ws, e, n2, m⟩ := merge0 vals (us ++ [v]) (nodup_snoc nd h)
      refine ⟨ws, ?_, n2, fun x => ?_⟩
      · show mergeK (putK (us.map pr0) (.inl v) (.int 0)) (vals.map pr0) = _
        rw [put0_new h]
        exact e
      · rw [m x, List.mem_append, List.mem_singleton, List.mem_cons]
        constructor
        · rintro ((z | z) | z)
          · exact .inl z
          · exact .inr (.inl z)
          · exact .inr (.inr z)
        · rintro (z | z | z)
          · exact .inl (.inl z)
          · exact .inl (.inr z)
          · exact .inr z
theorem inc_of {l : List Int} (nd : l.Nodup) (le : l.Pairwise (· ≤ ·)) : l.Pairwise (· < ·) := by
  induction l with
  | nil => exact .nil
  | cons a l ih =>
    obtain ⟨a1, a2⟩ := List.pairwise_cons.mp le
    obtain ⟨n1, n2⟩ := List.nodup_cons.mp nd
    refine List.pairwise_cons.mpr ⟨fun x hx => ?_, ih n2 a2⟩
    have := a1 x hx
    have ne : a ≠ x := fun z => n1 (z ▸ hx)
    omega
/-- the drawn puzzles of this law -/
structure Pd (p : Puz) : Prop where
  ok : PzOk p
  n1 : 1 ≤ p.doms.length
  n4 : p.doms.length ≤ 4
  r8 : p.rules.length ≤ 8
  dom : ∀ e ∈ p.doms, e.Pairwise (· < ·) ∧ (∀ v ∈ e, Few v) ∧ e.length ≤ 3 ∧ ∀ v ∈ e, 0 ≤ v ∧ v < 4
  rul : ∀ r ∈ p.rules, RulNum r ∧ (Rul.cells r).length ≤ 8
theorem Pd.ans {p : Puz} (h : Pd p) : (answersOf p).length ≤ 81 := by
  refine Nat.le_trans (List.length_filter_le _ _) (Nat.le_trans (rowsOf_three _ _ rfl fun e he => (h.dom e he).2.2.1) ?_)
  exact Nat.le_trans (Nat.pow_le_pow_right (by decide) h.n4) (by decide)
theorem Pd.row {p : Puz} (h : Pd p) : ∀ r ∈ answersOf p, r.length ≤ 8 ∧ ∀ v ∈ r, Few v := fun r hr => by
  have h6 := h.n4
  exact ⟨by rw [ans_len hr]; omega, rowsOf_all _ _ rfl (fun e he => (h.dom e he).2.1) r (List.mem_filter.mp hr).1⟩
end G9

set_option Elab.async false
set_option linter.all false
set_option maxRecDepth 100000
set_option maxHeartbeats 4000000
/-! defs that print: nothing is being shown as they are called -/
namespace G9
open PySem PySem.Spec PyProof.Rows L2 GX
section
variable {P : Program} {w : World} {K : PySem.W.Frag} {mg : Str → Option Value} {base : Heap} {f : Addr} {fd : FuncData}
/-- a def's call where all that is around it is known -/
theorem run_at {A : Around} {x qual : Str} {st : Stmt} {N ps : List Str} {sp : Sp} {k : Nat} (F : Fun K x qual st f fd) (S : FnScope N ps (defScope st)) (hr : Room (k + 1) A) {s : Shared} {H : Hp} {as : Args} {us : List Value} {vs : List V} {Q : VK} {E : XK} {outer : List Env}
    (body : ∀ (cdv : Value), Room k (A.deeper (envOfC qual (defScope st) s.heap.objs.size f cdv)) → ∃ t, PSs (cxOf CX0 P w K mg base N qual (defScope st) f cdv A outer s H E).nox (defBody st) t ∧ t { nx := fun _ H' => Q .non H', rt := Q } (start N vs) H)
    (hl : vs.length = ps.length) (env : Env0 P w K mg base A outer s H) (hb : BindsTo s fd as (ps.zip us)) (rv : Vals vs us) : codeAny (model P w) A (.call (.ref f) as) (CR CX0 outer P w H s Q E) s := by
  obtain ⟨oc, od, kV, doc, pm, an, cdv, ct, osl, rfl, lk, hcd⟩ := F.ex
  obtain ⟨t, ht, hq⟩ := body cdv (hr.deeper _)
  have old : ∀ b o, base.get? b = some o → s.heap.get? b = some o := fun b o e => (env.bs b o e).1
  have kin : K.In s.heap := env.mod.kin.keeps old
  have kinds : ∀ y ∈ ps.zip us, (defScope st).names.lookup y.1 = some .local ∨ ((defScope st).names.lookup y.1 = some .cell ∧ ((cellsFrom (s.heap.objs.size + 1) (defScope st).names []).lookup y.1).isSome = true) := fun y hy =>
    (S.par y.1 (List.of_mem_zip hy).1).imp id fun z => ⟨z, PySem.W.cellsFrom_some _ _ _ (.inl z)⟩
  refine codeAny_call_function hr.depth (kin _ _ lk) rfl S.co S.gen rfl (PySem.W.codeRec_of kin hcd) (hb _ _ _ _ (wpAny_newFunctionEnv_cells S.kind kinds fun e he s1 new => ?_))
  subst he
  refine ⟨(env.mod.nolimit.keeps old).keeps new.toInCall.keep, codeAny_func (wpAny_mono (ht.nox.run [] s1 (start N vs) H _ (inv_start S hr.hd env hl rv new) hq) (fun r s' h => ?_) fun _ _ h => h)⟩
  have out : ∀ {σ' : L2.St} {H' : Hp} {v : V} {u : Value}, Inv (cxOf CX0 P w K mg base N qual (defScope st) f cdv A outer s H E) [] σ' H' s' → RelV v u → Q v H' → CE outer P w H s Q u s' := fun J e q => ⟨_, _, J.os, J.bare, J.base, J.hok, e, q⟩
  cases r with
  | ret u =>
    obtain ⟨v, σ', H', J, e, q⟩ := h
    exact out J e q
  | next =>
    obtain ⟨σ', H', J, q⟩ := h
    exact out (v := V.non) (u := Value.none) J rfl q
  | brk =>
    obtain ⟨_, _, _, q⟩ := h
    exact q.elim
  | cont =>
    obtain ⟨_, _, _, q⟩ := h
    exact q.elim
end
structure FnG (P : Program) (w : World) (K : PySem.W.Frag) (mg : Str → Option Value) (base : Heap) (k : Nat) (f : Addr) (fd : FuncData) (ps : List Str) (sp : Sp) : Prop where
  len : ∀ vs H Q E, sp vs H Q E → vs.length = ps.length
  run : ∀ (A : Around) (outer : List Env) (s : Shared) (H : Hp) (as : Args) (us : List Value) (vs : List V) (Q : VK) (E : XK), Room k A → A.guards = some [] → Env0 P w K mg base A outer s H → BindsTo s fd as (ps.zip us) → Vals vs us → sp vs H Q E → codeAny (model P w) A (.call (.ref f) as) (CR CX0 outer P w H s Q E) s
theorem fnG_of {P : Program} {w : World} {K : PySem.W.Frag} {mg : Str → Option Value} {base : Heap} {f : Addr} {fd : FuncData} {x : Str} {st : Stmt} {N ps : List Str} {sp : Sp} {k : Nat} (F : Fun K x x st f fd) (S : FnScope N ps (defScope st)) (len : ∀ vs H Q E, sp vs H Q E → vs.length = ps.length)
    (hbody : ∀ (cdv : Value) (A : Around) (outer : List Env) (s : Shared) (H : Hp) (vs : List V) (Q : VK) (E : XK), Room k (A.deeper (envOfC x (defScope st) s.heap.objs.size f cdv)) → A.guards = some [] → sp vs H Q E →
      ∃ t, PSs (cxOf CX0 P w K mg base N x (defScope st) f cdv A outer s H E).nox (defBody st) t ∧ t { nx := fun _ H' => Q .non H', rt := Q } (start N vs) H) : FnG P w K mg base (k + 1) f fd ps sp :=
  ⟨len, fun A outer s H as us vs Q E hr hA env hb rv hs => run_at (sp := sp) F S hr (fun cdv hr2 => hbody cdv A outer s H vs Q E hr2 hA hs) (len _ _ _ _ hs) env hb rv⟩
theorem pe_callG {X : Cx} {k : Nat} {f : Addr} {fd : FuncData} {ps : List Str} {sp : Sp} {x : Str} {p pos : Pos} {e : Expr} {es : List Expr} {t : TA} (F : FnG X.prog X.w X.K X.mg X.base k f fd ps sp) (hr : Room k X.A) (hA : X.A.guards = some []) (hg : Gl X x) (hm : X.mg x = some (.ref f)) (hk : PySem.W.keepIn X.K (.ref f) = true) (hb : Binds X.K fd ps []) (ha : PA X (e :: es) t)
    (hdb : (x == ("__debug__" : Str)) = false := by decide) (he : starEach (e :: es) X.env = (false, eval e X.env) :: starEach es X.env := by rfl) (hpl : (backTo pos (starEach es X.env)).any (·.1) = false := by rfl) : PE X (.Call (.Name x p) (e :: es) [] pos) (tCall sp [] E0 t) := by
  refine ⟨fun pins s σ H Q I h => wpAny_Call_Name_kw (ld_glob I hg hm (PySem.W.callWith_K (h₀ := X.base) I.ok.mod.kin hk (thn (ha.run pos pins s σ H _ I h) fun us s1 hx => ?_) he hpl) hdb)⟩
  obtain ⟨vs, H1, I1, r, q⟩ := hx
  rw [List.append_nil] at q
  have hl : (us ++ []).length = ps.length := by rw [List.append_nil, ← r.length]; exact F.len _ _ _ _ q
  have bind := hb s1 us I1.kIn hl
  rw [List.append_nil] at bind
  refine ⟨I1.kIn, wpAny_call (codeAny_mono (F.run X.A X.stack s1 H1 ⟨us, []⟩ us vs Q E0 hr hA I1.env0 bind r q) fun u s' hq => ?_)⟩
  cases u with
  | error e => exact hq.elim
  | ok fl =>
    cases fl with
    | ret u => exact I1.after hq
    | next => exact hq.elim
    | brk => exact hq.elim
    | cont => exact hq.elim
/-- repr of data: what it shows -/
def rReprD (K : PySem.W.Frag) : List V → Hp → VK → Prop := fun xs H Q => ∃ (x : V) (d : PyData), xs = [x] ∧ Dp K H x d ∧ d.showable = true ∧ d.hasDict = false ∧ d.depth ≤ 60 ∧ d.shown.length ≤ sizeLine ∧ Q (.str d.shown) H
section
variable {X : Cx}
theorem call_reprD (hg : X.A.guards = some []) (hu : X.A.units + 64 < cLine) : CallR X (.builtin "repr") (rReprD X.K) := by
  intro pins s σ H xs us Q I r h
  obtain ⟨x, d, rfl, hd, hs, hn, hdp, hz, q⟩ := h
  obtain ⟨u, rfl, rx⟩ := vals1 r
  obtain ⟨as, rd⟩ := Dp.reads I d x u hd rx
  have fin : ∀ h' u2 tk, (∀ b o, s.heap.get? b = some o → h'.get? b = some o) → EP X pins σ Q (.str d.shown u2) { s with heap := h', toks := tk } := fun h' u2 tk k =>
    ⟨.str d.shown, H, I.kept (t' := tk) k, ⟨u2, rfl⟩, q⟩
  cases hd with
  | non =>
    cases rx
    rw [PyData.shown] at q
    exact PySem.P.repr_of_none ⟨.str "None", H, I.tok _, ⟨_, rfl⟩, q⟩
  | bl b =>
    cases rx
    rw [PyData.shown] at q
    exact PySem.P.repr_of_bool ⟨.str _, H, I.tok _, ⟨_, rfl⟩, q⟩
  | int i =>
    obtain ⟨t, rfl⟩ := rx
    rw [PyData.shown] at q
    exact PySem.P.repr_of_int (by simpa [PyData.showable] using hs) ⟨.str _, H, I.tok _, ⟨_, rfl⟩, q⟩
  | str z =>
    obtain ⟨t, rfl⟩ := rx
    rw [PyData.shown] at q hz
    exact PySem.P.repr_of_str ⟨.str _, H, I.tok _, ⟨_, rfl⟩, q⟩ hz
  | lst _ _ =>
    cases rx
    exact repr_of_reads' rd hs (PyData.noDict_hsm hn) hg (by omega) (fun _ _ e => e) fin hz
  | tup _ _ =>
    cases rx
    exact repr_of_reads' rd hs (PyData.noDict_hsm hn) hg (by omega) (fun _ _ e => e) fin hz
end
theorem reprK (K : PySem.W.Frag) {X : Cx} (hg : X.A.guards = some []) (hu : X.A.units + 64 < cLine) (h : X.K = K := by rfl) : CallR X (.builtin "repr") (rReprD K) := h ▸ call_reprD hg hu
end G9

set_option Elab.async false
set_option linter.all false
set_option maxRecDepth 100000
set_option maxHeartbeats 4000000
/-! a puzzle as data -/
namespace G9
open PySem PySem.Spec PyProof.Rows L2 GX
def dRul : Rul → PyData
  | .table cs rows => .tuple [.str "table", dI cs, dRows rows]
  | .unlike cs => .tuple [.str "unlike", dI cs]
  | .sum cs lo hi => .tuple [.str "sum", dI cs, .int lo, .int hi]
  | .count cs vs lo hi => .tuple [.str "count", dI cs, dI vs, .int lo, .int hi]
  | .below a b => .tuple [.str "below", .int a, .int b]
  | .runs cs ls => .tuple [.str "runs", dI cs, dI ls]
  | .joined cs ties vs => .tuple [.str "joined", dI cs, dRows (ties.map tie2), dI vs]
def dPuz (p : Puz) : PyData := .tuple [dRows p.doms, .tuple (p.rules.map dRul)]
theorem rul_dp {K : PySem.W.Frag} {H : Hp} {v : V} : ∀ {r : Rul}, RuH H v r → Dp K H v (dRul r)
  | .table _ _, ⟨a, x, y, e, q, i, j⟩ => by rw [e]; exact .tup (sqt q) (.cons (.str _) (.cons i.dp (.cons (RowsH.dp j) .nil)))
  | .unlike _, ⟨a, x, e, q, i⟩ => by rw [e]; exact .tup (sqt q) (.cons (.str _) (.cons i.dp .nil))
  | .sum _ _ _, ⟨a, x, e, q, i⟩ => by rw [e]; exact .tup (sqt q) (.cons (.str _) (.cons i.dp (.cons (.int _) (.cons (.int _) .nil))))
  | .count _ _ _ _, ⟨a, x, y, e, q, i, j⟩ => by rw [e]; exact .tup (sqt q) (.cons (.str _) (.cons i.dp (.cons j.dp (.cons (.int _) (.cons (.int _) .nil)))))
  | .below _ _, ⟨a, e, q⟩ => by rw [e]; exact .tup (sqt q) (.cons (.str _) (.cons (.int _) (.cons (.int _) .nil)))
  | .runs _ _, ⟨a, x, y, e, q, i, j⟩ => by rw [e]; exact .tup (sqt q) (.cons (.str _) (.cons i.dp (.cons j.dp .nil)))
  | .joined _ _ _, ⟨a, x, y, z, e, q, i, j, k⟩ => by rw [e]; exact .tup (sqt q) (.cons (.str _) (.cons i.dp (.cons (RowsH.dp j) (.cons k.dp .nil))))
theorem rul_all {K : PySem.W.Frag} {H : Hp} : ∀ {vs : List V} {rs : List Rul}, Paired (RuH H) vs rs → DpAll K H vs (rs.map dRul)
  | _, _, .nil => .nil
  | _, _, .cons a r => .cons (rul_dp a) (rul_all r)
theorem puz_dp {K : PySem.W.Frag} {H : Hp} {v : V} {p : Puz} (h : PzH H v p) : Dp K H v (dPuz p) := by
  obtain ⟨a, x, y, rfl, q, hx, b, vs, rfl, q2, pv⟩ := h
  exact .tup (sqt q) (.cons (RowsH.dp hx) (.cons (.tup (sqt q2) (rul_all pv)) .nil))
structure CmA (ds : List PyData) (k : Nat) : Prop where
  c : PyData.canLayAll0 ds = true
  d : PyData.depthAll ds ≤ k
structure Cm (e : PyData) (k : Nat) : Prop where
  c : e.canLay0 = true
  d : e.depth ≤ k
theorem CmA.nil {k : Nat} : CmA [] k := ⟨by simp [PyData.canLayAll0], by simp [PyData.depthAll]⟩
theorem CmA.cons {e : PyData} {ds : List PyData} {k : Nat} (h : Cm e k) (g : CmA ds k) : CmA (e :: ds) k := ⟨by simp only [PyData.canLayAll0, h.c, g.c, Bool.and_true], by
  simp only [PyData.depthAll]
  exact Nat.max_le.mpr ⟨h.d, g.d⟩⟩
theorem CmA.tuple {ds : List PyData} {k : Nat} (h : CmA ds k) : Cm (.tuple ds) (k + 1) := ⟨by unfold PyData.canLay0; exact h.c, by
  have := h.d
  unfold PyData.depth
  omega⟩
theorem cm_int (i : Int) (k : Nat) : Cm (.int i) k := ⟨rfl, by unfold PyData.depth; omega⟩
theorem cm_str (x : Str) (k : Nat) (h : (PyData.str x).canLay0 = true) : Cm (.str x) k := ⟨h, by unfold PyData.depth; omega⟩
theorem cm_dI (ns : List Int) (k : Nat) : Cm (dI ns) (k + 1) := ⟨can_dI ns, by rw [depth_dI]; omega⟩
theorem cm_rows (rows : List (List Int)) (k : Nat) : Cm (dRows rows) (k + 2) := ⟨(cmp_rows rows).1, by
  have := depth_rows rows
  unfold dRows PyData.depth
  omega⟩
theorem cm_rul : ∀ r : Rul, Cm (dRul r) 3
  | .table _ _ => CmA.tuple (.cons (cm_str _ _ (by first | rfl | decide +kernel)) (.cons (cm_dI _ _) (.cons (cm_rows _ _) .nil)))
  | .unlike _ => CmA.tuple (.cons (cm_str _ _ (by first | rfl | decide +kernel)) (.cons (cm_dI _ _) .nil))
  | .sum _ _ _ => CmA.tuple (.cons (cm_str _ _ (by first | rfl | decide +kernel)) (.cons (cm_dI _ _) (.cons (cm_int _ _) (.cons (cm_int _ _) .nil))))
  | .count _ _ _ _ => CmA.tuple (.cons (cm_str _ _ (by first | rfl | decide +kernel)) (.cons (cm_dI _ _) (.cons (cm_dI _ _) (.cons (cm_int _ _) (.cons (cm_int _ _) .nil)))))
  | .below _ _ => CmA.tuple (.cons (cm_str _ _ (by first | rfl | decide +kernel)) (.cons (cm_int _ _) (.cons (cm_int _ _) .nil)))
  | .runs _ _ => CmA.tuple (.cons (cm_str _ _ (by first | rfl | decide +kernel)) (.cons (cm_dI _ _) (.cons (cm_dI _ _) .nil)))
  | .joined _ _ _ => CmA.tuple (.cons (cm_str _ _ (by first | rfl | decide +kernel | simp [PyData.canLay0])) (.cons (cm_dI _ _) (.cons (cm_rows _ _) (.cons (cm_dI _ _) .nil))))
theorem cm_ruls : ∀ rs : List Rul, CmA (rs.map dRul) 3
  | [] => .nil
  | r :: rs => .cons (cm_rul r) (cm_ruls rs)
theorem cmp_puz (p : Puz) : Cmp (dPuz p) := by
  have h : Cm (dPuz p) 5 := CmA.tuple (.cons (cm_rows _ _) (.cons (cm_ruls _).tuple .nil))
  exact ⟨h.c, Nat.le_trans h.d (by decide)⟩
theorem eqv_puz (p : Puz) : PyData.eqv (dPuz p) (dPuz p) = true := PySem.SeqAt.eqv_refl _ (cmp_puz p).1
theorem rul_sm {n : Nat} {r : Rul} (hn : n ≤ 8) (num : RulNum r) (c8 : (Rul.cells r).length ≤ 8) (cell : ∀ c ∈ Rul.cells r, 0 ≤ c ∧ c < (n : Int)) : Sm (dRul r) 5 20000 := by
  have fc : ∀ c ∈ Rul.cells r, Few c := fun c hc => by
    have := cell c hc
    exact ⟨this.1, by omega⟩
  have one : ∀ v : Int, Few v → Sm (.int v) 4 30 := fun v h => sm_int h.1 (by have := h.2; omega) 4
  have dc : Sm (dI (Rul.cells r)) 4 260 := sm_dI fc c8 3
  cases r with
  | table cs rows =>
    obtain ⟨h1, h2⟩ := num
    exact (SmA.tuple (.cons (sm_str "table" 4 rfl (by decide)) (.cons dc (.cons ((sm_rows h2 2).mono (Nat.le_refl _) (by omega : _ ≤ 17000)) (SmA.nil (w := 0)))))).mono (by decide) (by decide)
  | unlike cs => exact (SmA.tuple (.cons (sm_str "unlike" 4 rfl (by decide)) (.cons dc (SmA.nil (w := 0))))).mono (by decide) (by decide)
  | sum cs lo hi =>
    obtain ⟨h1, h2⟩ := num
    exact (SmA.tuple (.cons (sm_str "sum" 4 rfl (by decide)) (.cons dc (.cons (one _ h1) (.cons (one _ h2) (SmA.nil (w := 0))))))).mono (by decide) (by decide)
  | count cs vs lo hi =>
    obtain ⟨⟨h0, h3⟩, h1, h2⟩ := num
    exact (SmA.tuple (.cons (sm_str "count" 4 rfl (by decide)) (.cons dc (.cons (sm_dI h3 h0 3) (.cons (one _ h1) (.cons (one _ h2) (SmA.nil (w := 0)))))))).mono (by decide) (by decide)
  | below a b => exact (SmA.tuple (.cons (sm_str "below" 4 rfl (by decide)) (.cons (one a (fc a (List.mem_cons_self ..))) (.cons (one b (fc b (List.mem_cons_of_mem _ (List.mem_cons_self ..)))) (SmA.nil (w := 0)))))).mono (by decide) (by decide)
  | runs cs ls =>
    obtain ⟨h0, h3⟩ := num
    exact (SmA.tuple (.cons (sm_str "runs" 4 rfl (by decide)) (.cons dc (.cons (sm_dI h3 h0 3) (SmA.nil (w := 0)))))).mono (by decide) (by decide)
  | joined cs ties vs =>
    obtain ⟨⟨h0, h3⟩, h1, h2⟩ := num
    have ht : ∀ q ∈ ties.map tie2, q.length ≤ 8 ∧ ∀ v ∈ q, Few v := fun q hq => by
      obtain ⟨z, hz, rfl⟩ := List.mem_map.mp hq
      obtain ⟨a, b⟩ := z
      have := h3 _ hz
      refine ⟨by show 2 ≤ 8; omega, fun v hv => ?_⟩
      simp only [tie2, List.mem_cons, List.not_mem_nil, or_false] at hv
      rcases hv with rfl | rfl
      · exact this.1
      · exact this.2
    exact (SmA.tuple (.cons (sm_str "joined" 4 rfl (by decide)) (.cons dc (.cons ((sm_rows ht 2).mono (Nat.le_refl _) (by rw [List.length_map]; omega : _ ≤ 3000)) (.cons (sm_dI h2 h1 3) (SmA.nil (w := 0))))))).mono (by decide) (by decide)
theorem ruls_sm {p : Puz} (pd : Pd p) : ∀ {rs : List Rul}, (∀ r ∈ rs, r ∈ p.rules) → SmA (rs.map dRul) 5 (20002 * rs.length)
  | [], _ => .nil
  | r :: rs, h => by
    have hr := h r (List.mem_cons_self ..)
    have a := rul_sm pd.ok.n8 (pd.rul r hr).1 (pd.rul r hr).2 (pd.ok.cell r hr)
    have b := ruls_sm pd (rs := rs) fun x hx => h x (List.mem_cons_of_mem _ hx)
    exact (SmA.cons a b).mono (Nat.le_refl _) (by rw [List.length_cons]; omega)
theorem puz_sm {p : Puz} (pd : Pd p) : Sm (dPuz p) 40 (2 ^ 20) := by
  have n6 := (Nat.le_trans pd.n4 (by decide) : p.doms.length ≤ 6)
  have r8 := pd.r8
  have d : Sm (dRows p.doms) 6 3000 := (sm_rows (rows := p.doms) (fun r hr => ⟨by have := (pd.dom r hr).2.2.1; omega, (pd.dom r hr).2.1⟩) 4).mono (Nat.le_refl _) (by omega)
  have q : Sm (.tuple (p.rules.map dRul)) 6 170000 := (ruls_sm pd fun x hx => hx).tuple.mono (Nat.le_refl _) (by omega)
  exact (SmA.tuple (.cons d (.cons q (SmA.nil (w := 0))))).mono (by decide) (by decide)
end G9

set_option Elab.async false
set_option linter.all false
set_option maxRecDepth 100000
set_option maxHeartbeats 8000000
/-! is_whole, is_cell on data -/
namespace G9
open PySem PySem.Spec PyProof.Rows L2 GX
theorem isiKK (K : PySem.W.Frag) {X : Cx} (h : X.K = K := by rfl) : CallR X (.builtin "isinstance") (rIsi K) := h ▸ call_isi
def isT : PyData → Bool
  | .tuple _ => true
  | _ => false
def isIB : PyData → Bool
  | .int _ => true
  | .bool _ => true
  | _ => false
def isB : PyData → Bool
  | .bool _ => true
  | _ => false
def isN : PyData → Bool
  | .int _ => true
  | _ => false
theorem dp_ty {K : PySem.W.Frag} {H : Hp} {x : V} {d : PyData} (h : Dp K H x d) : ∃ t, TyX K H x t ∧ PySem.W.kitOne K t (.type "tuple") = some (isT d) ∧ PySem.W.kitOne K t (.type "int") = some (isIB d) ∧ PySem.W.kitOne K t (.type "bool") = some (isB d) := by
  cases h with
  | non => exact ⟨_, .base .non, kit_ty (r := false) (by decide +kernel), kit_ty (r := false) (by decide +kernel), kit_ty (r := false) (by decide +kernel)⟩
  | bl b => exact ⟨_, .base (.bl _), kit_ty (r := false) (by decide +kernel), kit_ty (r := true) (by decide +kernel), kit_ty (r := true) (by decide +kernel)⟩
  | int i => exact ⟨_, .base (.int _), kit_ty (r := false) (by decide +kernel), kit_ty (r := true) (by decide +kernel), kit_ty (r := false) (by decide +kernel)⟩
  | str x => exact ⟨_, .base (.str _), kit_ty (r := false) (by decide +kernel), kit_ty (r := false) (by decide +kernel), kit_ty (r := false) (by decide +kernel)⟩
  | lst q _ =>
    refine ⟨.type "list", ?_, kit_ty (r := false) (by decide +kernel), kit_ty (r := false) (by decide +kernel), kit_ty (r := false) (by decide +kernel)⟩
    rcases q with (e | ⟨o, e⟩) | ⟨o, its, n, e, c, _⟩
    · exact .base (.lst e)
    · exact .base (.frz e)
    · exact .kList e c
  | tup q _ =>
    refine ⟨.type "tuple", ?_, kit_ty (r := true) (by decide +kernel), kit_ty (r := false) (by decide +kernel), kit_ty (r := false) (by decide +kernel)⟩
    rcases q with (e | ⟨o, e⟩) | ⟨o, its, n, e, c, _⟩
    · exact .base (.tup e)
    · exact .fTuple e
    · exact .kTuple e c

def tI : PyData → Int
  | .int i => i
  | _ => 0
def cellD (n : Int) : PyData → Bool
  | .int i => decide (0 ≤ i) && decide (i < n)
  | _ => false
theorem cellD_int {n : Int} : ∀ {d : PyData}, cellD n d = true → d = .int (tI d) ∧ 0 ≤ tI d ∧ tI d < n
  | .int i, h => by
    have h : (decide (0 ≤ i) && decide (i < n)) = true := h
    rw [Bool.and_eq_true, decide_eq_true_eq, decide_eq_true_eq] at h
    exact ⟨rfl, h.1, h.2⟩
def spWholeD (K : PySem.W.Frag) : Sp := fun vs H Q _ => ∃ v d, vs = [v] ∧ Dp K H v d ∧ Q (.bl (isN d)) H
def spCell (K : PySem.W.Frag) : Sp := fun vs H Q _ => ∃ v n d, vs = [v, .int n] ∧ Dp K H v d ∧ Q (.bl (cellD n d)) H
section
variable {P : Program} {w : World} {K : PySem.W.Frag} {pR : Addr} {mg : Str → Option Value} {base : Heap} {f f1 f2 f3 f4 f5 f6 : Addr} {fd fd1 fd2 fd3 fd4 fd5 fd6 : FuncData}
theorem ok_wholeD (B : Bl mg) (D : Df K mg "is_whole" sIsWhole ["value"] f fd) : FnOk P w K mg base CX0 1 f fd ["value"] (spWholeD K) := by
  refine D.F.ok scIsWhole (fun vs H Q E h => ?_) (fun cdv A outer s H vs Q E hr h => ?_)
  · obtain ⟨v, d, rfl, _⟩ := h
    rfl
  · obtain ⟨v, d, rfl, hv, k⟩ := h
    have hu := hr.units
    have hu1 := Nat.lt_of_le_of_lt (Nat.add_le_add_left (show 1 ≤ 64 by decide) _) hr.units
    refine ⟨_, (pss_one (ps_ret (pe_and (pe_callB (isiKK K) (by rfl) B.isi PyProof.Rows.boot_isinstance (pa_cons (pv 0) (pa_cons (pe_bltn (v := .ty "int") (by rfl) B.int PyProof.Rows.boot_int rfl) pa_nil))) (pe_one (pe_not (pe_callB (isiKK K) (by rfl) B.isi PyProof.Rows.boot_isinstance (pa_cons (pv 0) (pa_cons (pe_bltn (v := .ty "bool") (by rfl) B.bool PyProof.Rows.boot_bool rfl) pa_nil)))))))), ?_⟩
    obtain ⟨t, ty, _, e1, e2⟩ := dp_ty hv
    refine ⟨_, rfl, _, _, _, _, _, rfl, .ty _, ty, e1, _, rfl, ?_⟩
    cases d with
    | int i => exact ifT rfl ⟨_, rfl, _, _, _, _, _, rfl, .ty _, ty, e2, _, rfl, k⟩
    | bool b => exact ifT rfl ⟨_, rfl, _, _, _, _, _, rfl, .ty _, ty, e2, _, rfl, k⟩
    | _ => exact ifF rfl k
theorem ok_isCell (B : Bl mg) (D : Df K mg "is_cell" sIsCell ["value", "n"] f fd) (D1 : Df K mg "is_whole" sIsWhole ["value"] f1 fd1) (G1 : FnOk P w K mg base CX0 1 f1 fd1 ["value"] (spWholeD K)) : FnOk P w K mg base CX0 2 f fd ["value", "n"] (spCell K) := by
  refine D.F.ok scIsCell (fun vs H Q E h => ?_) (fun cdv A outer s H vs Q E hr h => ?_)
  · obtain ⟨v, n, d, rfl, _⟩ := h
    rfl
  · obtain ⟨v, n, d, rfl, hv, k⟩ := h
    have hu := hr.units
    have hu1 := Nat.lt_of_le_of_lt (Nat.add_le_add_left (show 1 ≤ 64 by decide) _) hr.units
    refine ⟨_, (pss_one (ps_ret (pe_and (pe_call G1 (hr.mono (by decide)) (by rfl) D1.g D1.F.kp D1.b .nil pass0 (pa_cons (pv 0) pa_nil)) (pe_one (pe_chain op_le op_lt pe_int (pv 0) (pv 1)))))), ?_⟩
    refine ⟨_, rfl, v, d, rfl, hv, _, rfl, ?_⟩
    cases d with
    | int i =>
      cases hv
      refine ifT rfl ⟨_, rfl, _, _, rfl, rfl, _, rfl, ?_⟩
      have k : Q (.bl (decide (0 ≤ i) && decide (i < n))) H := k
      by_cases z : 0 ≤ i
      · rw [decide_eq_true z, Bool.true_and] at k
        exact ifT (decide_eq_true z) ⟨_, rfl, _, _, rfl, rfl, k⟩
      · rw [decide_eq_false z, Bool.false_and] at k
        exact ifF (decide_eq_false z) k
    | _ => exact ifF rfl k
theorem rd_same {H H' : Hp} (s : Same H H') {a : Addr} {o : HO} (h : Rd H a o) : Rd H' a o := h.imp (s _ _) fun ⟨ob, e⟩ => ⟨ob, s _ _ e⟩
theorem sqL_same {K : PySem.W.Frag} {H H' : Hp} (s : Same H H') {a : Addr} {xs : List V} (h : SqL K H a xs) : SqL K H' a xs := h.imp (rd_same s) id
theorem sqT_same {K : PySem.W.Frag} {H H' : Hp} (s : Same H H') {a : Addr} {xs : List V} (h : SqT K H a xs) : SqT K H' a xs := h.imp (rd_same s) id
mutual
theorem dp_same {K : PySem.W.Frag} {H H' : Hp} (s : Same H H') : ∀ {d : PyData} {x : V}, Dp K H x d → Dp K H' x d
  | .none, _, .non => .non
  | .bool _, _, .bl b => .bl b
  | .int _, _, .int i => .int i
  | .str _, _, .str x => .str x
  | .list _, _, .lst q a => .lst (sqL_same s q) (dpAll_same s a)
  | .tuple _, _, .tup q a => .tup (sqT_same s q) (dpAll_same s a)
theorem dpAll_same {K : PySem.W.Frag} {H H' : Hp} (s : Same H H') : ∀ {ds : List PyData} {xs : List V}, DpAll K H xs ds → DpAll K H' xs ds
  | [], _, .nil => .nil
  | _ :: _, _, .cons h a => .cons (dp_same s h) (dpAll_same s a)
end
theorem dpAll_len {K : PySem.W.Frag} {H : Hp} : ∀ {ds : List PyData} {xs : List V}, DpAll K H xs ds → xs.length = ds.length
  | [], _, .nil => rfl
  | _ :: _, _, .cons _ a => congrArg (· + 1) (dpAll_len a)
theorem dpAll_at {K : PySem.W.Frag} {H : Hp} : ∀ {ds : List PyData} {xs : List V}, DpAll K H xs ds → ∀ {i : Nat} {x : V}, xs[i]? = some x → ∃ d, ds[i]? = some d ∧ Dp K H x d
  | [], _, .nil, _, _, h => by cases h
  | d :: _, _, .cons q a, 0, _, h => by
    cases h
    exact ⟨d, rfl, q⟩
  | _ :: _, _, .cons q a, i + 1, _, h => dpAll_at a (i := i) h
end
end G9

set_option Elab.async false
set_option linter.all false
set_option maxRecDepth 100000
set_option maxHeartbeats 4000000
/-! dict != dict of data; a word against a text, whatever it is; own exceptions made of nothing -/
namespace GX
open PySem PySem.Spec PyProof.Rows L2
/-- data that are the same -/
def SmD (K : PySem.W.Frag) (H : Hp) (x y : V) : Prop := ∃ d e, Dp K H x d ∧ Dp K H y e ∧ Cmp d ∧ Cmp e ∧ PyData.eqv d e = true
/-- two dicts with the same keys, and the same data behind them -/
def SmB (K : PySem.W.Frag) (H : Hp) (a b : Addr) : Prop := ∃ ks ls, H a = some (.dK ks) ∧ H b = some (.dK ls) ∧ ks.length = ls.length ∧ ∀ p ∈ ks, ∃ u, valV ls p.1 = some u ∧ SmD K H p.2 u
/-- a word: a text, or something else that is none -/
def WdH (K : PySem.W.Frag) (H : Hp) (x : V) (o : Option Str) : Prop := (∃ z, x = .str z ∧ (PyData.str z).canLay0 = true ∧ o = some z) ∨ (o = none ∧ ((∃ a ks, x = .ref a ∧ H a = some (.dK ks)) ∨ ∃ ds, Dp K H x (.list ds) ∧ Cmp (.list ds)))
section
variable {X : Cx} {pins : List (Addr × Obj)} {σ : L2.St} {H : Hp} {s : Shared}
theorem smD_at (I : Inv X pins σ H s) {B : Around} (hu : B.units + 50 < cLine) {x y : V} {v u : Value} (h : SmD X.K H x y) (rx : RelV x v) (ry : RelV y u) : SeqAt.EqAt B s v u true := by
  obtain ⟨d, e, hd, he, cd, ce, q⟩ := h
  obtain ⟨as, r1⟩ := Dp.reads I d x v hd rx
  obtain ⟨bs, r2⟩ := Dp.reads I e y u he ry
  have z := cd.2
  have := SeqAt.eqAt_reads d e B s v u as bs r1 r2 cd.1 ce.1 (by have := Nat.min_le_left d.depth e.depth; omega)
  rwa [q] at this
theorem smB_hits (I : Inv X pins σ H s) {B : Around} (hu : B.units + 50 < cLine) {ls : List (L2.Key × V)} {vb : List (L2.Key × Value)} (rb : KV ls vb) {ks : List (L2.Key × V)} {va : List (L2.Key × Value)} (ra : KV ks va) :
    (∀ p ∈ ks, ∃ u, valV ls p.1 = some u ∧ SmD X.K H p.2 u) → PySem.W.KeqHits B s vb va true := by
  unfold KV at ra
  induction ra with
  | nil => exact fun _ => .nil
  | @cons p q ps qs g t ih =>
    intro hp
    obtain ⟨g1, g2⟩ := g
    obtain ⟨u, eu, fu⟩ := hp p List.mem_cons_self
    have ro : RelO (some u) (valueAt vb p.1) := eu ▸ rb.val p.1
    obtain ⟨y, hy, ry⟩ := ro.some_of
    obtain ⟨k0, v0⟩ := q
    have e1 : p.1 = k0 := g1
    rw [e1] at hy
    exact PySem.W.KeqHits.hit (e := true) (b := true) hy (smD_at I hu fu g2 ry) (ih fun p' hm => hp p' (List.mem_cons_of_mem _ hm))
def rNeB (K : PySem.W.Frag) : R2 := fun x y H Q => ∃ a b, x = .ref a ∧ y = .ref b ∧ SmB K H a b ∧ Q (.bl false) H
theorem op_neB (hu : X.A.units + 64 < cLine) : OpR X (compareOp .NotEq) (rNeB X.K) := by
  intro pins s σ H x y v u Q I rx ry h
  obtain ⟨a, b, rfl, rfl, ⟨ks, ls, ha, hb, hl, hp⟩, q⟩ := h
  cases (show v = Value.ref a from rx)
  cases (show u = Value.ref b from ry)
  obtain ⟨_, ya, va, ra, da⟩ := (show ObjOk X.prog X.w H s.heap a (.dK ks) from I.hok a _ ha)
  obtain ⟨_, yb, vb, rb, db⟩ := (show ObjOk X.prog X.w H s.heap b (.dK ls) from I.hok b _ hb)
  have e : va.length = vb.length := by rw [← ra.length, ← rb.length]; exact hl
  refine PySem.W.keq_ne (knd := mixKind X.prog X.w) (r := true) ya yb da db (by omega) (fun _ => smB_hits I (B := X.A.in1) (by show X.A.units + 1 + 50 < cLine; omega) rb ra hp) ?_
  rw [show (!(va.length == vb.length && true)) = false by rw [e]; simp]
  exact ⟨.bl false, H, I, rfl, q⟩
theorem str_no_dict (z : Str) (u : Tok) (l : Addr) (o : Obj) : Meets (Builtin.«str.__eq__» ⟨[.str z u, .ref l], []⟩) (fun _ R s => (s.heap.get? l = some o ∧ ∃ es n, o.data = .dict es n) ∧ R (.ok (.ret .notImplemented)) s) :=
  .of_wp fun prog w A R s h => by
    obtain ⟨c, dd, dt, sl⟩ := o
    obtain ⟨hp, g, d, tk, os⟩ := s
    obtain ⟨⟨hl, es, n, e⟩, h⟩ := h
    cases e
    wp_walk using AutoSeq1.wpAny_loadPart' hl, wpAny_load hl
    exact ⟨_, rfl, h⟩
theorem dict_no_str {P : Program} {w : World} {A : Around} {E : Value → Shared → Prop} {l : Addr} {z : Str} {u : Tok} (ht : s.TypeIs (.ref l) "dict") {Q : Value → Shared → Prop} (h : Q .notImplemented s) : wpAny (model P w) A (call (.builtin "dict.__eq__") [.ref l, .str z u]) Q E s := by
  refine wpAny_call_entry PySem.F.slot_dict_eq ht PySem.F.entry_dict_eq ?_ (PySem.F.args_dict_eq_2 _ _)
  show wpAny _ _ (Builtin.Dict.dictSlotArgs "__eq__" ⟨[.ref l, .str z u], []⟩ >>= _) _ _ s
  unfold Builtin.Dict.dictSlotArgs
  refine wpAny_bind (wpAny_bind (wpAny_notOrdered_dict ht ?_))
  refine wpAny_pure ?_
  refine wpAny_bind (wpAny_isInstance (T := "str") (typeIs_str s z u) PySem.F.sub_str_dict ?_)
  simp only [Bool.not_false, if_true]
  refine wpAny_bind (wpAny_rule ?_)
  refine wpAny_pure ?_
  exact ⟨_, rfl, h⟩
theorem rc_dict_str {P : Program} {w : World} {A : Around} {E : Value → Shared → Prop} {l : Addr} {o : Obj} {es : Array DictEntry} {n : Nat} (z : Str) (u : Tok) (ho : s.heap.get? l = some o) (hc : o.cls = .type "dict") (hd : o.data = .dict es n) (hu : A.units < cLine) {Q : Value → Shared → Prop} (h : Q (.bool false) s) :
    wpAny (model P w) A (richCompare .Eq (.ref l) (.str z u)) Q E s :=
  have ht : s.TypeIs (.ref l) "dict" := ⟨o, ho, hc⟩
  SeqAt.rc_eq_decline_or (k := false) ht (typeIs_str s z u) (by decide) PySem.F.sub_str_dict PySem.F.slot_dict_eq PySem.F.slot_str_eq_refl
    (fun _ hq => dict_no_str ht hq)
    (fun _ hq => call_meets PySem.F.slot_str_eq_refl (typeIs_str s z u) PySem.F.entry_str_eq (PySem.F.args_str_eq_2 _ _) (str_no_dict z u l o) ⟨⟨ho, es, n, hd⟩, hq⟩)
    (fun _ hq => wpAny_of_eq (rfl : isSame (.ref l) (.str z u) = pure false) hq) (.inr hu) h
end
section
variable {X : Cx}
def rEqW (K : PySem.W.Frag) : R2 := fun x y H Q => ∃ o z, WdH K H x o ∧ y = .str z ∧ (PyData.str z).canLay0 = true ∧ Q (.bl (decide (o = some z))) H
theorem eqv_str (x z : Str) : PyData.eqv (.str x) (.str z) = decide ((some x : Option Str) = some z) := by
  rw [show decide ((some x : Option Str) = some z) = decide (x = z) from by simp]
  rw [show PyData.eqv (.str x) (.str z) = (x == z) from by simp [PyData.eqv]]
  rw [Bool.eq_iff_iff, beq_iff_eq, decide_eq_true_eq]
theorem op_eqW (hu : X.A.units + 64 < cLine) : OpR X (compareOp .Eq) (rEqW X.K) := by
  intro pins s σ H x y v u Q I rx ry h
  obtain ⟨o, z, hw, rfl, hz, q⟩ := h
  rcases hw with ⟨x, rfl, cx, rfl⟩ | ⟨rfl, ⟨a, ks, rfl, ha⟩ | ⟨ds, hd, cd⟩⟩
  · refine op_eqDD hu pins s σ H _ _ v u Q I rx ry ⟨_, _, .str x, .str z, ⟨cx, by simp [PyData.depth]⟩, ⟨hz, by simp [PyData.depth]⟩, ?_⟩
    rw [eqv_str]
    exact q
  · cases (show v = Value.ref a from rx)
    obtain ⟨t, rfl⟩ := (show ∃ t, u = Value.str z t from ry)
    obtain ⟨_, ya, va, ra, da⟩ := (show ObjOk X.prog X.w H s.heap a (.dK ks) from I.hok a _ ha)
    obtain ⟨oo, es, ep, ho, ⟨hc, _, _⟩, hdt, _⟩ := da
    exact rc_dict_str z t ho hc hdt (by omega) ⟨.bl false, H, I, rfl, q⟩
  · refine op_eqDD hu pins s σ H _ _ v u Q I rx ry ⟨_, _, hd, .str z, cd, ⟨hz, by simp [PyData.depth]⟩, ?_⟩
    rw [show PyData.eqv (.list ds) (.str z) = false from by simp [PyData.eqv]]
    exact q
/-- X(), X an own exception class without own __init__ -/
theorem pmk_own0 {C : Addr} {bmB : List Value} {B newId initId : String} {x : Str} {p pos : Pos} (F : ExcBaseFacts B newId initId bmB) (q : PySem.W.excIn X.K C bmB newId = true) (gC : X.mg x = some (.ref C))
    (kC : PySem.W.keepIn X.K (.ref C) = true) (r : Raises X (.ref C)) (hg : Gl X x) (hdb : (x == ("__debug__" : Str)) = false := by decide) : PMk X (.Call (.Name x p) [] [] pos) (fun _ H Q => Q (.ref C) none H) := by
  intro pins s σ H Q I h
  refine wpAny_Call_Name_kw (ld_glob I hg gC ?_ hdb)
  refine PySem.W.callWith_K0 I.kIn kC ?_
  show wpAny _ _ (call (.ref C) []) _ _ _
  obtain ⟨bm, N, nm, qn, bs, hdct, sn, sub, ab, col, dd, k0, k1, k2, k3, k5, mN, hC, hN, hni, T⟩ := exc_obj I.kIn q
  exact wpAny_call_exc_subT F T hC hN hni (fun h' e hm => mk_of I hm r h (I.hok.gone hm.new)) (Nat.zero_le _)
end
/-! data without lists and dicts have no address of their own -/
mutual
def noL : PyData → Bool
  | .none => true
  | .bool _ => true
  | .int _ => true
  | .str _ => true
  | .list _ => false
  | .tuple xs => noLs xs
  | .dict _ => false
def noLs : List PyData → Bool
  | [] => true
  | x :: xs => noL x && noLs xs
end
mutual
theorem noL_no {h : Heap} : ∀ {d : PyData} {v : Value} {as : List Addr}, Reads h v d as → noL d = true → as = []
  | .none, _, _, .none, _ => rfl
  | .bool _, _, _, .bool _, _ => rfl
  | .int _, _, _, .int _ _, _ => rfl
  | .str _, _, _, .str _ _, _ => rfl
  | .list _, _, _, _, g => by cases g
  | .dict _, _, _, _, g => by cases g
  | .tuple xs, _, _, .tuple _ _ _ r, g => noLs_no r g
theorem noLs_no {h : Heap} : ∀ {ds : List PyData} {vs : List Value} {as : List Addr}, ReadsAll h vs ds as → noLs ds = true → as = []
  | [], _, _, .nil, _ => rfl
  | d :: ds, _, _, .cons r q, g => by
    have g : (noL d && noLs ds) = true := g
    rw [Bool.and_eq_true] at g
    rw [noL_no r g.1, noLs_no q g.2]
    rfl
end
section
variable {X : Cx} {pins : List (Addr × Obj)} {σ : L2.St} {H : Hp} {s : Shared}
abbrev bD (es : List (Str × PyData)) : PyData := .dict (es.map fun e => (.str e.1, e.2))
theorem ents_read (I : Inv X pins σ H s) : ∀ {es : List (Str × PyData)} {ks : List (Str × V)} {va : List (L2.Key × Value)} {el : List DictEntry}, Paired (fun p e => p.1 = e.1 ∧ Dp X.K H p.2 e.2) ks es → KV (ks.map fun p => ((.inr p.1 : L2.Key), p.2)) va → PySem.Pairs (mixKind X.prog X.w) el va → (es.all fun e => noL e.2) = true →
    ReadsAll s.heap (el.map (·.key)) (es.map fun e => .str e.1) [] ∧ ReadsAll s.heap (el.map (·.val)) (es.map fun e => e.2) []
  | _, _, _, _, .nil, r, q, _ => by
    cases r
    cases q
    exact ⟨.nil, .nil⟩
  | _, _, _, _, .cons (a := p) (b := e) h t, r, q, g => by
    cases r with
    | cons rh rt =>
      cases q with
      | cons q1 q2 q3 =>
        rw [List.all_cons, Bool.and_eq_true] at g
        obtain ⟨i1, i2⟩ := ents_read I t rt q3 g.2
        obtain ⟨e1, e2⟩ := rh
        obtain ⟨as, rd⟩ := Dp.reads I _ _ _ h.2 e2
        rw [← q2] at rd
        have z := noL_no rd g.1
        subst z
        rw [← e1] at q1
        have q1 : keyIs (.inr p.1) _ = true := q1
        rcases keyIs_shape q1 with ⟨i, tk, z1, z2⟩ | ⟨x, tk, z1, z2⟩
        · cases z1
        · have ex : x = e.1 := (Sum.inr.inj z1).symm.trans h.1
          subst ex
          refine ⟨.cons (as := []) (bs := []) ?_ i1, .cons (as := []) (bs := []) rd i2⟩
          have rk : Reads s.heap (Value.str e.1 tk) (.str e.1) [] := Reads.str _ _
          rw [← z2] at rk
          exact rk
/-- repr of a dict of data, its keys texts -/
def rReprB (K : PySem.W.Frag) : List V → Hp → VK → Prop := fun xs H Q => ∃ (a : Addr) (ks : List (Str × V)) (es : List (Str × PyData)), xs = [.ref a] ∧ H a = some (.dK (ks.map fun p => (.inr p.1, p.2))) ∧ Paired (fun p e => p.1 = e.1 ∧ Dp K H p.2 e.2) ks es ∧ (es.all fun e => noL e.2) = true ∧ (bD es).showable = true ∧ (bD es).depth ≤ 60 ∧
  (bD es).shown.length ≤ sizeLine ∧ Q (.str (bD es).shown) H
theorem call_reprB (hg : X.A.guards = some []) (hu : X.A.units + 64 < cLine) : CallR X (.builtin "repr") (rReprB X.K) := by
  intro pins s σ H xs us Q I r h
  obtain ⟨a, ks, es, rfl, ha, hp, hn, hs, hd, hz, q⟩ := h
  obtain rfl := Vals.ref1 r
  obtain ⟨_, ya, va, ra, da⟩ := (show ObjOk X.prog X.w H s.heap a (.dK _) from I.hok a _ ha)
  obtain ⟨oo, ents, ep, ho, ⟨hc, _, _⟩, hdt, hk, hpp, hnd⟩ := da
  obtain ⟨r1, r2⟩ := ents_read I hp ra hpp hn
  have rd : Reads s.heap (.ref a) (bD es) (a :: [] ++ []) := .dict ho hc hdt (by rw [List.map_map]; exact r1) (by rw [List.map_map]; exact r2)
  have nm : sysModules ∉ a :: ([] : List Addr) ++ [] := fun z => by
    have z : sysModules = a := by simpa using z
    rw [z] at ya
    simp at ya
  exact repr_of_reads' rd hs (fun _ => nm) hg (by omega) (fun _ _ e => e) (fun h' u2 tk k => ⟨.str _, H, I.kept (t' := tk) k, ⟨u2, rfl⟩, q⟩) hz
end
end GX

set_option Elab.async false
set_option linter.all false
set_option maxRecDepth 100000
set_option maxHeartbeats 4000000
/-! {k: v for .. in .. for .. in ..}: the loops -/
namespace GX
open PySem PySem.Spec PyProof.Rows L2
section
variable {prog : Program} {w : World} {A : Around} {R : Result → Shared → Prop} {s : Shared} {kx vx t0 i0 t1 i1 : Expr} {ifs0 ifs1 : List Expr} {scope : Scope} {pos : Pos} {it acc : Value} {D : Addr} {env : Env}
theorem compLoop2D_in (I : Nat → Shared → Prop)
    (h : ∀ (n : Nat) (s : Shared), I n s → wpAny (model prog w) A (pyNext it) (fun r s₁ => match r with
      | none => R (.ok .next) s₁
      | some v => wpAny (model prog w) A (letOwnedTupleGo t1 it v) (fun _ s₁' => wpAny (model prog w) A (assign t1 env v) (fun _ s₂ =>
          wpAny (model prog w) A (forIn ifs1 true fun c r => if r = true then do { let ok ← PySem.isTrue c env (eval c env); pure (ForInStep.yield ok) } else pure (ForInStep.yield r)) (fun ok s₃ =>
            if ok = true then wpAny (model prog w) A (eval kx env) (fun kv s₄ => wpAny (model prog w) A (eval vx env) (fun vv s₅ => wpAny (model prog w) A (dictSet D kv vv) (fun _ s₆ => ∃ m, m < n ∧ I m s₆)
                (notedBy (model prog w) A env fun e s' => R (.error e) s') s₅) (notedBy (model prog w) A env fun e s' => R (.error e) s') s₄) (notedBy (model prog w) A env fun e s' => R (.error e) s') s₃
            else ∃ m, m < n ∧ I m s₃) (notedBy (model prog w) A env fun e s' => R (.error e) s') s₂) (notedBy (model prog w) A env fun e s' => R (.error e) s') s₁') (notedBy (model prog w) A env fun e s' => R (.error e) s') s₁)
      (notedBy (model prog w) A env fun e s' => R (.error e) s') s) (n : Nat) (hI : I n s) :
    codeAny (model prog w) A (.compLoop (.DictComp kx vx [⟨t0, i0, ifs0, 0⟩, ⟨t1, i1, ifs1, 0⟩] scope pos) 1 it (.ref D) env) R s := by
  refine codeAny_loop rfl I (fun n s hI => ?_) n hI
  refine wpAny_noted ?_
  show wpAny (model prog w) A (standAt i1.pos >>= fun _ => pyNext it >>= _) _ _ _
  refine wpAny_bind (wpAny_standAt (wpAny_bind (wpAny_mono (h n s hI) (fun r s1 hr => ?_) fun _ _ h => h)))
  cases r with
  | none => exact wpAny_pure hr
  | some v =>
    refine wpAny_bind (wpAny_mono hr (fun _ s2 hr => ?_) fun _ _ h => h)
    refine wpAny_bind (wpAny_mono hr (fun _ s3 hr => ?_) fun _ _ h => h)
    refine wpAny_bind (wpAny_mono hr (fun ok s4 hr => ?_) fun _ _ h => h)
    cases ok with
    | true =>
      simp only [if_true] at hr ⊢
      refine wpAny_bind (wpAny_bind (wpAny_mono hr (fun kv s5 hr => ?_) fun _ _ h => h))
      refine wpAny_bind (wpAny_holding (wpAny_mono hr (fun vv s6 hr => ?_) fun _ _ h => h))
      refine wpAny_bind (wpAny_standAt (wpAny_holding (wpAny_mono hr (fun _ s7 hr => ?_) fun _ _ h => h)))
      exact wpAny_pure ⟨rfl, hr⟩
    | false =>
      simp only [Bool.false_eq_true, if_false] at hr ⊢
      exact wpAny_pure ⟨rfl, hr⟩
theorem compLoop2D_out (hf : ∀ x, foldedSetIterable i1 env x = pure x) (I : Nat → Shared → Prop)
    (h : ∀ (n : Nat) (s : Shared), I n s → wpAny (model prog w) A (pyNext it) (fun r s₁ => match r with
      | none => R (.ok .next) s₁
      | some v => wpAny (model prog w) A (letOwnedTupleGo t0 it v) (fun _ s₁' => wpAny (model prog w) A (assign t0 env v) (fun _ s₂ =>
          wpAny (model prog w) A (forIn ifs0 true fun c r => if r = true then do { let ok ← PySem.isTrue c env (eval c env); pure (ForInStep.yield ok) } else pure (ForInStep.yield r)) (fun ok s₃ =>
            if ok = true then wpAny (model prog w) A (eval i1 env) (fun x s₄ => wpAny (model prog w) A (pyIter x) (fun it1 s₅ =>
                codeAny (model prog w) A (.compStart (.DictComp kx vx [⟨t0, i0, ifs0, 0⟩, ⟨t1, i1, ifs1, 0⟩] scope pos) 1 it1 acc env) (fun r s' => match r with | .ok _ => ∃ m, m < n ∧ I m s' | .error _ => False) s₅)
                (notedBy (model prog w) A env fun e s' => R (.error e) s') s₄) (notedBy (model prog w) A env fun e s' => R (.error e) s') s₃
            else ∃ m, m < n ∧ I m s₃) (notedBy (model prog w) A env fun e s' => R (.error e) s') s₂) (notedBy (model prog w) A env fun e s' => R (.error e) s') s₁') (notedBy (model prog w) A env fun e s' => R (.error e) s') s₁)
      (notedBy (model prog w) A env fun e s' => R (.error e) s') s) (n : Nat) (hI : I n s) :
    codeAny (model prog w) A (.compLoop (.DictComp kx vx [⟨t0, i0, ifs0, 0⟩, ⟨t1, i1, ifs1, 0⟩] scope pos) 0 it acc env) R s := by
  refine codeAny_loop rfl I (fun n s hI => ?_) n hI
  refine wpAny_noted ?_
  show wpAny (model prog w) A (standAt i0.pos >>= fun _ => pyNext it >>= _) _ _ _
  refine wpAny_bind (wpAny_standAt (wpAny_bind (wpAny_mono (h n s hI) (fun r s1 hr => ?_) fun _ _ h => h)))
  cases r with
  | none => exact wpAny_pure hr
  | some v =>
    refine wpAny_bind (wpAny_mono hr (fun _ s2 hr => ?_) fun _ _ h => h)
    refine wpAny_bind (wpAny_mono hr (fun _ s3 hr => ?_) fun _ _ h => h)
    refine wpAny_bind (wpAny_mono hr (fun ok s4 hr => ?_) fun _ _ h => h)
    cases ok with
    | true =>
      simp only [if_true] at hr ⊢
      refine wpAny_bind (wpAny_mono hr (fun x s5 hr => ?_) fun _ _ h => h)
      refine wpAny_bind (wpAny_standAt ?_)
      show wpAny (model prog w) A (foldedSetIterable i1 env x >>= fun x => holding [x] (pyIter x) >>= fun it1 => runOwn (.compStart (.DictComp kx vx [⟨t0, i0, ifs0, 0⟩, ⟨t1, i1, ifs1, 0⟩] scope pos) 1 it1 acc env) env >>= _) _ _ _
      rw [hf x]
      refine wpAny_bind (wpAny_pure ?_)
      refine wpAny_bind (wpAny_holding (wpAny_mono hr (fun it1 s6 hr => ?_) fun _ _ h => h))
      refine wpAny_bind (wpAny_runOwn (h := none) ?_)
      rw [Around.mark_none]
      refine codeAny_mono hr fun r s7 hr => ?_
      cases r with
      | ok f => exact wpAny_pure ⟨rfl, hr⟩
      | error e => exact hr.elim
    | false =>
      simp only [Bool.false_eq_true, if_false] at hr ⊢
      exact wpAny_pure ⟨rfl, hr⟩
theorem compStart1D_ok (h : codeAny (model prog w) A (.compLoop (.DictComp kx vx [⟨t0, i0, ifs0, 0⟩, ⟨t1, i1, ifs1, 0⟩] scope pos) 1 it acc env) R s)
    (h2 : wpAny (model prog w) A (pyIter it) (fun it' s' => codeAny (model prog w) A (.compLoop (.DictComp kx vx [⟨t0, i0, ifs0, 0⟩, ⟨t1, i1, ifs1, 0⟩] scope pos) 1 it' acc env) R s') (notedBy (model prog w) A env fun x s' => R (.error x) s') s) :
    codeAny (model prog w) A (.compStart (.DictComp kx vx [⟨t0, i0, ifs0, 0⟩, ⟨t1, i1, ifs1, 0⟩] scope pos) 1 it acc env) R s := by
  refine codeAny_of_tree ?_
  refine wpAny_notedAt ?_
  show wpAny (model prog w) A (ask >>= fun x => _) _ _ _
  refine wpAny_bind (wpAny_askSetting ?_)
  refine wpAny_ite ?_
  split
  · exact wpAny_pure ⟨rfl, h⟩
  refine wpAny_bind (wpAny_rule ?_)
  refine wpAny_bind (wpAny_standAt ?_)
  refine wpAny_bind (wpAny_mono h2 (fun it' s' q => ?_) fun _ _ h => h)
  exact wpAny_pure ⟨rfl, q⟩
end
end GX

set_option Elab.async false
set_option linter.all false
set_option maxRecDepth 100000
set_option maxHeartbeats 4000000
/-! {k: v for .. in .. for .. in ..}, the keys new tuples -/
namespace GX
open PySem PySem.Spec PyProof.Rows L2
/-- the reading -/
def tDcT2 (wi : TI) (g : TG) (tt : TT) (wi1 : TI) (g1 : TG) (tt1 : TT) (tk tv : TE) (vs vs1 : List Nat) : TE := fun σ H Q => wi σ H fun J H1 => ∀ D, H1 D = none → ∃ W : Nat → Nat → Hp → Prop, (∃ m, W 0 m (upd H1 D (.dT []))) ∧ ∀ i m H, W i m H →
  (J.stop i H ∧ Q (.ref D) H) ∨ (J.go i H ∧ ∃ Nx : Hp → Prop, (∀ H', Nx H' → ∃ m', m' < m ∧ W (i + 1) m' H') ∧ ∀ x H', J.yld i H x H' → g x (wipe σ vs) H' fun σ2 H2 => wipe σ2 vs = wipe σ vs ∧ tt σ2 H2 fun b H3 =>
    if b = true then wi1 σ2 H3 fun J1 H4 => ∃ W1 : Nat → Nat → Hp → Prop, (∃ m, W1 0 m H4) ∧ ∀ j k H, W1 j k H →
      (J1.stop j H ∧ Nx H) ∨ (J1.go j H ∧ ∃ Nx1 : Hp → Prop, (∀ H', Nx1 H' → ∃ k', k' < k ∧ W1 (j + 1) k' H') ∧ ∀ x H', J1.yld j H x H' → g1 x (wipe σ2 vs1) H' fun σ3 H5 => wipe σ3 vs1 = wipe σ2 vs1 ∧ tt1 σ3 H5 fun b H6 =>
        if b = true then tk σ3 H6 fun y H7 => tv σ3 H7 fun z H8 => ∃ kvs k b, y = .ref b ∧ H8 b = some (.tup (k.map kV)) ∧ H8 D = some (.dT kvs) ∧ kvs.length < sizeLine ∧ Nx1 (upd H8 D (.dT (putK kvs k z))) else Nx1 H6)
    else Nx H3)
section
variable {X : Cx} {kx vx tg iter tg1 iter1 : Expr} {ifs ifs1 : List Expr} {scope : Scope} {own : List (Str × Nat)} {pos : Pos} {vs1 : List Nat} {wi wi1 : TI} {g g1 : TG} {tt tt1 : TT} {tk tv : TE}
theorem dcT2_core {pins : List (Addr × Obj)} {s : Shared} {σ : L2.St} {H : Hp} {Q : VK} {pos' : Pos} {use : Option (Value → Sem Unit)} {Qf : Value → Shared → Prop} (I : L2.Inv X pins σ H s) (h : tDcT2 wi g tt wi1 g1 tt1 tk tv (own.map (·.2)) vs1 σ H Q)
    (kf : ∀ (D C : Addr) (s' : Shared) (m : Str → Option Value) (H' : Hp), L2.Inv X pins σ H' s' → Q (.ref D) H' → s'.heap.Ns C m → FpOk X pins H' C → compPost (model X.prog X.w) X.A X.xe use Qf (.ref D) C (.ok .next) s')
    (hu : X.A.units < cLine) (hc : X.calm = true) (hN : X.N.Nodup) (hi : PI X tg iter wi) (ok : BlkOk X.N X.env.scope scope own) (hvs : ∀ i ∈ vs1, i ∈ own.map (·.2))
    (hg : ∀ s H C cl fp, PG (X.blk s H scope (compEnvC scope cl C X.env) fp) tg g) (ht : ∀ s H C cl fp, PTs (X.blk s H scope (compEnvC scope cl C X.env) fp) ifs tt)
    (hi1 : ∀ s H C cl fp, PI (X.blk s H scope (compEnvC scope cl C X.env) fp) tg1 iter1 wi1) (hg1 : ∀ s H C cl fp, PG (X.blk s H scope (compEnvC scope cl C X.env) fp) tg1 g1) (ht1 : ∀ s H C cl fp, PTs (X.blk s H scope (compEnvC scope cl C X.env) fp) ifs1 tt1)
    (hk : ∀ s H C cl fp, PE (X.blk s H scope (compEnvC scope cl C X.env) fp) kx tk) (he : ∀ s H C cl fp, PE (X.blk s H scope (compEnvC scope cl C X.env) fp) vx tv) (hs : ∀ x, foldedSetIterable iter X.env x = pure x ) (hs1 : ∀ env x, foldedSetIterable iter1 env x = pure x ) :
    wpAny (model X.prog X.w) X.A (comprehension (.DictComp kx vx [⟨tg, iter, ifs, 0⟩, ⟨tg1, iter1, ifs1, 0⟩] scope pos) scope X.env pos' newDict false (eval iter X.env) use) Qf X.xe s := by
  have cellsOf : ∀ y ∈ scope.names, y.2 = .free → ∃ c, X.env.cells.lookup y.1 = some c := fun y hy e => (ok.free y hy e).elim (fun k => I.ok.has _ (.inl k)) fun k => I.ok.has _ (.inr k)
  refine wpAny_comprehension_free (use := use) rfl hs (closure_ok cellsOf) ok.kind (fun y hy e => (ok.uniq y hy).trans (congrArg some e)) (thn (hi.run pins s σ H _ I h) fun xv s1 hx => thn hx fun itv s2 z2 => ?_)
  obtain ⟨it, fp, tn, J, H2, rfl, I2, T, at2, free2, spec⟩ := z2
  refine wpAny_newObj_type (newEnv_comp ?_)
  generalize eD : s2.heap.objs.size = D
  have freshD : H2 D = none := I2.hok.fresh (Nat.le_of_eq eD)
  obtain ⟨W, ⟨m0, w0⟩, turn⟩ := spec D freshD
  generalize es3 : ({ s2 with heap := s2.heap.push { cls := .type "dict", data := .dict #[] } } : Shared) = s3
  have hp3 : s3.heap = s2.heap.push { cls := .type "dict", data := .dict #[] } := by rw [← es3]
  have keep3 : ∀ b o, s2.heap.get? b = some o → s3.heap.get? b = some o := fun b o e => by
    rw [hp3]
    exact Heap.get?_push_of_some _ e
  generalize eH3 : upd H2 D (.dT []) = H3 at w0
  have I3 : L2.Inv X pins σ H3 s3 := by
    rw [← eH3, ← es3]
    refine I2.laid (t' := s2.toks) (fun b o e => Heap.get?_push_of_some _ e) (Nat.le_of_eq eD) ?_
    rw [← eD]
    exact dt_empty s2.heap I2.big
  have low : ∀ b ∈ fp, b < s2.heap.objs.size := fun b hb => let ⟨_, e, _⟩ := T.obj _ _ at2 b hb; Heap.lt_size e
  have free3 : ∀ b ∈ fp, FpOk X pins H3 b ∧ b < s3.heap.objs.size := fun b hb => by
    refine ⟨⟨?_, (free2 b hb).2⟩, ?_⟩
    · rw [← eH3, upd_ne (fun z => Nat.lt_irrefl _ (Nat.lt_of_lt_of_le (low b hb) (Nat.le_of_eq (eD.trans z.symm))))]
      exact (free2 b hb).1
    · rw [hp3, Heap.size_push]
      exact Nat.lt_succ_of_lt (low b hb)
  have at3 : tn 0 s3.heap := T.keep _ _ _ at2 fun b _ o e => keep3 b o e
  have I4 := block_start I3 ok hN free3
  show codeAny (model X.prog X.w) X.A (.compStart (.DictComp kx vx [⟨tg, iter, ifs, 0⟩, ⟨tg1, iter1, ifs1, 0⟩] scope pos) 0 (.ref it) (.ref D) (compEnvC scope (cellsFrom (s3.heap.objs.size + 1) scope.names (cloFrom X.env.cells scope.names [])) s3.heap.objs.size X.env)) (compPost (model X.prog X.w) X.A X.xe use Qf (.ref D) s3.heap.objs.size)
    { s3 with heap := pushCells (s3.heap.push { cls := .type "dict", data := .dict #[] }) scope.names }
  generalize eC : s3.heap.objs.size = C at I4 ⊢
  generalize ecl : cellsFrom (C + 1) scope.names (cloFrom X.env.cells scope.names []) = cl at I4 ⊢
  have gg := hg s3 H3 C cl fp
  have gt := ht s3 H3 C cl fp
  have gi1 := hi1 s3 H3 C cl fp
  have gg1 := hg1 s3 H3 C cl fp
  have gt1 := ht1 s3 H3 C cl fp
  have gk := hk s3 H3 C cl fp
  have ge := he s3 H3 C cl fp
  generalize ece : compEnvC scope cl C X.env = ce at I4 gg gt gi1 gg1 gt1 gk ge ⊢
  have loc : ce.locals = C := by rw [← ece]; rfl
  generalize es4 : ({ s3 with heap := pushCells (s3.heap.push { cls := .type "dict", data := .dict #[] }) scope.names } : Shared) = s4 at I4 ⊢
  have at4 : tn 0 s4.heap := T.keep _ _ _ at3 fun b _ o e => by
    rw [← es4]
    exact pushCells_keeps _ _ _ _ (Heap.get?_push_of_some _ e)
  generalize eY : X.blk s3 H3 scope ce fp = Y at I4 gg gt gi1 gg1 gt1 gk ge
  have apart : ∀ {σ' : L2.St} {H' : Hp} {s' : Shared}, L2.Inv Y [] σ' H' s' → (∀ b ∈ fp, H' b = none) → ∀ b ∈ fp, FpOk Y [] H' b := by
    subst eY
    exact fun I' nn b hb => ⟨nn b hb, (I'.ok.exf b hb).1, I'.ok.exfs b hb, .inl hb, fun x c e => (I'.ok.exf b hb).2 x c e, fun p hp => absurd hp (by simp)⟩
  have back : ∀ {σ' : L2.St} {H' : Hp} {s' : Shared}, L2.Inv Y [] σ' H' s' → L2.Inv X pins σ H' s' := by
    subst eY
    exact fun I' => I3.call' (ch := fp) I'.os I'.base I'.hok I'.bare fun b hb => ⟨(free3 b hb).1.2.2.2.1, (free3 b hb).1.2.1, (free3 b hb).1.2.2.2.2.1, (free3 b hb).1.2.2.2.2.2⟩
  have yp : Y.prog = X.prog ∧ Y.w = X.w ∧ Y.K = X.K ∧ Y.calm = true ∧ Y.A = X.A ∧ Y.env = ce := by
    subst eY
    exact ⟨rfl, rfl, rfl, hc, rfl, rfl⟩
  have yx : Y.xe = fun _ _ => False := by
    subst eY
    rfl
  obtain ⟨y1, y2, y3, y4, y5, y6⟩ := yp
  have loop : codeAny (model X.prog X.w) X.A (.compLoop (.DictComp kx vx [⟨tg, iter, ifs, 0⟩, ⟨tg1, iter1, ifs1, 0⟩] scope pos) 0 (.ref it) (.ref D) ce) (compPost (model X.prog X.w) X.A X.xe use Qf (.ref D) C) s4 := by
    refine compLoop2D_out (hs1 ce) (fun n s' => ∃ i H', L2.Inv Y [] (wipe σ (own.map (·.2))) H' s' ∧ tn i s'.heap ∧ (∀ b ∈ fp, H' b = none) ∧ W i n H') (fun n s5 hI5 => ?_) m0 ⟨0, H3, I4, at4, fun b hb => (free3 b hb).1.1, w0⟩
    obtain ⟨i, H5, I5, at5, nn5, w5⟩ := hI5
    rcases turn i n H5 w5 with ⟨stop, fin⟩ | ⟨go, Nx, less, step⟩
    · have z := T.done Y y1 y2 y3 y4 i [] s5 _ H5 (fun _ _ => False) I5 (apart I5 nn5) at5 stop
      rw [y5] at z
      refine thnF z fun r s6 ⟨er, I6⟩ => ?_
      subst er
      have noC : H5 C = none := by
        have q := I6.free
        rw [y6, loc] at q
        exact q
      obtain ⟨m, hn, _⟩ := I6.loc
      rw [y6, loc] at hn
      have IX := back I6
      exact kf D C s6 m H5 IX fin hn (I3.fpOk (b := C) (H' := H5) (Nat.le_of_eq eC) noC)
    · have z := T.item Y y1 y2 y3 y4 i [] s5 _ H5 (fun _ _ => False) I5 (apart I5 nn5) at5 go
      rw [y5] at z
      refine thnF z fun r s6 ⟨u, er, h6⟩ => ?_
      subst er
      refine thnF h6 fun _ s7 ⟨x, H7, I7, r7, yl, at7, nn7⟩ => ?_
      have P7 := I7.pinned (apart I7 nn7) (T.obj _ _ at7)
      have zg := gg.run _ s7 _ H7 x u _ P7 r7 (step x H7 yl)
      rw [y1, y2, y5, y6, yx] at zg
      refine thnF zg fun _ s8 ⟨σ8, H8, I8, hw8, q8⟩ => ?_
      have zt := gt.run _ s8 σ8 H8 _ I8 q8
      rw [y1, y2, y5, y6, yx] at zt
      refine thnF zt fun b s9 ⟨H9, I9, q9⟩ => ?_
      have fin : ∀ {s' : Shared} {H' : Hp} {σ' : L2.St} (q : List (Addr × Obj)), (σ' = σ8 ∨ σ' = wipe σ8 vs1) → L2.Inv Y ([] ++ pinsAt fp s7.heap ++ q) σ' H' s' → Nx H' → ∃ m, m < n ∧ ∃ i H', L2.Inv Y [] (wipe σ (own.map (·.2))) H' s' ∧ tn i s'.heap ∧ (∀ b ∈ fp, H' b = none) ∧ W i m H' := fun {s' H' σ'} qs hσ I' nx => by
        obtain ⟨m', lt, w'⟩ := less H' nx
        have I'' := I'.unpinned (pins := [] ++ pinsAt fp s7.heap)
        have stay : ∀ b ∈ fp, ∀ o, s7.heap.get? b = some o → s'.heap.get? b = some o ∧ H' b = none := fun b hb o e => by
          have z := I''.pin (b, o) (List.mem_append_right _ (List.mem_append_right _ (mem_pinsAt hb e)))
          exact ⟨z.1, z.2.1⟩
        have len8 : (wipe σ (own.map (·.2))).length = σ'.length := by
          have l8 : (wipe σ (own.map (·.2))).length = σ8.length := (congrArg List.length hw8).symm.trans (wipe_length ..)
          rcases hσ with rfl | rfl
          · exact l8
          · exact l8.trans (wipe_length ..).symm
        refine ⟨m', lt, i + 1, H', (I''.unpinned (pins := [])).weak len8 (fun j v e => ?_), T.keep _ _ _ at7 fun b hb o e => (stay b hb o e).1, fun b hb => ?_, w'⟩
        · obtain ⟨e1, e2⟩ := wipe_some (hw8 ▸ e)
          rcases hσ with rfl | rfl
          · exact e1
          · rw [wipe_out (fun z => e2 (hvs j z))]
            exact e1
        · obtain ⟨o, e, _⟩ := T.obj _ _ at7 b hb
          exact (stay b hb o e).2
      cases b with
      | true =>
        simp only [if_true] at q9 ⊢
        have zi := gi1.run _ s9 σ8 H9 _ I9 q9
        rw [y1, y2, y5, y6, yx] at zi
        refine thnF zi fun xv1 s10 hx1 => thnF hx1 fun itv1 s11 z11 => ?_
        obtain ⟨it1, fp1, tn1, J1, H11, rfl, I11, T1, at11, free11, W1, ⟨k0, w0'⟩, turn1⟩ := z11
        generalize hP : ([] ++ pinsAt fp s7.heap : List (Addr × Obj)) = pins7 at I11 free11 fin
        have I11' : L2.Inv Y pins7 (wipe σ8 vs1) H11 s11 := I11.weak (wipe_length ..) fun j v e => (wipe_some e).1
        have apart1 : ∀ {H' : Hp}, (∀ b ∈ fp1, H' b = none) → ∀ b ∈ fp1, FpOk Y pins7 H' b := fun nn b hb => ⟨nn b hb, (free11 b hb).2⟩
        rw [y1, y2, y3] at T1
        have loop1 : codeAny (model X.prog X.w) X.A (.compLoop (.DictComp kx vx [⟨tg, iter, ifs, 0⟩, ⟨tg1, iter1, ifs1, 0⟩] scope pos) 1 (.ref it1) (.ref D) ce) (fun r s' => match r with | .ok _ => ∃ m, m < n ∧ ∃ i H', L2.Inv Y [] (wipe σ (own.map (·.2))) H' s' ∧ tn i s'.heap ∧ (∀ b ∈ fp, H' b = none) ∧ W i m H' | .error _ => False) s11 := by
          refine compLoop2D_in (fun k s' => ∃ j H', L2.Inv Y pins7 (wipe σ8 vs1) H' s' ∧ tn1 j s'.heap ∧ (∀ b ∈ fp1, H' b = none) ∧ W1 j k H') (fun k s12 hI12 => ?_) k0 ⟨0, H11, I11', at11, fun b hb => (free11 b hb).1, w0'⟩
          obtain ⟨j, H12, I12, at12, nn12, w12⟩ := hI12
          rcases turn1 j k H12 w12 with ⟨stop1, nx⟩ | ⟨go1, Nx1, less1, step1⟩
          · have z := T1.done Y y1 y2 y3 y4 j pins7 s12 _ H12 (fun _ _ => False) I12 (apart1 nn12) at12 stop1
            rw [y5] at z
            refine thnF z fun r s13 ⟨er, I13⟩ => ?_
            subst er
            exact fin [] (.inr rfl) (by rw [List.append_nil]; exact I13) nx
          · have z := T1.item Y y1 y2 y3 y4 j pins7 s12 _ H12 (fun _ _ => False) I12 (apart1 nn12) at12 go1
            rw [y5] at z
            refine thnF z fun r s13 ⟨u, er, h13⟩ => ?_
            subst er
            refine thnF h13 fun _ s14 ⟨x1, H14, I14, r14, yl1, at14, nn14⟩ => ?_
            have P14 := I14.pinned (apart1 nn14) (T1.obj _ _ at14)
            have zg := gg1.run _ s14 _ H14 x1 u _ P14 r14 (step1 x1 H14 yl1)
            rw [y1, y2, y5, y6, yx] at zg
            refine thnF zg fun _ s15 ⟨σ15, H15, I15, hw15, q15⟩ => ?_
            have zt := gt1.run _ s15 σ15 H15 _ I15 q15
            rw [y1, y2, y5, y6, yx] at zt
            refine thnF zt fun b s16 ⟨H16, I16, q16⟩ => ?_
            have fin1 : ∀ {s' : Shared} {H' : Hp}, L2.Inv Y (pins7 ++ pinsAt fp1 s14.heap) σ15 H' s' → Nx1 H' → ∃ m, m < k ∧ ∃ j H', L2.Inv Y pins7 (wipe σ8 vs1) H' s' ∧ tn1 j s'.heap ∧ (∀ b ∈ fp1, H' b = none) ∧ W1 j m H' := fun {s' H'} I' nx => by
              obtain ⟨k', lt, w'⟩ := less1 H' nx
              have stay : ∀ b ∈ fp1, ∀ o, s14.heap.get? b = some o → s'.heap.get? b = some o ∧ H' b = none := fun b hb o e => by
                have z := I'.pin (b, o) (List.mem_append_right _ (List.mem_append_right _ (mem_pinsAt hb e)))
                exact ⟨z.1, z.2.1⟩
              have len15 : (wipe σ8 vs1).length = σ15.length := (congrArg List.length hw15).symm.trans (wipe_length ..)
              refine ⟨k', lt, j + 1, H', (I'.unpinned (pins := pins7)).weak len15 (fun i v e => ?_), T1.keep _ _ _ at14 fun b hb o e => (stay b hb o e).1, fun b hb => ?_, w'⟩
              · exact (wipe_some (hw15 ▸ e)).1
              · obtain ⟨o, e, _⟩ := T1.obj _ _ at14 b hb
                exact (stay b hb o e).2
            cases b with
            | true =>
              simp only [if_true] at q16 ⊢
              have zk := gk.run _ s16 σ15 H16 _ I16 q16
              rw [y1, y2, y5, y6, yx] at zk
              refine thnF zk fun u1 s17 ⟨yk, H17, I17, r17, q17⟩ => ?_
              have ze := ge.run _ s17 σ15 H17 _ I17 q17
              rw [y1, y2, y5, y6, yx] at ze
              refine thnF ze fun u2 s18 ⟨yv, H18, I18, r18, kvs, kk, kb, ek, hkb, hD18, hz18, nx⟩ => ?_
              subst ek
              cases r17
              have zd := dictSet_t (X := Y) (E := fun _ _ => False) (Q := fun _ s' => ∃ m, m < k ∧ ∃ j H', L2.Inv Y pins7 (wipe σ8 vs1) H' s' ∧ tn1 j s'.heap ∧ (∀ b ∈ fp1, H' b = none) ∧ W1 j m H') (by rw [y5]; exact hu) I18 hD18 hkb hz18 r18 fun s19 I19 => fin1 I19 nx
              rw [y1, y2, y5] at zd
              exact thnF zd fun _ _ q => q
            | false =>
              simp only [Bool.false_eq_true, if_false] at q16 ⊢
              exact fin1 I16 q16
        exact compStart1D_ok loop1 (T1.self X.A 0 _ _ _ at11 loop1)
      | false =>
        simp only [Bool.false_eq_true, if_false] at q9 ⊢
        exact fin [] (.inl rfl) (by rw [List.append_nil]; exact I9) q9
  exact codeAny_compStart_dict loop (T.self X.A 0 _ _ _ at4 loop)
theorem pe_dcT2 (hu : X.A.units < cLine) (hc : X.calm = true) (hN : X.N.Nodup) (hi : PI X tg iter wi) (ok : BlkOk X.N X.env.scope scope own) (hvs : ∀ i ∈ vs1, i ∈ own.map (·.2))
    (hg : ∀ s H C cl fp, PG (X.blk s H scope (compEnvC scope cl C X.env) fp) tg g) (ht : ∀ s H C cl fp, PTs (X.blk s H scope (compEnvC scope cl C X.env) fp) ifs tt)
    (hi1 : ∀ s H C cl fp, PI (X.blk s H scope (compEnvC scope cl C X.env) fp) tg1 iter1 wi1) (hg1 : ∀ s H C cl fp, PG (X.blk s H scope (compEnvC scope cl C X.env) fp) tg1 g1) (ht1 : ∀ s H C cl fp, PTs (X.blk s H scope (compEnvC scope cl C X.env) fp) ifs1 tt1)
    (hk : ∀ s H C cl fp, PE (X.blk s H scope (compEnvC scope cl C X.env) fp) kx tk) (he : ∀ s H C cl fp, PE (X.blk s H scope (compEnvC scope cl C X.env) fp) vx tv) (hs : ∀ x, foldedSetIterable iter X.env x = pure x := by intro _; rfl) (hs1 : ∀ env x, foldedSetIterable iter1 env x = pure x := by intro _ _; rfl) :
    PE X (.DictComp kx vx [⟨tg, iter, ifs, 0⟩, ⟨tg1, iter1, ifs1, 0⟩] scope pos) (tDcT2 wi g tt wi1 g1 tt1 tk tv (own.map (·.2)) vs1) := by
  refine ⟨fun pins s σ H Q I h => ?_⟩
  rw [arm_eval_DictComp]
  exact dcT2_core (use := none) (Qf := EP X pins σ Q) I h (fun D C s' m H' I' q hn f => ⟨m, hn, fun h'' sb => by
    obtain ⟨f0, f1, f2, f3, f4, f5⟩ := f
    exact ⟨.ref D, H', I'.turned (t' := s'.toks) (fun b o hb e => (sb.2 b hb).trans e) f0 f1 f3 f4 f5, rfl, q⟩⟩) hu hc hN hi ok hvs hg ht hi1 hg1 ht1 hk he hs hs1
theorem ps_setDcT2 {i : Nat} {y : Str} {py spos : Pos} (hy : X.N[i]? = some y) (loc : X.env.scope.names.lookup y = some .local) (sw : swapsWith (.DictComp kx vx [⟨tg, iter, ifs, 0⟩, ⟨tg1, iter1, ifs1, 0⟩] scope pos) (some (.Name y py)) spos.line X.env = pure true)
    (hu : X.A.units < cLine) (hc : X.calm = true) (hN : X.N.Nodup) (hi : PI X tg iter wi) (ok : BlkOk X.N X.env.scope scope own) (hvs : ∀ i ∈ vs1, i ∈ own.map (·.2))
    (hg : ∀ s H C cl fp, PG (X.blk s H scope (compEnvC scope cl C X.env) fp) tg g) (ht : ∀ s H C cl fp, PTs (X.blk s H scope (compEnvC scope cl C X.env) fp) ifs tt)
    (hi1 : ∀ s H C cl fp, PI (X.blk s H scope (compEnvC scope cl C X.env) fp) tg1 iter1 wi1) (hg1 : ∀ s H C cl fp, PG (X.blk s H scope (compEnvC scope cl C X.env) fp) tg1 g1) (ht1 : ∀ s H C cl fp, PTs (X.blk s H scope (compEnvC scope cl C X.env) fp) ifs1 tt1)
    (hk : ∀ s H C cl fp, PE (X.blk s H scope (compEnvC scope cl C X.env) fp) kx tk) (he : ∀ s H C cl fp, PE (X.blk s H scope (compEnvC scope cl C X.env) fp) vx tv) (hs : ∀ x, foldedSetIterable iter X.env x = pure x := by intro _; rfl) (hs1 : ∀ env x, foldedSetIterable iter1 env x = pure x := by intro _ _; rfl) :
    PS X (.Assign [.Name y py] (.DictComp kx vx [⟨tg, iter, ifs, 0⟩, ⟨tg1, iter1, ifs1, 0⟩] scope pos) spos) (tAsg (tDcT2 wi g tt wi1 g1 tt1 tk tv (own.map (·.2)) vs1) (gName i)) := by
  refine ⟨fun pins s σ H D I h => ?_⟩
  rw [exec_Assign_Name_used _ _ _ _ sw]
  have reading : tDcT2 wi g tt wi1 g1 tt1 tk tv (own.map (·.2)) vs1 σ H (fun x H1 => gName i x σ H1 D.nx) := h
  refine wpAny_bind (wpAny_standAt (wpAny_bind ?_))
  show wpAny _ X.A (comprehension (.DictComp kx vx [⟨tg, iter, ifs, 0⟩, ⟨tg1, iter1, ifs1, 0⟩] scope pos) scope X.env (firstIterPos [⟨tg, iter, ifs, 0⟩, ⟨tg1, iter1, ifs1, 0⟩] pos) newDict false (eval iter X.env) (some (assign (.Name y py) X.env)) >>= _) _ _ s
  refine wpAny_bind (thn (dcT2_core (Qf := fun _ s' => SP X pins D .next s') I reading (fun L C s' m H' I' q hn f => ?_) hu hc hN hi ok hvs hg ht hi1 hg1 ht1 hk he hs hs1) fun _ s' hq => wpAny_pure (wpAny_pure hq))
  show wpAny _ _ (assign (.Name y py) X.env (.ref L)) _ _ _
  obtain ⟨f0, f1, f2, f3, f4, f5⟩ := f
  refine wpAny_assign_Name (store_ok2 (v := V.ref L) I' hN hy (.inl loc) rfl (fun s2 I2 ⟨a, sb, ha⟩ => ?_) (.inr loc))
  have apart : C ≠ a := ha.elim (fun z => z ▸ f1) fun z e => f4 y a z e.symm
  exact ⟨m, hn.sameBut sb apart, fun h3 sb3 => ⟨_, H', I2.turned (t' := s2.toks) (fun b o hb e => (sb3.2 b hb).trans e) f0 f1 f3 f4 f5, q⟩⟩
end
end GX

set_option Elab.async false
set_option linter.all false
set_option maxRecDepth 100000
set_option maxHeartbeats 4000000
/-! enumerate of a tuple, the pair handed out kept (one name as target) -/
namespace GX
open PySem PySem.Spec PyProof.Rows L2
/-- an enumerate, whatever it knows of the pair that it gave out -/
abbrev EnumO (h : Heap) (e it : Addr) (c : Int) (old v : Value) (f : Bool) : Prop := h.get? e = some { cls := .type "enumerate", dict := none, data := .fields #[v, .bool f, .ref it, rawInt c, .none, old], slots := #[] }
section
variable {prog : Program} {w : World} {A : Around} {E : Value → Shared → Prop} {s : Shared} {e it : Addr} {fp : List Addr} {n i : Nat} {P : Nat → Value → Prop} {St : Nat → Heap → Prop} {c : Int} {old v : Value} {f : Bool}
theorem isFree_enum {Q : Bool → Shared → Prop} (hz : EnumO s.heap e it c old v f) (hv : Out v) (h1 : Q true s) (h2 : ∀ h', EnumO h' e it c old v true → Heap.SameBut e s.heap h' → Q false { s with heap := h' }) : wpAny (model prog w) A (Builtin.SmallTypes.ownedTupleIsFree (.ref e)) Q E s := by
  unfold Builtin.SmallTypes.ownedTupleIsFree
  refine wpAny_bind (wpAny_field hz rfl (x := v) rfl ?_)
  rcases hv with rfl | ⟨T, rfl⟩
  · exact wpAny_pure h1
  · show wpAny _ _ (loadIfAlive ((T : Int).toNat) >>= _) _ _ _
    refine wpAny_bind (aliveAny ?_)
    cases s.heap.get? ((T : Int).toNat) with
    | none =>
      rw [if_pos (show (none : Option Obj).isNone = true from rfl)]
      exact wpAny_pure h1
    | some o =>
      rw [if_neg (show ¬ ((some o).isNone = true) from Bool.false_ne_true)]
      refine wpAny_bind (wpAny_field hz rfl (x := .bool f) rfl ?_)
      cases f with
      | true =>
        rw [if_neg (show ¬ ((Value.bool true != Value.bool true) = true) from Bool.false_ne_true)]
        exact wpAny_pure (h2 _ hz (.refl _ _))
      | false =>
        rw [if_pos (show (Value.bool false != Value.bool true) = true from rfl)]
        exact wpAny_bind (wpAny_setField_rec hz (by simp) fun g hg sg => wpAny_pure (h2 g hg sg))
theorem enumNext_item {Q : Value → Shared → Prop} (D : Draws prog w A it fp n P St) (hz : EnumO s.heap e it ((i : Nat) : Int) old v f) (hv : Out v) (q : St i s.heap) (l : i < n) (hne : e ≠ it) (hfe : e ∉ fp)
    (hQ : ∀ (x : Value) (g : Heap) (tk tk' : Nat) (v' old' : Value) (f' : Bool), P i x → Out v' → EnumO g e it ((i : Nat) + 1 : Int) old' v' f' → St (i + 1) g → g.get? s.heap.objs.size = some { cls := .type "tuple", data := .seq #[.int ((i : Nat) : Int) tk', x] } → (∀ b o, b ≠ e → b ≠ it → s.heap.get? b = some o → g.get? b = some o) → Q (.ref s.heap.objs.size) { s with heap := g, toks := tk }) :
    wpAny (model prog w) A (Builtin.«enumerate.__next__» ⟨[.ref e], []⟩) (fun r t => ∃ u, r = .done (.ret u) ∧ Q u t) E s := by
  obtain ⟨h0, gs, ds, k0, os⟩ := s
  have elt : e < h0.objs.size := Heap.lt_size hz
  show wpAny _ _ (field (.ref e) 2 >>= fun _ => _) _ _ _
  refine wpAny_bind (wpAny_field hz rfl (x := .ref it) rfl ?_)
  refine wpAny_bind (D.item i _ _ _ l q fun x p1 k1 px w1 b1 => ?_)
  have c1 : Heap.SameBut it h0 p1 := b1
  have z1 : EnumO p1 e it ((i : Nat) : Int) old v f := c1.extBut _ _ hne hz
  refine wpAny_bind (wpAny_field (s := ⟨p1, gs, ds, k1, os⟩) z1 rfl (x := rawInt ((i : Nat) : Int)) rfl ?_)
  show wpAny _ _ (field (.ref e) 4 >>= fun _ => _) _ _ _
  refine wpAny_bind (wpAny_field (s := ⟨p1, gs, ds, k1, os⟩) z1 rfl (x := .none) rfl ?_)
  rw [if_pos (show ((Value.none == Value.none) = true) from rfl)]
  refine wpAny_bind (wpAny_mkInt ?_)
  show wpAny _ _ (setField (.ref e) 3 (rawInt (((i : Nat) : Int) + 1)) >>= fun _ => _) _ _ _
  refine wpAny_bind (wpAny_setField_rec z1 (by simp) fun p2 g2 b2 => ?_)
  have z2 : EnumO p2 e it (((i : Nat) : Int) + 1) old v f := g2
  refine wpAny_bind (wpAny_setField_rec (s := ⟨p2, gs, ds, k1 + 1, os⟩) z2 (by simp) fun p3 g3 b3 => ?_)
  have z3 : EnumO p3 e it (((i : Nat) : Int) + 1) old v f := g3
  have c2 : Heap.SameBut e p1 p2 := b2
  have c3 : Heap.SameBut e p2 p3 := b3
  refine wpAny_bind (wpAny_newTuple ?_)
  have size3 : p3.objs.size = h0.objs.size := by rw [c3.1, c2.1, c1.1]
  show wpAny _ _ (Builtin.SmallTypes.ownedTupleIsFree (.ref e) >>= fun _ => _) _ _ ⟨p3.push { cls := .type "tuple", data := .seq #[.int ((i : Nat) : Int) k1, x] }, gs, ds, k1 + 1, os⟩
  have z4 : EnumO (p3.push { cls := .type "tuple", data := .seq #[.int ((i : Nat) : Int) k1, x] }) e it (((i : Nat) : Int) + 1) old v f := Heap.get?_push_of_some _ z3
  have tn4 : (p3.push { cls := .type "tuple", data := .seq #[.int ((i : Nat) : Int) k1, x] }).get? h0.objs.size = some { cls := .type "tuple", data := .seq #[.int ((i : Nat) : Int) k1, x] } := by
    rw [← size3]
    exact Heap.get?_push_size _ rfl
  have k4 : ∀ b o, b ≠ e → b ≠ it → h0.get? b = some o → (p3.push { cls := .type "tuple", data := .seq #[.int ((i : Nat) : Int) k1, x] }).get? b = some o := fun b o n1 n2 eb => Heap.get?_push_of_some _ (c3.extBut _ _ n1 (c2.extBut _ _ n1 (c1.extBut _ _ n2 eb)))
  have w4 : St (i + 1) (p3.push { cls := .type "tuple", data := .seq #[.int ((i : Nat) : Int) k1, x] }) := D.frame _ _ _ w1 fun b hb o eb => Heap.get?_push_of_some _ (c3.extBut _ _ (fun z => hfe (z ▸ hb)) (c2.extBut _ _ (fun z => hfe (z ▸ hb)) eb))
  rw [show p3.objs.size = h0.objs.size from size3]
  generalize p3.push { cls := .type "tuple", data := .seq #[.int ((i : Nat) : Int) k1, x] } = p4 at z4 tn4 k4 w4 ⊢
  have ne0 : h0.objs.size ≠ e := Nat.ne_of_gt elt
  refine wpAny_bind (isFree_enum z4 hv ?_ fun p5 z5 b5 => ?_)
  · rw [if_pos rfl]
    refine wpAny_bind (wpAny_rule (wpAny_bind (wpAny_field z4 rfl (x := old) rfl (wpAny_bind (wpAny_setField_rec (s := ⟨p4, gs, ds, k1 + 1, os⟩) z4 (by simp) fun p5 g5 b5 => ?_)))))
    have z5 : EnumO p5 e it (((i : Nat) : Int) + 1) x v f := g5
    have c5 : Heap.SameBut e p4 p5 := b5
    refine wpAny_bind ?_
    unfold Builtin.SmallTypes.ownedTupleHandOut
    refine wpAny_bind (wpAny_setField_rec (s := ⟨p5, gs, ds, k1 + 1, os⟩) z5 (by simp) fun p6 g6 b6 => ?_)
    have z6 : EnumO p6 e it (((i : Nat) : Int) + 1) x (rawInt h0.objs.size) f := g6
    have c6 : Heap.SameBut e p5 p6 := b6
    refine wpAny_setField_rec (s := ⟨p6, gs, ds, k1 + 1, os⟩) z6 (by simp) fun p7 g7 b7 => ?_
    have z7 : EnumO p7 e it (((i : Nat) : Int) + 1) x (rawInt h0.objs.size) false := g7
    have c7 : Heap.SameBut e p6 p7 := b7
    refine wpAny_bind (wpAny_letGo (wpAny_pure ⟨_, rfl, ?_⟩))
    have up : ∀ b o, b ≠ e → p4.get? b = some o → p7.get? b = some o := fun b o n eb => c7.extBut _ _ n (c6.extBut _ _ n (c5.extBut _ _ n eb))
    exact hQ x p7 (k1 + 1) k1 _ x false px (.inr ⟨_, rfl⟩) z7 (D.frame _ _ _ w4 fun b hb o eb => up b o (fun z => hfe (z ▸ hb)) eb) (up _ _ ne0 tn4) fun b o n1 n2 eb => up b o n1 (k4 b o n1 n2 eb)
  · rw [if_neg Bool.false_ne_true]
    have c5 : Heap.SameBut e p4 p5 := b5
    refine wpAny_pure ⟨_, rfl, ?_⟩
    have up : ∀ b o, b ≠ e → p4.get? b = some o → p5.get? b = some o := fun b o n eb => c5.extBut _ _ n eb
    exact hQ x p5 (k1 + 1) k1 v old true px hv z5 (D.frame _ _ _ w4 fun b hb o eb => up b o (fun z => hfe (z ▸ hb)) eb) (up _ _ ne0 tn4) fun b o n1 n2 eb => up b o n1 (k4 b o n1 n2 eb)
theorem enumIter_any {Q : Value → Shared → Prop} (hz : EnumO s.heap e it c old v f) (h : Q (.ref e) s) : wpAny (model prog w) A (pyIter (.ref e)) Q E s := by
  have ty : s.TypeIs (.ref e) "enumerate" := ⟨_, hz, rfl⟩
  refine wpAny_pyIter_slot ty F.slot_enumerate_iter (wpAny_call_entry F.slot_enumerate_iter ty F.entry_enumerate_iter (show wpAny _ _ (ret (.ref e)) _ _ s from wpAny_pure ⟨_, rfl, "enumerate", _, ty, F.slot_enumerate_next.lookup, h⟩) (F.args_enumerate_iter_1 _))
theorem enumItem_any {Q : Option Value → Shared → Prop} (D : Draws prog w A.in1 it fp n P St) (hz : EnumO s.heap e it ((i : Nat) : Int) old v f) (hv : Out v) (q : St i s.heap) (l : i < n) (hne : e ≠ it) (hfe : e ∉ fp)
    (hQ : ∀ (x : Value) (g : Heap) (tk tk' : Nat) (v' old' : Value) (f' : Bool), P i x → Out v' → EnumO g e it ((i : Nat) + 1 : Int) old' v' f' → St (i + 1) g → g.get? s.heap.objs.size = some { cls := .type "tuple", data := .seq #[.int ((i : Nat) : Int) tk', x] } → (∀ b o, b ≠ e → b ≠ it → s.heap.get? b = some o → g.get? b = some o) → Q (some (.ref s.heap.objs.size)) { s with heap := g, toks := tk }) :
    wpAny (model prog w) A (pyNext (.ref e)) Q E s := by
  have ty : s.TypeIs (.ref e) "enumerate" := ⟨_, hz, rfl⟩
  unfold pyNext
  exact wpAny_bind (wpAny_attempt (wpAny_callSpecial?_slot (name := Str.ofString "__next__") ty F.slot_enumerate_next (wpAny_call_entry F.slot_enumerate_next ty F.entry_enumerate_next
    (enumNext_item D hz hv q l hne hfe fun x g tk tk' v' o' f' e1 e2 e3 e4 e5 e6 => wpAny_pure (hQ x g tk tk' v' o' f' e1 e2 e3 e4 e5 e6)) (F.args_enumerate_next_1 _))))
theorem enumEnd_any {t : Addr} {m : Nat} {items : Array Value} {Q : Option Value → Shared → Prop} (hh : A.handled = none) (hz : EnumO s.heap e it c old v f) (hit : s.heap.IsTupleIter it t m) (ht : s.heap.IsTuple t items) (hx : items[m]? = none)
    (hQ : ∀ h', Heap.ExtBut it s.heap h' → Q none { s with heap := h' }) : wpAny (model prog w) A (pyNext (.ref e)) Q E s := by
  have hT : s.TypeIs (.ref e) "enumerate" := ⟨_, hz, rfl⟩
  unfold pyNext
  refine wpAny_bind (wpAny_attempt (wpAny_callSpecial?_slot (name := Str.ofString "__next__") hT F.slot_enumerate_next (wpAny_call_entry F.slot_enumerate_next hT F.entry_enumerate_next ?_ (F.args_enumerate_next_1 _))))
  show wpAny _ _ (field (.ref e) 2 >>= _) _ _ _
  refine wpAny_bind (wpAny_field hz rfl (x := .ref it) rfl (wpAny_bind (wpAny_nextOf_tuple_end (A := A.in1) hh hit ht hx fun h' x ext ⟨o, ho, hc⟩ => ?_)))
  exact wpAny_bind (wpAny_isInstance (T := "StopIteration") (b := true) ⟨o, ho, hc⟩ isSubtype_stop (wpAny_pure (hQ _ ext)))
end
theorem turn_enum1 {P : Program} {w : World} {K : PySem.W.Frag} {nm : Str} {ps : Pos} (a e it : Addr) :
    Turn P w K (.Name nm ps) (IteT K a) [e, it] e (fun i h => (∃ old v f, Out v ∧ EnumO h e it ((i : Nat) : Int) old v f) ∧ h.IsTupleIter it a i ∧ e ≠ it ∧ a ≠ it) where
  mem := List.mem_cons_self ..
  obj := fun i h st b hb => by
    obtain ⟨⟨old, v, f, _, he⟩, ⟨o, ho, hc, hd⟩, _⟩ := st
    rcases List.mem_cons.mp hb with rfl | hb
    · exact ⟨_, he, fun v q => nomatch q⟩
    · rw [List.mem_singleton.mp hb]
      exact ⟨o, ho, fun v q => by rw [hd] at q; cases q⟩
  keep := fun i h h' st k => let ⟨⟨old, v, f, hv, he⟩, hi, hne⟩ := st; ⟨⟨old, v, f, hv, k e (by simp) _ he⟩, hi.at fun o q => k it (by simp) o q, hne⟩
  item := by
    intro X hP hw hK hc i pins s σ H E I hf st hg
    subst hP hw hK
    obtain ⟨⟨old, v, f, hv, he⟩, hit, hne, hna⟩ := st
    obtain ⟨xs, x, hq, hx⟩ := hg
    obtain ⟨its, rv, pt, hz⟩ := I.tuple hq
    have hT0 : s.heap.IsTuple a its.toArray := pt
    obtain ⟨u, hu, ru⟩ := rv.get hx
    have hel : e < s.heap.objs.size := Heap.lt_size he
    have hil : it < s.heap.objs.size := by obtain ⟨_, q, _⟩ := id hit; exact Heap.lt_size q
    have hea : e ≠ a := fun z => by
      obtain ⟨_, q, hc, n, hd⟩ := id hT0
      rw [← z] at q
      have q' := q.symm.trans he
      obtain rfl := Option.some.inj q'
      exact absurd (Value.type.inj hc) (by decide)
    have isz : i < its.toArray.size := by
      rw [List.size_toArray]
      rcases Nat.lt_or_ge i its.length with z | z
      · exact z
      · rw [List.getElem?_eq_none z] at hu
        cases hu
    refine enumItem_any (Draws.tuple (A := X.A.in1) (I.ok.hd hc) it a hna its.toArray) he hv ⟨hit, hT0⟩ isz hne (by simp [hne, hea]) fun x' g tk tk' v' old' f' hx' hv' he' hst' hT hk => ?_
    have hxu : x' = u := by
      have z : its[i]? = some x' := by simpa using hx'
      rw [hu] at z
      exact (Option.some.inj z).symm
    subst hxu
    have new : ObjOk X.prog X.w (upd H s.heap.objs.size (.tup [.int (i : Nat), x])) g s.heap.objs.size (.tup [.int (i : Nat), x]) :=
      ⟨by show 2 ≤ sizeLine; decide, [.int i tk', x'], .cons ⟨_, rfl⟩ (.cons ru .nil), ⟨_, hT, rfl, _, rfl⟩⟩
    have I1 : Inv X pins σ (upd H s.heap.objs.size (.tup [.int (i : Nat), x])) { s with heap := g, toks := tk } :=
      I.turnedNew (t' := tk) (ch := [e, it]) (fun b ob hb q => hk b ob (fun z => hb (by simp [z])) (fun z => hb (by simp [z])) q) hf (Nat.le_refl _) new
    refine ⟨_, rfl, wpAny_pure ⟨.ref s.heap.objs.size, _, I1, rfl, ⟨_, x, rfl, I.hok.fresh (Nat.le_refl _), rfl, fun ys hy => ?_⟩, ⟨⟨old', v', f', hv', ?_⟩, hst'.1, hne, hna⟩, fun b hb => ?_⟩⟩
    · rw [I.tuple_inj hy hq]
      exact hx
    · have e1 : ((i + 1 : Nat) : Int) = (i : Int) + 1 := by omega
      rw [e1]
      exact he'
    · have hb' : b < s.heap.objs.size := by
        rcases List.mem_cons.mp hb with z | z
        · rw [z]; exact hel
        · rw [List.mem_singleton.mp z]; exact hil
      rw [upd_ne (Nat.ne_of_lt hb')]
      exact (hf b hb).1
  done := by
    intro X hP hw hK hc i pins s σ H E I hf st hg
    subst hP hw hK
    obtain ⟨⟨old, v, f, hv, he⟩, hit, hne, hna⟩ := st
    obtain ⟨xs, hq, hx⟩ := hg
    obtain ⟨its, rv, pt, hz⟩ := I.tuple hq
    obtain ⟨f0, f1, f2, f3, f4, f5⟩ := hf it (by simp)
    have hl := rv.length
    have hT0 : s.heap.IsTuple a its.toArray := pt
    refine enumEnd_any (I.ok.hd hc) he hit hT0 (by simp; omega) fun h' eb => ⟨rfl, I.turned (t' := s.toks) (fun b o hb q => eb b o hb q) f0 f1 f3 f4 f5⟩
  self := fun A i s Q E st h => let ⟨⟨_, _, _, _, he⟩, _⟩ := st; enumIter_any he h
theorem pi_enum1 {X : Cx} {e : Expr} {ta : TA} {p pos ps : Pos} {nm : Str} (hg : Gl X "enumerate") (hm : X.mg "enumerate" = none) (ha : PA X [e] ta) (hs : starEach [e] X.env = [(false, eval e X.env)] := by rfl) :
    PI X (.Name nm ps) (.Call (.Name "enumerate" p) [e] [] pos) (iEnumT X.K ta) := by
  refine ⟨fun pins s σ H R I h => Call_ (ld_blt I hg hm boot_enumerate (PyProof.Rows.callWith_type1 (thn (ha.run pos pins s σ H _ I h) fun us s1 hx => ?_) hs rfl))⟩
  obtain ⟨vs, H1, I1, r1, a, xs, rfl, hq, q⟩ := hx
  obtain ⟨u, rfl, rx⟩ := vals1 r1
  cases rx
  obtain ⟨its, rv, pt, hz⟩ := I1.tuple hq
  have hT0 : s1.heap.IsTuple a its.toArray := pt
  have alt : a < s1.heap.objs.size := by
    obtain ⟨_, z, _⟩ := id hT0
    exact Heap.lt_size z
  refine call_enumT hT0 fun h' he hit hk => wpAny_pyIter_enum he ?_
  refine ⟨s1.heap.objs.size + 1, [s1.heap.objs.size + 1, s1.heap.objs.size], _, _, H1, rfl, I1.kept (t' := s1.toks) hk, turn_enum1 a (s1.heap.objs.size + 1) s1.heap.objs.size, ⟨⟨_, .none, false, .inl rfl, he⟩, hit, Nat.succ_ne_self _, Nat.ne_of_lt alt⟩, fun b hb => ?_, q⟩
  have hle : s1.heap.objs.size ≤ b := by
    rcases List.mem_cons.mp hb with z | z
    · rw [z]; exact Nat.le_add_right _ _
    · rw [List.mem_singleton.mp z]; exact Nat.le_refl _
  exact I1.fpOk hle (I1.hok.fresh hle)
theorem piEnum1 (K : PySem.W.Frag) {X : Cx} {e : Expr} {ta : TA} {p pos ps : Pos} {nm : Str} (hg : Gl X "enumerate") (hm : X.mg "enumerate" = none) (ha : PA X [e] ta) (hK : X.K = K := by rfl) (hs : starEach [e] X.env = [(false, eval e X.env)] := by rfl) :
    PI X (.Name nm ps) (.Call (.Name "enumerate" p) [e] [] pos) (iEnumT K ta) := hK ▸ pi_enum1 hg hm ha hs
end GX

set_option Elab.async false
set_option linter.all false
set_option maxRecDepth 100000
set_option maxHeartbeats 8000000
/-! boards and deeds: data; is_deed -/
namespace G9
open PySem PySem.Spec PyProof.Rows L2 GX
abbrev Dd := Str × Int × Int
def DdH (H : Hp) (x : V) (q : Dd) : Prop := ∃ a, x = .ref a ∧ H a = some (.tup [.str q.1, .int q.2.1, .int q.2.2])
def DdsH (H : Hp) (l : V) (ds : List Dd) : Prop := ∃ a vs, l = .ref a ∧ H a = some (.tup vs) ∧ Paired (DdH H) vs ds
theorem DdH.kt {H H' : Hp} {x : V} {q : Dd} (k : Kt H H') (h : DdH H x q) : DdH H' x q := let ⟨a, e, g⟩ := h; ⟨a, e, k _ _ g⟩
theorem DdsH.kt {H H' : Hp} {x : V} {ds : List Dd} (h : DdsH H x ds) (k : Kt H H') : DdsH H' x ds := let ⟨a, vs, e, g, p⟩ := h; ⟨a, vs, e, k _ _ g, paired_mono (fun _ _ => DdH.kt k) p⟩
abbrev bdK (u m l k : V) : List (L2.Key × V) := [(.inr "puzzle", u), (.inr "marks", m), (.inr "log", l), (.inr "back", k)]
theorem bd_merge (u m l k : V) : mergeK [] (bdK u m l k) = bdK u m l k := rfl
/-- a board: its puzzle, its marks, the deeds done, the deeds undone -/
def BdH (H : Hp) (v : V) (p : Puz) (ms : List (List Int)) (lg bk : List Dd) : Prop := ∃ b u m l k, v = .ref b ∧ H b = some (.dK (bdK u m l k)) ∧ PzH H u p ∧ RowsH H m ms ∧ DdsH H l lg ∧ DdsH H k bk
theorem BdH.same {H H' : Hp} {v : V} {p : Puz} {ms : List (List Int)} {lg bk : List Dd} (h : BdH H v p ms lg bk) (s : Same H H') : BdH H' v p ms lg bk := by
  obtain ⟨b, u, m, l, k, rfl, hb, hu, hm, hl, hk⟩ := h
  exact ⟨b, u, m, l, k, rfl, s _ _ hb, hu.kt (kt_same s), hm.kt (kt_same s), hl.kt (kt_same s), hk.kt (kt_same s)⟩
def spMk : Sp := fun vs H Q _ => ∃ u m l k, vs = [u, m, l, k] ∧ ∀ b, H b = none → Q (.ref b) (upd H b (.dK (bdK u m l k)))
def spNew : Sp := fun vs H Q _ => ∃ u p, vs = [u] ∧ PzH H u p ∧ ∀ w H', Same H H' → BdH H' w p p.doms [] [] → (∃ b, w = .ref b ∧ H b = none) → Q w H'
def spCutB : Sp := fun vs H Q _ => ∃ v p ms lg bk, vs = [v] ∧ BdH H v p ms lg bk ∧ ∀ w H', Same H H' → PzH H' w ⟨ms, p.rules⟩ → Q w H'
/-- what may be done at a cell with these marks -/
def canB (row : List Int) (o : Option Str) (v : Int) : Bool := if o = some ("strike" : Str) then decide (v ∈ row) else if o = some ("raise" : Str) then !decide (v ∈ row) else decide (o = some ("set" : Str)) && !decide (row = [v])
def spCan (K : PySem.W.Frag) : Sp := fun vs H Q _ => ∃ (w : V) (o : Option Str) (c v : Int) (m : V) (ms : List (List Int)), vs = [w, .int c, .int v, m] ∧ WdH K H w o ∧ RowsH H m ms ∧ 0 ≤ c ∧ c < ms.length ∧ ∀ H', Same H H' → Q (.bl (canB (ms.getD c.toNat []) o v)) H'
theorem WdH.same {K : PySem.W.Frag} {H H' : Hp} {x : V} {o : Option Str} (h : WdH K H x o) (s : Same H H') : WdH K H' x o := by
  rcases h with ⟨z, h⟩ | ⟨e, ⟨a, ks, e2, g⟩ | ⟨ds, g, c⟩⟩
  · exact .inl ⟨z, h⟩
  · exact .inr ⟨e, .inl ⟨a, ks, e2, s _ _ g⟩⟩
  · exact .inr ⟨e, .inr ⟨ds, dp_same s g, c⟩⟩
theorem eqW (K : PySem.W.Frag) {X : Cx} (hu : X.A.units + 64 < cLine) (h : X.K = K := by rfl) : OpR X (compareOp .Eq) (rEqW K) := h ▸ op_eqW hu
theorem row_at {H : Hp} {m : V} {ms : List (List Int)} (hm : RowsH H m ms) {c : Int} (h0 : 0 ≤ c) (h1 : c < ms.length) : ∃ a vs x, m = .ref a ∧ H a = some (.tup vs) ∧ Paired (IH H) vs ms ∧ atI vs c = some x ∧ IH H x (ms.getD c.toNat []) := by
  obtain ⟨a, vs, rfl, ha, pa⟩ := hm
  have hl := pa.length
  have lt : c.toNat < vs.length := by omega
  have e : vs[c.toNat]? = some vs[c.toNat] := List.getElem?_eq_getElem lt
  obtain ⟨d, hd, id⟩ := paired_at pa e
  refine ⟨a, vs, vs[c.toNat], rfl, ha, pa, ?_, ?_⟩
  · have := L2.atI_nat (xs := vs) e
    rwa [Int.toNat_of_nonneg h0] at this
  · have : ms.getD c.toNat [] = d := by rw [List.getD_eq_getElem?_getD, hd]; rfl
    rw [this]
    exact id
theorem lt1 {n : Nat} (h : n + 64 < cLine) : n + 1 < cLine := by omega
section
variable {P : Program} {w : World} {K : PySem.W.Frag} {mg : Str → Option Value} {base : Heap} {f f1 f2 f3 : Addr} {fd fd1 fd2 fd3 : FuncData}
theorem ok_mk (D : Df K mg "_board" sBoard ["puzzle", "marks", "log", "back"] f fd) : FnOk P w K mg base CX0 1 f fd ["puzzle", "marks", "log", "back"] spMk := by
  refine D.F.ok scBoard (fun vs H Q E h => ?_) (fun cdv A outer s H vs Q E hr h => ?_)
  · obtain ⟨u, m, l, k, rfl, _⟩ := h
    rfl
  · obtain ⟨u, m, l, k, rfl, q⟩ := h
    refine ⟨_, pss_one (ps_ret (pe_disp (pps_cons pe_str (pv 0) (pps_cons pe_str (pv 1) (pps_cons pe_str (pv 2) (pps_cons pe_str (pv 3) pps_nil)))) (by rfl) (by rfl) (fun z => by cases z) (by decide))), ?_⟩
    refine fun b hb => ⟨u, rfl, m, rfl, l, rfl, k, rfl, upd_same, bdK u m l k, rfl, show 4 ≤ 15 by decide, ?_⟩
    rw [bd_merge, upd_upd]
    exact q b hb
theorem ok_new (D : Df K mg "new_board" sNewBoard ["puzzle"] f fd) (D1 : Df K mg "_board" sBoard ["puzzle", "marks", "log", "back"] f1 fd1) (G1 : FnOk P w K mg base CX0 1 f1 fd1 ["puzzle", "marks", "log", "back"] spMk) : FnOk P w K mg base CX0 2 f fd ["puzzle"] spNew := by
  refine D.F.ok scNewBoard (fun vs H Q E h => ?_) (fun cdv A outer s H vs Q E hr h => ?_)
  · obtain ⟨u, p, rfl, _⟩ := h
    rfl
  · obtain ⟨u, p, rfl, hp, k⟩ := h
    refine ⟨_, pss_one (ps_ret (pe_call G1 (hr.mono (by decide)) (by rfl) D1.g D1.F.kp D1.b .nil pass0 (pa_cons (pv 0) (pa_cons (pe_ix ix_tup (pv 0) pe_int (fun _ _ => rfl)) (pa_cons (pe_tup pa_nil) (pa_cons (pe_tup pa_nil) pa_nil)))))), ?_⟩
    obtain ⟨a, x, y, rfl, ha, hx, hy⟩ := id hp
    refine ⟨_, rfl, _, rfl, a, _, 0, _, rfl, rfl, sqt ha, rfl, ?_⟩
    refine ⟨by decide, fun T1 h1 => ⟨by decide, fun T2 h2 => ⟨.ref a, x, .ref T1, .ref T2, rfl, fun b hb => ?_⟩⟩⟩
    have sm : Same H (upd (upd (upd H T1 (.tup [])) T2 (.tup [])) b (.dK (bdK (.ref a) x (.ref T1) (.ref T2)))) := Same.tr (same_new h1) (Same.tr (same_new h2) (same_new hb))
    exact k _ _ sm ⟨b, .ref a, x, .ref T1, .ref T2, rfl, upd_same, hp.kt (kt_same sm), hx.kt (kt_same sm), ⟨T1, [], rfl, upd_at hb (upd_at h2 upd_same), .nil⟩, ⟨T2, [], rfl, upd_at hb upd_same, .nil⟩⟩ ⟨b, rfl, none_same (Same.tr (same_new h1) (same_new h2)) hb⟩
theorem ok_cutB (D : Df K mg "cut_puzzle" sCutPuzzle ["board"] f fd) : FnOk P w K mg base CX0 1 f fd ["board"] spCutB := by
  refine D.F.ok scCutPuzzle (fun vs H Q E h => ?_) (fun cdv A outer s H vs Q E hr h => ?_)
  · obtain ⟨v, p, ms, lg, bk, rfl, _⟩ := h
    rfl
  · obtain ⟨v, p, ms, lg, bk, rfl, hb, k⟩ := h
    have hu := hr.units
    refine ⟨_, pss_one (ps_ret (pe_tup (pa_cons (pe_dget (lt1 hu) (pv 0) pe_str (fun _ _ => rfl)) (pa_cons (pe_ix ix_tup (pe_dget (lt1 hu) (pv 0) pe_str (fun _ _ => rfl)) pe_int (fun _ _ => rfl)) pa_nil)))), ?_⟩
    obtain ⟨b, u, m, l, bk, rfl, hb, hp, hm, hl, hk⟩ := hb
    obtain ⟨a, x, y, rfl, ha, hx, hy⟩ := id hp
    refine ⟨_, rfl, b, m, rfl, .inl ⟨_, .inr "marks", .inl hb, rfl, rfl⟩, _, rfl, b, .ref a, rfl, .inl ⟨_, .inr "puzzle", .inl hb, rfl, rfl⟩, a, _, 1, _, rfl, rfl, sqt ha, rfl, (show 2 ≤ sizeLine by decide), fun T hT => ?_⟩
    have sm := same_new (o := .tup [m, y]) hT
    exact k _ _ sm ⟨T, m, y, rfl, upd_same, hm.kt (kt_same sm), hy.kt (kt_same sm)⟩
theorem can_str {z : Str} (h : (PyData.str z).canLay0 = true := by decide +kernel) : (PyData.str z).canLay0 = true := h
theorem ok_can (D : Df K mg "_can_be_done" sCanDone ["word", "cell", "value", "marks"] f fd) : FnOk P w K mg base CX0 1 f fd ["word", "cell", "value", "marks"] (spCan K) := by
  refine D.F.ok scCanDone (fun vs H Q E h => ?_) (fun cdv A outer s H vs Q E hr h => ?_)
  · obtain ⟨wv, o, c, v, m, ms, rfl, _⟩ := h
    rfl
  · obtain ⟨wv, o, c, v, m, ms, rfl, hw, hm, c0, c1, k⟩ := h
    have hu := hr.units
    refine ⟨_, pss_cons (ps_set (i := 4) scCanDone.nd rfl (.inl rfl) (pe_cmpR (inDD K hu) (pv 2) (pe_ix (ixT K) (pv 3) (pv 1) (fun _ _ => rfl)) (by rfl)))
      (pss_cons (ps_if (pt_cmpR (eqW K hu) (pv 0) pe_str (nomark _)) (pss_one (ps_ret (pv 4))) pss_nil)
      (pss_cons (ps_if (pt_cmpR (eqW K hu) (pv 0) pe_str (nomark _)) (pss_one (ps_ret (pe_not (pv 4)))) pss_nil)
      (pss_one (ps_ret (pe_and (pe_cmpR (eqW K hu) (pv 0) pe_str (nomark _)) (pe_one (pe_cmpR (neDD K hu) (pe_ix (ixT K) (pv 3) (pv 1) (fun _ _ => rfl)) (pe_tup (pa_cons (pv 2) pa_nil)) (nomark _)))))))), ?_⟩
    obtain ⟨a, vs, x, rfl, ha, pa, hx, ix⟩ := row_at hm c0 c1
    generalize ms.getD c.toNat [] = row at ix k
    refine ⟨_, rfl, _, rfl, _, rfl, a, vs, c, x, rfl, rfl, sqt ha, hx, .int v, _, .int v, .inl ix.dp, cmp_int v, canAll_ints _, ?_⟩
    rw [GX.any_ints]
    refine ⟨_, rfl, o, _, hw, rfl, can_str, _, rfl, ?_⟩
    have kk := k H (same_refl H)
    unfold canB at k kk
    by_cases e1 : o = some ("strike" : Str)
    · rw [if_pos e1] at kk
      exact ifT (decide_eq_true e1) ⟨_, rfl, kk⟩
    refine ifF (decide_eq_false e1) ?_
    rw [if_neg e1] at kk
    refine ⟨_, rfl, o, _, hw, rfl, can_str, _, rfl, ?_⟩
    by_cases e2 : o = some ("raise" : Str)
    · rw [if_pos e2] at kk
      exact ifT (decide_eq_true e2) ⟨_, rfl, _, rfl, kk⟩
    refine ifF (decide_eq_false e2) ?_
    rw [if_neg e2] at kk
    refine ⟨_, rfl, o, _, hw, rfl, can_str, _, rfl, ?_⟩
    by_cases e3 : o = some ("set" : Str)
    · refine ifT (decide_eq_true e3) ⟨_, rfl, _, rfl, a, vs, c, x, rfl, rfl, sqt ha, hx, _, rfl, (show 1 ≤ sizeLine by decide), fun T hT => ?_⟩
      have sm := same_new (o := .tup [.int v]) hT
      refine ⟨dI row, dI [v], (ix.kt (kt_same sm)).dp, IH.dp ⟨T, rfl, upd_same⟩, cmp_dI _, cmp_dI _, ?_⟩
      rw [eqv_dI]
      have := k _ sm
      rw [if_neg e1, if_neg e2, e3, decide_eq_true rfl, Bool.true_and] at this
      exact this
    · refine ifF (decide_eq_false e3) ?_
      rw [decide_eq_false e3, Bool.false_and] at kk
      exact kk
/-- three things in a tuple -/
def triD : PyData → Bool
  | .tuple ds => decide (ds.length = 3)
  | _ => false
/-- may it be done -/
def deedB (p : Puz) (ms : List (List Int)) (o : Option Str) (dc dt : PyData) : Bool := cellD p.doms.length dc && (isN dt && (decide (tI dt ∈ p.doms.getD (tI dc).toNat []) && canB (ms.getD (tI dc).toNat []) o (tI dt)))
/-- what is asked of is_deed, and what it answers -/
def OdH (K : PySem.W.Frag) (H : Hp) (x : V) (p : Puz) (ms : List (List Int)) (r : Bool) : Prop :=
  (∃ d, Dp K H x d ∧ triD d = false ∧ r = false) ∨ ∃ a wv cv tv o dc dt, x = .ref a ∧ H a = some (.tup [wv, cv, tv]) ∧ WdH K H wv o ∧ Dp K H cv dc ∧ Dp K H tv dt ∧ r = deedB p ms o dc dt
def spIsDeed (K : PySem.W.Frag) : Sp := fun vs H Q _ => ∃ (b : V) (p : Puz) (ms : List (List Int)) (lg bk : List Dd) (x : V) (r : Bool), vs = [b, x] ∧ BdH H b p ms lg bk ∧ OdH K H x p ms r ∧ ms.length = p.doms.length ∧ ∀ H', Same H H' → Q (.bl r) H'
theorem ok_isDeed (B : Bl mg) (D : Df K mg "is_deed" sIsDeed ["board", "value"] f fd) (D1 : Df K mg "is_whole" sIsWhole ["value"] f1 fd1) (G1 : FnOk P w K mg base CX0 1 f1 fd1 ["value"] (spWholeD K))
    (D2 : Df K mg "is_cell" sIsCell ["value", "n"] f2 fd2) (G2 : FnOk P w K mg base CX0 2 f2 fd2 ["value", "n"] (spCell K)) (D3 : Df K mg "_can_be_done" sCanDone ["word", "cell", "value", "marks"] f3 fd3) (G3 : FnOk P w K mg base CX0 1 f3 fd3 ["word", "cell", "value", "marks"] (spCan K)) : FnOk P w K mg base CX0 3 f fd ["board", "value"] (spIsDeed K) := by
  refine D.F.ok scIsDeed (fun vs H Q E h => ?_) (fun cdv A outer s H vs Q E hr h => ?_)
  · obtain ⟨b, p, ms, lg, bk, x, r, rfl, _⟩ := h
    rfl
  · obtain ⟨b, p, ms, lg, bk, x, r, rfl, hb, hx, hl, k⟩ := h
    have hu := hr.units
    refine ⟨_, pss_cons (ps_if (pw_or (pt_not (pt_val (pe_callB (isiKK K) (by rfl) B.isi PyProof.Rows.boot_isinstance (pa_cons (pv 1) (pa_cons (pe_bltn (v := .ty "tuple") (by rfl) B.tuple PyProof.Rows.boot_tuple rfl) pa_nil)))))
        (pw_or1 (pt_cmpR op_ne (pe_callB (lenK K) (by rfl) B.len PySem.boot_len (pa_cons (pv 1) pa_nil)) pe_int (nomark _)))).pt (pss_one (ps_ret pe_bl)) pss_nil)
      (pss_cons (ps_asg (pv 1) (pg_tupK K (n := 3) rfl (pgs_cons (pg_name (i := 2) scIsDeed.nd rfl (.inl rfl)) (pgs_cons (pg_name (i := 3) scIsDeed.nd rfl (.inl rfl)) (pgs_cons (pg_name (i := 4) scIsDeed.nd rfl (.inl rfl)) pgs_nil)))))
      (pss_cons (ps_set (i := 5) scIsDeed.nd rfl (.inl rfl) (pe_ix ix_tup (pe_dget (lt1 hu) (pv 0) pe_str (fun _ _ => rfl)) pe_int (fun _ _ => rfl)))
      (pss_cons (ps_if (pw_or (pt_not (pt_val (pe_call G2 (hr.mono (by decide)) (by rfl) D2.g D2.F.kp D2.b .nil pass0 (pa_cons (pv 3) (pa_cons (pe_callB (lenK K) (by rfl) B.len PySem.boot_len (pa_cons (pv 5) pa_nil)) pa_nil)))))
        (pw_or (pt_not (pt_val (pe_call G1 (hr.mono (by decide)) (by rfl) D1.g D1.F.kp D1.b .nil pass0 (pa_cons (pv 4) pa_nil)))) (pw_or1 (pt_cmpR (notInDD K hu) (pv 4) (pe_ix (ixT K) (pv 5) (pv 3) (fun _ _ => rfl)) (by rfl))))).pt (pss_one (ps_ret pe_bl)) pss_nil)
      (pss_one (ps_ret (pe_call G3 (hr.mono (by decide)) (by rfl) D3.g D3.F.kp D3.b .nil pass0 (pa_cons (pv 2) (pa_cons (pv 3) (pa_cons (pv 4) (pa_cons (pe_dget (lt1 hu) (pv 0) pe_str (fun _ _ => rfl)) pa_nil)))))))))), ?_⟩
    rcases hx with ⟨d, hd, ht, rfl⟩ | ⟨xa, wv, cv, tv, o, dc, dt, rfl, hxa, hw, hc, ht, rfl⟩
    · obtain ⟨t, ty, k1, _, _⟩ := dp_ty hd
      refine ⟨_, rfl, _, _, _, _, isT d, rfl, .ty _, ty, k1, _, rfl, ?_⟩
      have kk := k H (same_refl H)
      cases hd with
      | tup q al =>
        refine ifF rfl ⟨_, rfl, _, _, rfl, .inr q, rfl, _, rfl, ifT ?_ kk⟩
        have e1 := dpAll_len al
        have e2 := of_decide_eq_false (show decide (_ = 3) = false from ht)
        rw [← e1] at e2
        exact congrArg (!·) (decide_eq_false fun z => e2 (by have := V.int.inj z; omega))
      | non => exact ifT rfl kk
      | bl => exact ifT rfl kk
      | int => exact ifT rfl kk
      | str => exact ifT rfl kk
      | lst => exact ifT rfl kk
    obtain ⟨b, u, m, l, bkv, rfl, hb, hp, hm, hlg, hbk⟩ := hb
    obtain ⟨a, y, z, rfl, ha, hy, hz⟩ := id hp
    obtain ⟨ya, yvs, rfl, hya, py⟩ := id hy
    have yl := py.length
    refine ⟨_, rfl, _, _, _, _, true, rfl, .ty _, .base (.tup hxa), kit_ty (by decide +kernel), _, rfl, ifF rfl ?_⟩
    refine ⟨_, rfl, xa, _, rfl, .inr (sqt hxa), rfl, _, rfl, ifF rfl ?_⟩
    refine ⟨_, rfl, xa, _, rfl, sqt hxa, rfl, _, _, rfl, _, _, rfl, _, _, rfl, rfl, ?_⟩
    refine ⟨_, rfl, b, .ref a, rfl, .inl ⟨_, .inr "puzzle", .inl hb, rfl, rfl⟩, a, _, 0, _, rfl, rfl, sqt ha, rfl, ?_⟩
    refine ⟨_, rfl, _, rfl, ya, _, rfl, .inr (sqt hya), cv, _, dc, rfl, hc, _, rfl, ?_⟩
    have kk := k H (same_refl H)
    unfold deedB at k kk
    rw [yl]
    by_cases e1 : cellD p.doms.length dc = true
    rotate_left
    · rw [Bool.not_eq_true] at e1
      rw [e1] at kk ⊢
      exact ifT rfl kk
    obtain ⟨ec, c0, c1⟩ := cellD_int e1
    rw [e1] at kk k ⊢
    refine ifF rfl ⟨_, rfl, tv, dt, rfl, ht, _, rfl, ?_⟩
    by_cases e2 : isN dt = true
    rotate_left
    · rw [Bool.not_eq_true] at e2
      rw [e2] at kk ⊢
      exact ifT rfl kk
    rw [e2] at kk k ⊢
    have et : ∃ v, dt = .int v := by
      cases dt with
      | int v => exact ⟨v, rfl⟩
      | _ => cases e2
    obtain ⟨v, rfl⟩ := et
    have tv' : tv = .int v := by
      cases ht
      rfl
    subst tv'
    generalize tI dc = c at ec c0 c1 kk k
    subst ec
    have cv' : cv = .int c := by
      cases hc
      rfl
    subst cv'
    obtain ⟨ya', yvs', dx, e3, hya', _, hdx, idx⟩ := row_at hy c0 (by omega)
    cases e3
    obtain rfl : yvs = yvs' := by
      rw [hya] at hya'
      cases hya'
      rfl
    refine ifF rfl ⟨_, rfl, _, rfl, _, rfl, ya, yvs, c, dx, rfl, rfl, sqt hya, hdx, .int v, _, .int v, .inl idx.dp, cmp_int v, canAll_ints _, _, rfl, ?_⟩
    rw [GX.any_ints]
    show if (!decide (v ∈ p.doms.getD c.toNat [])) = true then _ else _
    by_cases e4 : v ∈ p.doms.getD c.toNat []
    rotate_left
    · rw [show decide (tI (PyData.int v) ∈ p.doms.getD c.toNat []) = false from decide_eq_false e4] at kk
      exact ifT (by rw [decide_eq_false e4]; rfl) kk
    rw [show decide (tI (PyData.int v) ∈ p.doms.getD c.toNat []) = true from decide_eq_true e4] at k
    refine ifF (by rw [decide_eq_true e4]; rfl) ?_
    exact ⟨_, rfl, _, rfl, _, rfl, _, rfl, b, m, rfl, .inl ⟨_, .inr "marks", .inl hb, rfl, rfl⟩, wv, o, c, v, m, ms, rfl, hw, hm, c0, by omega, k⟩
end
end G9

set_option Elab.async false
set_option linter.all false
set_option maxRecDepth 100000
set_option maxHeartbeats 8000000
/-! marks after a deed -/
namespace G9
open PySem PySem.Spec PyProof.Rows L2 GX
def ins (v : Int) (l : List Int) : List Int := l.filter (fun x => decide (x < v)) ++ v :: l.filter (fun x => decide (v < x))
/-- the marks of a cell after a deed -/
def nrow (w : Str) (v : Int) (l : List Int) : List Int := if w = "strike" then l.filter (fun x => decide (x ≠ v)) else if w = "set" then [v] else ins v l
def mrk (ms : List (List Int)) (q : Dd) : List (List Int) := ms.set q.2.1.toNat (nrow q.1 q.2.2 (ms.getD q.2.1.toNat []))
theorem ins_perm (v : Int) : ∀ l : List Int, (ins v l).Perm (l.filter (fun x => decide (x ≠ v)) ++ [v]) := fun l => by
  have h : ∀ l : List Int, (l.filter (fun x => decide (x < v)) ++ l.filter (fun x => decide (v < x))).Perm (l.filter fun x => decide (x ≠ v)) := fun l => by
    induction l with
    | nil => exact .refl _
    | cons a l ih =>
      rcases Int.lt_trichotomy a v with g | g | g
      · rw [List.filter_cons_of_pos (by simpa using g), List.filter_cons_of_neg (by simp; omega), List.filter_cons_of_pos (by simp; omega)]
        exact .cons _ ih
      · rw [List.filter_cons_of_neg (by simp; omega), List.filter_cons_of_neg (by simp; omega), List.filter_cons_of_neg (by simp; omega)]
        exact ih
      · rw [List.filter_cons_of_neg (by simp; omega), List.filter_cons_of_pos (by simpa using g), List.filter_cons_of_pos (by simp; omega)]
        exact .trans List.perm_middle (.cons _ ih)
  unfold ins
  exact .trans List.perm_middle (.trans (.cons _ (h l)) (List.perm_append_comm (l₁ := [v])))
theorem ins_inc {v : Int} {l : List Int} (h : l.Pairwise (· < ·)) : (ins v l).Pairwise (· < ·) := by
  unfold ins
  rw [List.pairwise_append]
  refine ⟨h.filter _, List.pairwise_cons.mpr ⟨fun x hx => ?_, h.filter _⟩, fun x hx y hy => ?_⟩
  · have := (List.mem_filter.mp hx).2
    simpa using this
  · have hx := (List.mem_filter.mp hx).2
    have hx : x < v := by simpa using hx
    rcases List.mem_cons.mp hy with rfl | hy
    · exact hx
    · have hy := (List.mem_filter.mp hy).2
      have hy : v < y := by simpa using hy
      omega
theorem ins_mem {v x : Int} {l : List Int} (h : x ∈ ins v l) : x = v ∨ x ∈ l := by
  unfold ins at h
  rcases List.mem_append.mp h with h | h
  · exact .inr ((List.mem_filter.mp h).1)
  · rcases List.mem_cons.mp h with h | h
    · exact .inl h
    · exact .inr ((List.mem_filter.mp h).1)
theorem nrow_inc {w : Str} {v : Int} {l : List Int} (h : l.Pairwise (· < ·)) : (nrow w v l).Pairwise (· < ·) := by
  unfold nrow
  split
  · exact h.filter _
  · split
    · exact List.pairwise_singleton ..
    · exact ins_inc h
theorem nrow_mem {w : Str} {v x : Int} {l : List Int} (h : x ∈ nrow w v l) : x = v ∨ x ∈ l := by
  unfold nrow at h
  split at h
  · exact .inr ((List.mem_filter.mp h).1)
  · split at h
    · exact .inl (List.mem_singleton.mp h)
    · exact ins_mem h
/-- what is sorted is as its like in order -/
theorem srt_one {a b : List Int} (p : a.Perm b) (ha : a.Pairwise (· ≤ ·)) (hb : b.Pairwise (· < ·)) : a = b :=
  p.eq_of_pairwise (fun x y _ _ h1 h2 => by omega) ha (hb.imp fun h => Int.le_of_lt h)
def spMarked : Sp := fun vs H Q _ => ∃ (m x : V) (ms : List (List Int)) (q : Dd), vs = [m, x] ∧ RowsH H m ms ∧ DdH H x q ∧ 0 ≤ q.2.1 ∧ q.2.1 < ms.length ∧ ms.length ≤ 1000 ∧ (ms.getD q.2.1.toNat []).length ≤ 1000 ∧ (ms.getD q.2.1.toNat []).Pairwise (· < ·) ∧ ∀ w H', Same H H' → RowsH H' w (mrk ms q) → Q w H'
theorem part_rows {K : PySem.W.Frag} {H : Hp} {x : V} {rs : List (List Int)} (hx : RowsH H x rs) (lo hi : Option Int) {Q : VK} (k : ∀ w H', Same H H' → RowsH H' w ((rs.drop (HT.sIx rs.length 0 lo)).take (HT.sIx rs.length rs.length hi - HT.sIx rs.length 0 lo)) → Q w H') : rSlA K x lo hi H Q := by
  obtain ⟨a, vs, rfl, ha, pa⟩ := hx
  have l1 : vs.length = rs.length := pa.length
  refine ⟨a, vs, rfl, sqt ha, fun e => ?_, fun e p hp => ?_⟩
  · rw [l1] at e
    have := k (.ref a) H (same_refl H)
    rw [e.1, e.2, List.drop_zero, Nat.sub_zero, List.take_length] at this
    exact this ⟨a, vs, rfl, ha, pa⟩
  · refine k _ _ (same_new hp) ⟨p, _, rfl, upd_same, ?_⟩
    unfold cutV
    rw [l1]
    exact paired_mono (fun _ _ => IH.kt (kt_same (same_new hp))) (paired_sub _ _ pa)
theorem sortedIK (K : PySem.W.Frag) {X : Cx} (h : X.K = K := by rfl) : CallR X (.builtin "sorted") (rSortedI K) := h ▸ cr_sortedI
theorem set_parts (ms : List (List Int)) {i : Nat} (h : i < ms.length) (d : List Int) : ms.take i ++ [d] ++ ms.drop (i + 1) = ms.set i d := by
  rw [List.set_eq_take_append_cons_drop, if_pos h, List.append_assoc]
  rfl
theorem str_dec (a b : Str) : decide (V.str a = V.str b) = decide (a = b) := by simp
section
variable {P : Program} {w : World} {K : PySem.W.Frag} {mg : Str → Option Value} {base : Heap} {f f1 f2 f3 : Addr} {fd fd1 fd2 fd3 : FuncData}
theorem ok_marked (B : Bl mg) (D : Df K mg "_marked" sMarked ["marks", "deed"] f fd) : FnOk P w K mg base CX0 1 f fd ["marks", "deed"] spMarked := by
  refine D.F.ok scMarked (fun vs H Q E h => ?_) (fun cdv A outer s H vs Q E hr h => ?_)
  · obtain ⟨m, x, ms, q, rfl, _⟩ := h
    rfl
  · obtain ⟨m, x, ms, ⟨wd, c, v⟩, rfl, hm, hx, c0, c1, ml, dl, inc, k⟩ := h
    dsimp only at c0 c1 dl inc
    have hu := hr.units
    refine ⟨_, pss_cons (ps_asg (pv 1) (pg_tupK K (n := 3) rfl (pgs_cons (pg_name (i := 2) scMarked.nd rfl (by first | exact .inl rfl | exact .inr rfl)) (pgs_cons (pg_name (i := 3) scMarked.nd rfl (by first | exact .inl rfl | exact .inr rfl)) (pgs_cons (pg_name (i := 4) scMarked.nd rfl (by first | exact .inl rfl | exact .inr rfl)) pgs_nil)))))
      (pss_cons (ps_setLc (i := 5) (own := [("v", 6)]) rfl scMarked.nd rfl rfl (sw_true rfl rfl rfl (by decide +kernel)) (pi_tup (pe_ix (ixT K) (pv 0) (pv 3) (fun _ _ => rfl))) (blkOk_by (N := ["marks", "deed", "word", "cell", "value", "others", "v", "kept"]) (sc := defScope sMarked) (by decide +kernel))
          (fun _ _ _ _ _ => pg_name (i := 6) scMarked.nd rfl (by first | exact .inl rfl | exact .inr rfl)) (fun _ _ _ _ _ => pts_one (pw_and (pt_cmpR op_ne (pv 6) (pv 4) (nomark _)) (pw_and1 (pt_cmpR op_ne (pv 2) pe_str (nomark _)))).pt) (fun _ _ _ _ _ => pv 6))
      (pss_cons (ps_set (i := 7) scMarked.nd rfl (by first | exact .inl rfl | exact .inr rfl) (pe_ifExp (pt_cmpR op_eq (pv 2) pe_str (nomark _)) (pv 5) (pe_op op_cat (pv 5) (pe_lst (pa_cons (pv 4) pa_nil)))))
      (pss_one (ps_ret (pe_op (catA K) (pe_op (catA K) (pe_slice (slA K) (pv 0) po_none (po_some (pv 3))) (pe_tup (pa_cons (pe_callTy (tupleOf K) (by rfl) B.tuple PyProof.Rows.boot_tuple (pa_cons (pe_callB (sortedIK K) (by rfl) B.sorted PyProof.Rows.boot_sorted (pa_cons (pv 7) pa_nil)) pa_nil)) pa_nil))) (pe_slice (slA K) (pv 0) (po_some (pe_op op_add (pv 3) pe_int)) po_none)))))), ?_⟩
    obtain ⟨xa, rfl, hxa⟩ := hx
    obtain ⟨ma, mvs, dx, rfl, hma, pm, hdx, idx⟩ := row_at hm c0 c1
    obtain ⟨da, rfl, hda⟩ := idx
    generalize hd : ms.getD c.toNat [] = d at *
    have pr : ∃ pr : Int → Bool, ∀ x, pr x = (decide (x ≠ v) && decide (wd ≠ "set")) := ⟨_, fun _ => rfl⟩
    obtain ⟨pr, hpr⟩ := pr
    refine ⟨_, rfl, xa, _, rfl, sqt hxa, rfl, _, _, rfl, _, _, rfl, _, _, rfl, rfl, ?_⟩
    refine ⟨_, rfl, _, rfl, ma, mvs, c, .ref da, rfl, rfl, sqt hma, hdx, da, rfl, ⟨_, sqt hda⟩, fun L hL => ?_⟩
    refine lc_it (walk_tup (xs := d.map V.int)) (fun i H' => H' = upd H L (.lst (((d.take i).filter pr).map V.int))) rfl (fun i H' _ h => ?_) (fun i x H' H'' hi h y => ?_) (fun H' h => ?_)
    · subst h
      exact sqt (upd_at hL hda)
    · obtain ⟨rfl, hx⟩ := y
      obtain ⟨e, he, rfl⟩ := at_ints hx
      subst h
      have tk : d.take (i + 1) = d.take i ++ [e] := by rw [List.take_add_one, he]; rfl
      refine ⟨rfl, _, rfl, _, rfl, rfl, _, rfl, ?_⟩
      by_cases ev : e = v
      · refine ifF (by rw [ev]; simp) ?_
        refine congrArg (fun l => upd H L (.lst (List.map V.int l))) ?_
        rw [tk, List.filter_append, List.filter_cons_of_neg (by rw [hpr]; simp [ev]), List.filter_nil, List.append_nil]
      · refine ifT (by simp [ev]) ⟨_, rfl, rfl, _, rfl, ?_⟩
        by_cases es : wd = "set"
        · refine ifF (congrArg (!·) (decide_eq_true (congrArg V.str es))) ?_
          refine congrArg (fun l => upd H L (.lst (List.map V.int l))) ?_
          rw [tk, List.filter_append, List.filter_cons_of_neg (by rw [hpr]; simp [es]), List.filter_nil, List.append_nil]
        · refine ifT (by simp [es]) ⟨_, rfl, _, upd_same, ?_, ?_⟩
          · have := List.length_filter_le pr (d.take i)
            rw [List.length_take] at this
            rw [List.length_map, sizeLine_eq]
            omega
          · rw [upd_upd, tk, List.filter_append, List.filter_cons_of_pos (by rw [hpr]; simp [es, ev]), List.filter_nil, List.map_append]
            rfl
    · rw [List.length_map, List.take_length] at h
      subst h
      have s1 := same_new (o := .lst ((d.filter pr).map V.int)) hL
      have fl : (d.filter pr).length ≤ 1000 := Nat.le_trans (List.length_filter_le ..) dl
      generalize hf : d.filter pr = e at *
      generalize hH1 : upd H L (.lst (e.map V.int)) = H1 at s1
      have hLe : H1 L = some (.lst (e.map V.int)) := by rw [← hH1]; exact upd_same
      refine ⟨_, rfl, rfl, _, rfl, ?_⟩
      apply dupV (F := fun x H2 => ∃ (b : Addr) (ks : List Int), x = .ref b ∧ Same H1 H2 ∧ H2 b = some (.lst (ks.map V.int)) ∧ ks.length ≤ 1001 ∧ (nrow wd v d).Perm ks)
      · intro rest
        by_cases e1 : wd = "strike"
        rotate_left
        · refine ifF (decide_eq_false fun z => e1 (V.str.inj z)) ⟨_, rfl, _, rfl, (show 1 ≤ sizeLine by decide), fun T hT => ?_⟩
          have hTL : upd H1 T (.lst [.int v]) L = some (.lst (e.map V.int)) := upd_at hT hLe
          refine ⟨L, T, e.map V.int, [.int v], rfl, rfl, hTL, upd_same, by rw [List.length_map, List.length_singleton, sizeLine_eq]; omega, fun U hU => ?_⟩
          have sU := Same.tr (same_new (o := .lst [.int v]) hT) (same_new (o := .lst (e.map V.int ++ [.int v])) hU)
          have gU : upd (upd H1 T (.lst [.int v])) U (.lst (e.map V.int ++ [.int v])) U = some (.lst ((e ++ [v]).map V.int)) := by rw [upd_same, List.map_append]; rfl
          generalize upd (upd H1 T (.lst [.int v])) U (.lst (e.map V.int ++ [.int v])) = H2 at sU gU ⊢
          have fU : ∃ (b : Addr) (ks : List Int), V.ref U = .ref b ∧ Same H1 H2 ∧ H2 b = some (.lst (ks.map V.int)) ∧ ks.length ≤ 1001 ∧ (nrow wd v d).Perm ks := by
            refine ⟨U, e ++ [v], rfl, sU, gU, by rw [List.length_append, List.length_singleton]; omega, ?_⟩
            unfold nrow
            rw [if_neg e1, ← hf]
            by_cases e2 : wd = "set"
            · rw [if_pos e2, List.filter_eq_nil_iff.mpr fun x _ => by rw [hpr]; simp [e2]]
              exact .refl _
            · rw [if_neg e2, List.filter_congr (q := fun x => decide (x ≠ v)) fun x _ => by rw [hpr]; simp [e2]]
              exact ins_perm v d
          generalize V.ref U = xU at fU ⊢
          exact rest _ _ fU
        · refine ifT (decide_eq_true (congrArg V.str e1)) ⟨_, rfl, ?_⟩
          refine rest _ _ ⟨L, e, rfl, same_refl _, hLe, by omega, ?_⟩
          have ee : nrow wd v d = e := by
            unfold nrow
            rw [if_pos e1, ← hf]
            exact List.filter_congr fun x _ => by rw [hpr, show decide (wd ≠ ("set" : Str)) = true from by rw [e1]; decide +kernel, Bool.and_true]
          rw [ee]
      · rintro x H2 ⟨b, ks, rfl, s2, hb, kl, kp⟩
        have s12 := Same.tr s1 s2
        have hm1 := hm.kt (kt_same s12)
        have cN : ((c.toNat : Nat) : Int) = c := Int.toNat_of_nonneg c0
        have cl : c.toNat < ms.length := by omega
        refine ⟨_, rfl, _, rfl, _, rfl, ?_⟩
        refine part_rows hm1 none (some c) fun w2 H3 s3 h2 => ?_
        rw [show HT.sIx ms.length 0 none = 0 from rfl, ← cN, sIx_nat _ (Nat.le_of_lt cl), List.drop_zero, Nat.sub_zero] at h2
        refine ⟨_, rfl, b, ks, rfl, sql (s3 _ _ hb), fun e' S pe le hS => ⟨S, _, rfl, .inl ⟨sql upd_same, fun T hT => ⟨(show 1 ≤ sizeLine by decide), fun U hU => ?_⟩⟩⟩⟩
        obtain rfl := srt_one (pe.trans kp.symm) le (nrow_inc (w := wd) (v := v) inc)
        generalize hn : nrow wd v d = e' at *
        have s5 : Same H3 (upd (upd (upd H3 S (.lst (e'.map V.int))) T (.tup (e'.map V.int))) U (.tup [.ref T])) := Same.tr (same_new hS) (Same.tr (same_new hT) (same_new hU))
        have hU5 : RowsH (upd (upd (upd H3 S (.lst (e'.map V.int))) T (.tup (e'.map V.int))) U (.tup [.ref T])) (.ref U) [e'] := ⟨U, [.ref T], rfl, upd_same, .cons ⟨T, rfl, upd_at hU upd_same⟩ .nil⟩
        generalize upd (upd (upd H3 S (.lst (e'.map V.int))) T (.tup (e'.map V.int))) U (.tup [.ref T]) = H5 at s5 hU5
        refine cat_rows (h2.kt (kt_same s5)) hU5 (by rw [List.length_take, List.length_singleton]; omega) fun w6 H6 s6 h6 => ?_
        refine ⟨_, rfl, _, rfl, _, _, rfl, rfl, _, rfl, ?_⟩
        dsimp only [tNoPart]
        have sA := Same.tr s3 (Same.tr s5 s6)
        refine part_rows (hm1.kt (kt_same sA)) (some (c + 1)) none fun w7 H7 s7 h7 => ?_
        rw [show HT.sIx ms.length ms.length none = ms.length from rfl, show c + 1 = ((c.toNat + 1 : Nat) : Int) by omega, sIx_nat _ cl, List.take_of_length_le (Nat.le_of_eq List.length_drop)] at h7
        refine cat_rows (h6.kt (kt_same s7)) h7 (by rw [List.length_append, List.length_take, List.length_drop, List.length_singleton]; omega) fun w8 H8 s8 h8 => ?_
        refine k _ _ (Same.tr s12 (Same.tr sA (Same.tr s7 s8))) ?_
        unfold mrk
        dsimp only
        rw [hd, hn, ← set_parts ms cl]
        exact h8
end
end G9

set_option Elab.async false
set_option linter.all false
set_option maxRecDepth 100000
set_option maxHeartbeats 8000000
/-! deeds done, undone, redone -/
namespace G9
open PySem PySem.Spec PyProof.Rows L2 GX
/-- an own exception class -/
structure ExC (K : PySem.W.Frag) (mg : Str → Option Value) (x : Str) (C : Addr) : Prop where
  g : mg x = some (.ref C)
  kp : PySem.W.keepIn K (.ref C) = true
  ex : PySem.W.excIn K C [.type "ValueError", .type "Exception", .type "BaseException", .type "object"] "ValueError.__new__" = true
  s : PySem.W.subIn K (.ref C) (.type "BaseException") = some true
  t : PySem.W.typeIn K (.ref C) = some (.type "type")
  m : PySem.W.exmOne K (.ref C) (.ref C) = some true
theorem pmk_ex {X : Cx} {x : Str} {C : Addr} {p pos : Pos} (E : ExC X.K X.mg x C) (hg : Gl X x) (hdb : (x == ("__debug__" : Str)) = false := by decide) : PMk X (.Call (.Name x p) [] [] pos) (fun _ H Q => Q (.ref C) none H) :=
  pmk_own0 PySem.F.excBase_ValueError E.ex E.g E.kp (raises_own E.s E.t) hg hdb
theorem okX {P : Program} {w : World} {K : PySem.W.Frag} {mg : Str → Option Value} {base : Heap} {x qual : Str} {st : Stmt} {f : Addr} {fd : FuncData} {N ps : List Str} {k : Nat} {sp : Sp} (F : Fun K x qual st f fd) (S : FnScope N ps (defScope st)) (len : ∀ vs H Q E, sp vs H Q E → vs.length = ps.length)
    (hbody : ∀ (cdv : Value) (A : Around) (outer : List Env) (s : Shared) (H : Hp) (vs : List V) (Q : VK) (E : XK), Room k (A.deeper (envOfC qual (defScope st) s.heap.objs.size f cdv)) → sp vs H Q E →
      ∃ t, PSs (cxOf (L2.CX P w) P w K mg base N qual (defScope st) f cdv A outer s H E) (defBody st) t ∧ t { nx := fun _ H' => Q .non H', rt := Q } (start N vs) H) : FnOk P w K mg base (L2.CX P w) (k + 1) f fd ps sp := by
  obtain ⟨oc, od, kV, doc, pm, an, cdv, ct, osl, rfl, lk, hcd⟩ := F.ex
  exact fn_of lk hcd S len fun A outer s H vs Q E hr hsp => hbody cdv A outer s H vs Q E hr hsp
/-- domains as they are drawn -/
structure DmG (ds : List (List Int)) : Prop where
  n8 : ds.length ≤ 8
  l4 : ∀ e ∈ ds, e.length ≤ 4 ∧ e.Pairwise (· < ·)
def DdG (ds : List (List Int)) (q : Dd) : Prop := 0 ≤ q.2.1 ∧ q.2.1 < ds.length ∧ q.2.2 ∈ ds.getD q.2.1.toNat []
structure MkG (ds ms : List (List Int)) : Prop where
  len : ms.length = ds.length
  inc : ∀ c, (ms.getD c []).Pairwise (· < ·)
  sub : ∀ c, ∀ x ∈ ms.getD c [], x ∈ ds.getD c []
theorem getD_set (ms : List (List Int)) (i c : Nat) (d : List Int) : (ms.set i d).getD c [] = if c = i ∧ i < ms.length then d else ms.getD c [] := by
  rw [List.getD_eq_getElem?_getD, List.getD_eq_getElem?_getD, List.getElem?_set]
  by_cases h : i = c
  · subst h
    by_cases h2 : i < ms.length
    · rw [if_pos rfl, if_pos h2, if_pos ⟨rfl, h2⟩]
      rfl
    · rw [if_pos rfl, if_neg h2, if_neg fun z => h2 z.2, List.getElem?_eq_none (Nat.le_of_not_lt h2)]
  · rw [if_neg h, if_neg fun z => h z.1.symm]
theorem getD_le {ds : List (List Int)} {n : Nat} (h : ∀ e ∈ ds, e.length ≤ n) (c : Nat) : (ds.getD c []).length ≤ n := by
  rw [List.getD_eq_getElem?_getD]
  cases e : ds[c]? with
  | none => exact Nat.zero_le _
  | some d => exact h d (List.mem_of_getElem? e)
theorem inc_nodup {l : List Int} (h : l.Pairwise (· < ·)) : l.Nodup := h.imp fun h e => by omega
theorem MkG.mrk {ds ms : List (List Int)} {q : Dd} (h : MkG ds ms) (g : DdG ds q) : MkG ds (mrk ms q) := by
  unfold G9.mrk
  refine ⟨by rw [List.length_set]; exact h.len, fun c => ?_, fun c x hx => ?_⟩
  · rw [getD_set]
    split
    · exact nrow_inc (h.inc _)
    · exact h.inc c
  · rw [getD_set] at hx
    split at hx
    · rename_i e
      rcases nrow_mem hx with rfl | hx
      · rw [e.1]
        exact g.2.2
      · rw [e.1]
        exact h.sub _ _ hx
    · exact h.sub c x hx
theorem nd_len : ∀ {l m : List Int}, l.Nodup → (∀ x ∈ l, x ∈ m) → l.length ≤ m.length
  | [], _, _, _ => Nat.zero_le _
  | a :: l, m, nd, h => by
    obtain ⟨n1, n2⟩ := List.nodup_cons.mp nd
    have i := nd_len (l := l) (m := m.erase a) n2 fun x hx => (List.mem_erase_of_ne fun z => n1 (by rw [← z]; exact hx)).mpr (h x (List.mem_cons_of_mem _ hx))
    have hm := h a List.mem_cons_self
    rw [List.length_erase_of_mem hm] at i
    have := List.length_pos_of_mem hm
    rw [List.length_cons]
    omega
theorem MkG.l4 {ds ms : List (List Int)} (h : MkG ds ms) (g : DmG ds) (c : Nat) : (ms.getD c []).length ≤ 4 :=
  Nat.le_trans (nd_len (inc_nodup (h.inc c)) (h.sub c)) (getD_le (fun e he => (g.l4 e he).1) c)
theorem MkG.of {ds : List (List Int)} (g : DmG ds) : MkG ds ds := ⟨rfl, fun c => by
  rw [List.getD_eq_getElem?_getD]
  cases e : ds[c]? with
  | none => exact .nil
  | some d => exact (g.l4 d (List.mem_of_getElem? e)).2, fun _ _ h => h⟩
def after (ds : List (List Int)) (l : List Dd) : List (List Int) := l.foldl mrk ds
theorem after_snoc (ds : List (List Int)) (l : List Dd) (q : Dd) : after ds (l ++ [q]) = mrk (after ds l) q := by
  unfold after
  rw [List.foldl_append]
  rfl
theorem MkG.after {ds : List (List Int)} (g : DmG ds) (l : List Dd) : ∀ {ms : List (List Int)}, MkG ds ms → (∀ q ∈ l, DdG ds q) → MkG ds (G9.after ms l) := by
  induction l with
  | nil => exact fun h _ => h
  | cons q l ih => exact fun h hq => ih (h.mrk (hq q List.mem_cons_self)) fun q' h' => hq q' (List.mem_cons_of_mem _ h')
theorem sIx_m1 (n d : Nat) : HT.sIx (n + 1) d (some (-1)) = n := by
  show (if (-1 : Int) < 0 then ((-1) + ((n + 1 : Nat) : Int)).toNat else min (-1 : Int).toNat (n + 1)) = n
  rw [if_pos (by decide)]
  omega
theorem part_dds {K : PySem.W.Frag} {H : Hp} {x : V} {ds : List Dd} (hx : DdsH H x ds) (lo hi : Option Int) {Q : VK} (k : ∀ w H', Same H H' → DdsH H' w ((ds.drop (HT.sIx ds.length 0 lo)).take (HT.sIx ds.length ds.length hi - HT.sIx ds.length 0 lo)) → Q w H') : rSlA K x lo hi H Q := by
  obtain ⟨a, vs, rfl, ha, pa⟩ := hx
  have l1 : vs.length = ds.length := pa.length
  refine ⟨a, vs, rfl, sqt ha, fun e => ?_, fun e p hp => ?_⟩
  · rw [l1] at e
    have := k (.ref a) H (same_refl H)
    rw [e.1, e.2, List.drop_zero, Nat.sub_zero, List.take_length] at this
    exact this ⟨a, vs, rfl, ha, pa⟩
  · refine k _ _ (same_new hp) ⟨p, _, rfl, upd_same, ?_⟩
    unfold cutV
    rw [l1]
    exact paired_mono (fun _ _ => DdH.kt (kt_same (same_new hp))) (paired_sub _ _ pa)
theorem cat_dds {K : PySem.W.Frag} {H : Hp} {x y : V} {ds es : List Dd} (hx : DdsH H x ds) (hy : DdsH H y es) (hl : ds.length + es.length ≤ 1000) {Q : VK} (k : ∀ w H', Same H H' → DdsH H' w (ds ++ es) → Q w H') : rCatA K x y H Q := by
  obtain ⟨a, vs, rfl, ha, pa⟩ := hx
  obtain ⟨b, us, rfl, hb, pb⟩ := hy
  have l1 : vs.length = ds.length := pa.length
  have l2 : us.length = es.length := pb.length
  refine ⟨a, b, vs, us, rfl, rfl, sqt ha, sqt hb, by rw [sizeLine_eq]; omega, fun e => ?_, fun _ e2 => ?_, fun _ _ U hU => ?_⟩
  · subst e
    cases pa
    exact k _ _ (same_refl H) ⟨b, us, rfl, hb, pb⟩
  · subst e2
    cases pb
    have := k (.ref a) _ (same_refl H)
    rw [List.append_nil] at this
    exact this ⟨a, vs, rfl, ha, pa⟩
  · have sm := same_new (o := .tup (vs ++ us)) hU
    exact k _ _ sm ⟨U, vs ++ us, rfl, upd_same, paired_mono (fun _ _ => DdH.kt (kt_same sm)) (paired_app pa pb)⟩
/-- a new board -/
def Nb (H : Hp) (w : V) : Prop := ∃ b, w = .ref b ∧ H b = none
def spDone (K : PySem.W.Frag) (CB : Addr) : Sp := fun vs H Q E => ∃ (b x : V) (p : Puz) (ms : List (List Int)) (lg bk : List Dd) (r : Bool), vs = [b, x] ∧ BdH H b p ms lg bk ∧ OdH K H x p ms r ∧ DmG p.doms ∧ MkG p.doms ms ∧ lg.length ≤ 900 ∧
  (r = false → ∀ H', Same H H' → E (.ref CB) none H') ∧ (r = true → ∃ q, DdH H x q ∧ DdG p.doms q ∧ ∀ w H', Same H H' → BdH H' w p (mrk ms q) (lg ++ [q]) [] → Nb H w → Q w H')
section
variable {P : Program} {w : World} {K : PySem.W.Frag} {mg : Str → Option Value} {base : Heap} {f f1 f2 f3 CB CN : Addr} {fd fd1 fd2 fd3 : FuncData}
theorem ok_done (X : ExC K mg "BadDeed" CB) (D : Df K mg "done" sDone ["board", "deed"] f fd) (D1 : Df K mg "is_deed" sIsDeed ["board", "value"] f1 fd1) (G1 : FnOk P w K mg base CX0 3 f1 fd1 ["board", "value"] (spIsDeed K))
    (D2 : Df K mg "_marked" sMarked ["marks", "deed"] f2 fd2) (G2 : FnOk P w K mg base CX0 1 f2 fd2 ["marks", "deed"] spMarked) (D3 : Df K mg "_board" sBoard ["puzzle", "marks", "log", "back"] f3 fd3) (G3 : FnOk P w K mg base CX0 1 f3 fd3 ["puzzle", "marks", "log", "back"] spMk) : FnOk P w K mg base (L2.CX P w) 4 f fd ["board", "deed"] (spDone K CB) := by
  refine okX D.F scDone (fun vs H Q E h => ?_) (fun cdv A outer s H vs Q E hr h => ?_)
  · obtain ⟨b, x, p, ms, lg, bk, r, rfl, _⟩ := h
    rfl
  · obtain ⟨b, x, p, ms, lg, bk, r, rfl, hb, hx, dg, mk, n1, kE, kQ⟩ := h
    have hu := hr.units
    refine ⟨_, pss_cons (ps_if (pt_not (pt_val (pe_call G1 (hr.mono (by decide)) (by rfl) D1.g D1.F.kp D1.b .nil pass0 (pa_cons (pv 0) (pa_cons (pv 1) pa_nil))))) (pss_one (ps_raise rfl (takes_of rfl rfl rfl rfl) (pmk_ex X (by rfl)))) pss_nil)
      (pss_one (ps_ret (pe_call G3 (hr.mono (by decide)) (by rfl) D3.g D3.F.kp D3.b .nil pass0 (pa_cons (pe_dget (lt1 hu) (pv 0) pe_str (fun _ _ => rfl)) (pa_cons
        (pe_call G2 (hr.mono (by decide)) (by rfl) D2.g D2.F.kp D2.b .nil pass0 (pa_cons (pe_dget (lt1 hu) (pv 0) pe_str (fun _ _ => rfl)) (pa_cons (pv 1) pa_nil))) (pa_cons
        (pe_op (catA K) (pe_dget (lt1 hu) (pv 0) pe_str (fun _ _ => rfl)) (pe_tup (pa_cons (pv 1) pa_nil))) (pa_cons (pe_tup pa_nil) pa_nil))))))), ?_⟩
    refine ⟨_, rfl, _, rfl, b, p, ms, lg, bk, x, r, rfl, hb, hx, mk.len, fun H1 s1 => ⟨_, rfl, ?_⟩⟩
    cases r with
    | false => exact ifT rfl (kE rfl H1 s1)
    | true =>
      obtain ⟨q, hq, dq, k⟩ := kQ rfl
      refine ifF rfl ?_
      obtain ⟨b, u, m, l, bk', rfl, hb, hp, hm, hlg, hk⟩ := hb.same s1
      refine ⟨_, rfl, b, u, rfl, .inl ⟨_, .inr "puzzle", .inl hb, rfl, rfl⟩, _, rfl, b, m, rfl, .inl ⟨_, .inr "marks", .inl hb, rfl, rfl⟩, _, rfl, m, x, ms, q, rfl, hm, hq.kt (kt_same s1), dq.1, by rw [mk.len]; exact dq.2.1, by rw [mk.len]; exact Nat.le_trans dg.n8 (by decide), Nat.le_trans (mk.l4 dg _) (by decide), mk.inc _, fun w2 H2 s2 h2 => ?_⟩
      refine ⟨_, rfl, b, l, rfl, .inl ⟨_, .inr "log", .inl (s2 _ _ hb), rfl, rfl⟩, _, rfl, (show 1 ≤ sizeLine by decide), fun T hT => ?_⟩
      have sT := same_new (o := .tup [x]) hT
      have s2T := Same.tr s2 sT
      refine cat_dds (hlg.kt (kt_same s2T)) ⟨T, [x], rfl, upd_same, .cons (hq.kt (kt_same (Same.tr s1 s2T))) .nil⟩ (by rw [List.length_singleton]; omega) fun w3 H3 s3 h3 => ⟨by decide, fun U hU => ⟨u, w2, w3, .ref U, rfl, fun bb hbb => ?_⟩⟩
      have s4 : Same H3 (upd (upd H3 U (.tup [])) bb (.dK (bdK u w2 w3 (.ref U)))) := Same.tr (same_new hU) (same_new hbb)
      have sA := Same.tr s2T (Same.tr s3 s4)
      refine k _ _ (Same.tr s1 sA) ⟨bb, u, w2, w3, .ref U, rfl, upd_same, hp.kt (kt_same sA), h2.kt (kt_same (Same.tr sT (Same.tr s3 s4))), h3.kt (kt_same s4), ⟨U, [], rfl, upd_at hbb upd_same, .nil⟩⟩ ⟨bb, rfl, none_same (Same.tr s1 (Same.tr s2T (Same.tr s3 (same_new hU)))) hbb⟩
def spUndone (CN : Addr) : Sp := fun vs H Q E => ∃ (b : V) (p : Puz) (ms : List (List Int)) (lg bk : List Dd), vs = [b] ∧ BdH H b p ms lg bk ∧ DmG p.doms ∧ (∀ q ∈ lg, DdG p.doms q) ∧ lg.length ≤ 900 ∧ bk.length ≤ 90 ∧
  (lg = [] → ∀ H', Same H H' → E (.ref CN) none H') ∧ (∀ l q, lg = l ++ [q] → ∀ w H', Same H H' → BdH H' w p (after p.doms l) l (bk ++ [q]) → Nb H w → Q w H')
def spRedone (CN : Addr) : Sp := fun vs H Q E => ∃ (b : V) (p : Puz) (ms : List (List Int)) (lg bk : List Dd), vs = [b] ∧ BdH H b p ms lg bk ∧ DmG p.doms ∧ MkG p.doms ms ∧ (∀ q ∈ bk, DdG p.doms q) ∧ lg.length ≤ 900 ∧ bk.length ≤ 900 ∧
  (bk = [] → ∀ H', Same H H' → E (.ref CN) none H') ∧ (∀ l q, bk = l ++ [q] → ∀ w H', Same H H' → BdH H' w p (mrk ms q) (lg ++ [q]) l → Nb H w → Q w H')
theorem ok_undone (B : Bl mg) (X : ExC K mg "NothingDone" CN) (D : Df K mg "undone" sUndone ["board"] f fd) 
    (D2 : Df K mg "_marked" sMarked ["marks", "deed"] f2 fd2) (G2 : FnOk P w K mg base CX0 1 f2 fd2 ["marks", "deed"] spMarked) (D3 : Df K mg "_board" sBoard ["puzzle", "marks", "log", "back"] f3 fd3) (G3 : FnOk P w K mg base CX0 1 f3 fd3 ["puzzle", "marks", "log", "back"] spMk) : FnOk P w K mg base (L2.CX P w) 4 f fd ["board"] (spUndone CN) := by
  refine okX D.F scUndone (fun vs H Q E h => ?_) (fun cdv A outer s H vs Q E hr h => ?_)
  · obtain ⟨b, p, ms, lg, bk, rfl, _⟩ := h
    rfl
  · obtain ⟨b, p, ms, lg, bk, rfl, hb, dg, hq, n1, n2, kE, kQ⟩ := h
    have hu := hr.units
    refine ⟨_, pss_cons (ps_if (pt_cmpR op_eq (pe_callB (lenK K) (by rfl) B.len PySem.boot_len (pa_cons (pe_dget (lt1 hu) (pv 0) pe_str (fun _ _ => rfl)) pa_nil)) pe_int (nomark _)) (pss_one (ps_raise rfl (takes_of rfl rfl rfl rfl) (pmk_ex X (by rfl)))) pss_nil)
      (pss_cons (ps_set (i := 1) scUndone.nd rfl (.inl rfl) (pe_slice (slA K) (pe_dget (lt1 hu) (pv 0) pe_str (fun _ _ => rfl)) po_none (po_some (pe_un un_neg pe_int))))
      (pss_cons (ps_set (i := 2) scUndone.nd rfl (.inl rfl) (pe_ix ix_tup (pe_dget (lt1 hu) (pv 0) pe_str (fun _ _ => rfl)) pe_int (fun _ _ => rfl)))
      (pss_cons (ps_for (passes_of rfl) rfl (pi_tup (pv 1)) (pg_name (i := 3) scUndone.nd rfl (.inl rfl))
        (pss_one (ps_set (i := 2) scUndone.nd rfl (.inl rfl) (pe_call G2 (hr.mono (by decide)) (by rfl) D2.g D2.F.kp D2.b .nil pass0 (pa_cons (pv 2) (pa_cons (pv 3) pa_nil))))))
      (pss_one (ps_ret (pe_call G3 (hr.mono (by decide)) (by rfl) D3.g D3.F.kp D3.b .nil pass0 (pa_cons (pe_dget (lt1 hu) (pv 0) pe_str (fun _ _ => rfl)) (pa_cons (pv 2) (pa_cons (pv 1) (pa_cons
        (pe_op (catA K) (pe_dget (lt1 hu) (pv 0) pe_str (fun _ _ => rfl)) (pe_slice (slA K) (pe_dget (lt1 hu) (pv 0) pe_str (fun _ _ => rfl)) (po_some (pe_un un_neg pe_int)) po_none)) pa_nil)))))))))), ?_⟩
    obtain ⟨b, u, m, l, bv, rfl, hb, hp, hm, hlg, hk⟩ := hb
    obtain ⟨la, lvs, rfl, hla, pl⟩ := id hlg
    have ll := pl.length
    refine ⟨_, rfl, b, .ref la, rfl, .inl ⟨_, .inr "log", .inl hb, rfl, rfl⟩, la, _, rfl, .inr (sqt hla), rfl, _, rfl, ?_⟩
    rcases List.eq_nil_or_concat lg with e0 | ⟨lp, q, e0⟩
    · refine ifT ?_ (kE e0 H (same_refl H))
      rw [ll, e0]
      rfl
    rw [List.concat_eq_append] at e0
    subst e0
    rw [List.length_append, List.length_singleton] at ll n1
    refine ifF (decide_eq_false fun z => by have := V.int.inj z; omega) ?_
    refine ⟨_, rfl, b, .ref la, rfl, .inl ⟨_, .inr "log", .inl hb, rfl, rfl⟩, _, rfl, -1, rfl, ?_⟩
    show rSlA K (.ref la) none (some (-1)) H _
    refine part_dds hlg none (some (-1)) fun w2 H2 s2 h2 => ?_
    have es : HT.sIx (lp ++ [q]).length (lp ++ [q]).length (some (-1)) = lp.length := by
      rw [List.length_append, List.length_singleton]
      exact sIx_m1 _ _
    rw [show HT.sIx (lp ++ [q]).length 0 none = 0 from rfl, es, List.drop_zero, Nat.sub_zero, List.take_left] at h2
    obtain ⟨a, x, y, rfl, ha, hx, hy⟩ := id (hp.kt (kt_same s2))
    refine ⟨_, rfl, b, .ref a, rfl, .inl ⟨_, .inr "puzzle", .inl (s2 _ _ hb), rfl, rfl⟩, a, _, 0, _, rfl, rfl, sqt ha, rfl, ?_⟩
    obtain ⟨wa, wvs, rfl, hwa, pw⟩ := id h2
    have pwl := pw.length
    refine ⟨_, rfl, wa, rfl, ⟨wvs, sqt hwa⟩, ?_⟩
    refine for_it (walk_tup (xs := wvs)) (fun i σ H' => ∃ mv o3, σ = [some (.ref b), some (.ref wa), some mv, o3] ∧ Same H2 H' ∧ RowsH H' mv (after p.doms (lp.take i))) ⟨_, _, rfl, same_refl _, hx⟩ (fun i σ H' _ h => ?_) (fun i xv σ H' H'' hi h y => ?_) (fun σ H' h => ?_)
    · obtain ⟨_, _, _, s3, _⟩ := h
      exact sqt (s3 _ _ hwa)
    · obtain ⟨rfl, hxv⟩ := y
      obtain ⟨mv, o3, rfl, s3, hmv⟩ := h
      obtain ⟨q', hq', dq'⟩ := paired_at pw hxv
      have mk := (MkG.of dg).after dg (lp.take i) fun z hz => hq z (List.mem_append_left _ (List.mem_of_mem_take hz))
      have dd := hq q' (List.mem_append_left _ (List.mem_of_getElem? hq'))
      refine ⟨_, rfl, _, rfl, mv, xv, _, q', rfl, hmv, dq'.kt (kt_same s3), dd.1, by rw [mk.len]; exact dd.2.1, by rw [mk.len]; exact Nat.le_trans dg.n8 (by decide), Nat.le_trans (mk.l4 dg _) (by decide), mk.inc _, fun w4 H4 s4 h4 => ⟨w4, _, rfl, Same.tr s3 s4, ?_⟩⟩
      rw [List.take_add_one, hq']
      show RowsH H4 w4 (after p.doms (lp.take i ++ [q']))
      rw [after_snoc]
      exact h4
    · obtain ⟨mv, o3, rfl, s3, hmv⟩ := h
      rw [pwl, List.take_length] at hmv
      have s23 := Same.tr s2 s3
      refine ⟨_, rfl, b, .ref a, rfl, .inl ⟨_, .inr "puzzle", .inl (s23 _ _ hb), rfl, rfl⟩, _, rfl, _, rfl, _, rfl, b, bv, rfl, .inl ⟨_, .inr "back", .inl (s23 _ _ hb), rfl, rfl⟩, _, rfl, b, .ref la, rfl, .inl ⟨_, .inr "log", .inl (s23 _ _ hb), rfl, rfl⟩, _, rfl, -1, rfl, ?_⟩
      dsimp only [tNoPart]
      refine part_dds (hlg.kt (kt_same s23)) (some (-1)) none fun w5 H5 s5 h5 => ?_
      have es0 : HT.sIx (lp ++ [q]).length 0 (some (-1)) = lp.length := by
        rw [List.length_append, List.length_singleton]
        exact sIx_m1 _ _
      rw [es0, show HT.sIx (lp ++ [q]).length (lp ++ [q]).length none = (lp ++ [q]).length from rfl, List.drop_left, List.length_append, Nat.add_sub_cancel_left, List.take_length] at h5
      have s25 := Same.tr s23 s5
      refine cat_dds (hk.kt (kt_same s25)) h5 (by rw [List.length_singleton]; omega) fun w6 H6 s6 h6 => ⟨.ref a, mv, .ref wa, w6, rfl, fun bb hbb => ?_⟩
      have s7 := same_new (o := .dK (bdK (.ref a) mv (.ref wa) w6)) hbb
      have s37 := Same.tr s5 (Same.tr s6 s7)
      have s27 := Same.tr s3 s37
      exact kQ lp q rfl _ _ (Same.tr s2 s27) ⟨bb, .ref a, mv, .ref wa, w6, rfl, upd_same, hp.kt (kt_same (Same.tr s2 s27)), hmv.kt (kt_same s37), h2.kt (kt_same s27), h6.kt (kt_same s7)⟩ ⟨bb, rfl, none_same (Same.tr s25 s6) hbb⟩
theorem ok_redone (B : Bl mg) (X : ExC K mg "NothingDone" CN) (D : Df K mg "redone" sRedone ["board"] f fd)
    (D2 : Df K mg "_marked" sMarked ["marks", "deed"] f2 fd2) (G2 : FnOk P w K mg base CX0 1 f2 fd2 ["marks", "deed"] spMarked) (D3 : Df K mg "_board" sBoard ["puzzle", "marks", "log", "back"] f3 fd3) (G3 : FnOk P w K mg base CX0 1 f3 fd3 ["puzzle", "marks", "log", "back"] spMk) : FnOk P w K mg base (L2.CX P w) 4 f fd ["board"] (spRedone CN) := by
  refine okX D.F scRedone (fun vs H Q E h => ?_) (fun cdv A outer s H vs Q E hr h => ?_)
  · obtain ⟨b, p, ms, lg, bk, rfl, _⟩ := h
    rfl
  · obtain ⟨b, p, ms, lg, bk, rfl, hb, dg, mk, hq, n1, n2, kE, kQ⟩ := h
    have hu := hr.units
    refine ⟨_, pss_cons (ps_if (pt_cmpR op_eq (pe_callB (lenK K) (by rfl) B.len PySem.boot_len (pa_cons (pe_dget (lt1 hu) (pv 0) pe_str (fun _ _ => rfl)) pa_nil)) pe_int (nomark _)) (pss_one (ps_raise rfl (takes_of rfl rfl rfl rfl) (pmk_ex X (by rfl)))) pss_nil)
      (pss_cons (ps_set (i := 1) scRedone.nd rfl (.inl rfl) (pe_ix (ixT K) (pe_dget (lt1 hu) (pv 0) pe_str (fun _ _ => rfl)) (pe_un un_neg pe_int) (fun _ _ => rfl)))
      (pss_one (ps_ret (pe_call G3 (hr.mono (by decide)) (by rfl) D3.g D3.F.kp D3.b .nil pass0 (pa_cons (pe_dget (lt1 hu) (pv 0) pe_str (fun _ _ => rfl)) (pa_cons
        (pe_call G2 (hr.mono (by decide)) (by rfl) D2.g D2.F.kp D2.b .nil pass0 (pa_cons (pe_dget (lt1 hu) (pv 0) pe_str (fun _ _ => rfl)) (pa_cons (pv 1) pa_nil))) (pa_cons
        (pe_op (catA K) (pe_dget (lt1 hu) (pv 0) pe_str (fun _ _ => rfl)) (pe_tup (pa_cons (pv 1) pa_nil))) (pa_cons
        (pe_slice (slA K) (pe_dget (lt1 hu) (pv 0) pe_str (fun _ _ => rfl)) po_none (po_some (pe_un un_neg pe_int))) pa_nil)))))))), ?_⟩
    obtain ⟨b, u, m, l, bv, rfl, hb, hp, hm, hlg, hk⟩ := hb
    obtain ⟨ka, kvs, rfl, hka, pk⟩ := id hk
    have kl := pk.length
    refine ⟨_, rfl, b, .ref ka, rfl, .inl ⟨_, .inr "back", .inl hb, rfl, rfl⟩, ka, _, rfl, .inr (sqt hka), rfl, _, rfl, ?_⟩
    rcases List.eq_nil_or_concat bk with e0 | ⟨lp, q, e0⟩
    · refine ifT ?_ (kE e0 H (same_refl H))
      rw [kl, e0]
      rfl
    rw [List.concat_eq_append] at e0
    subst e0
    have dq := hq q (List.mem_append_right _ List.mem_cons_self)
    rw [List.length_append, List.length_singleton] at kl n2
    refine ifF (decide_eq_false fun z => by have := V.int.inj z; omega) ?_
    have hxl : kvs[lp.length]? = some (kvs[lp.length]'(by omega)) := List.getElem?_eq_getElem _
    obtain ⟨q', hq', dx⟩ := paired_at pk hxl
    rw [List.getElem?_concat_length] at hq'
    cases hq'
    generalize kvs[lp.length]'(by omega) = x at hxl dx
    have hat : atI kvs (-1) = some x := by
      have : ixN kvs.length (-1) = some lp.length := by
        unfold ixN
        rw [if_neg (by decide), if_pos (by omega)]
        exact congrArg some (by omega)
      unfold atI
      rw [this]
      exact hxl
    refine ⟨_, rfl, b, .ref ka, rfl, .inl ⟨_, .inr "back", .inl hb, rfl, rfl⟩, _, rfl, ka, kvs, -1, x, rfl, rfl, sqt hka, hat, ?_⟩
    refine ⟨_, rfl, b, u, rfl, .inl ⟨_, .inr "puzzle", .inl hb, rfl, rfl⟩, _, rfl, b, m, rfl, .inl ⟨_, .inr "marks", .inl hb, rfl, rfl⟩, _, rfl, m, x, ms, q, rfl, hm, dx, dq.1, by rw [mk.len]; exact dq.2.1, by rw [mk.len]; exact Nat.le_trans dg.n8 (by decide), Nat.le_trans (mk.l4 dg _) (by decide), mk.inc _, fun w2 H2 s2 h2 => ?_⟩
    refine ⟨_, rfl, b, l, rfl, .inl ⟨_, .inr "log", .inl (s2 _ _ hb), rfl, rfl⟩, _, rfl, (show 1 ≤ sizeLine by decide), fun T hT => ?_⟩
    have sT := same_new (o := .tup [x]) hT
    have s2T := Same.tr s2 sT
    refine cat_dds (hlg.kt (kt_same s2T)) ⟨T, [x], rfl, upd_same, .cons (dx.kt (kt_same s2T)) .nil⟩ (by rw [List.length_singleton]; omega) fun w3 H3 s3 h3 => ?_
    have s23 := Same.tr s2T s3
    refine ⟨_, rfl, b, .ref ka, rfl, .inl ⟨_, .inr "back", .inl (s23 _ _ hb), rfl, rfl⟩, _, rfl, -1, rfl, ?_⟩
    show rSlA K (.ref ka) none (some (-1)) H3 _
    refine part_dds (hk.kt (kt_same s23)) none (some (-1)) fun w5 H5 s5 h5 => ?_
    have es : HT.sIx (lp ++ [q]).length (lp ++ [q]).length (some (-1)) = lp.length := by
      rw [List.length_append, List.length_singleton]
      exact sIx_m1 _ _
    rw [show HT.sIx (lp ++ [q]).length 0 none = 0 from rfl, es, List.drop_zero, Nat.sub_zero, List.take_left] at h5
    refine ⟨u, w2, w3, w5, rfl, fun bb hbb => ?_⟩
    have s7 := same_new (o := .dK (bdK u w2 w3 w5)) hbb
    have s57 := Same.tr s5 s7
    have sA := Same.tr s23 s57
    exact kQ lp q rfl _ _ sA ⟨bb, u, w2, w3, w5, rfl, upd_same, hp.kt (kt_same sA), h2.kt (kt_same (Same.tr sT (Same.tr s3 s57))), h3.kt (kt_same s57), h5.kt (kt_same s7)⟩ ⟨bb, rfl, none_same (Same.tr s23 s5) hbb⟩
end
end G9

set_option Elab.async false
set_option linter.all false
set_option maxRecDepth 100000
set_option maxHeartbeats 8000000
/-! the law's own deeds and marks -/
namespace G9
open PySem PySem.Spec PyProof.Rows L2 GX
structure Fn (P : Program) (w : World) (K : PySem.W.Frag) (mg : Str → Option Value) (base : Heap) (x : Str) (st : Stmt) (ps : List Str) (k : Nat) (sp : Sp) (f : Addr) (fd : FuncData) : Prop where
  D : Df K mg x st ps f fd
  G : FnOk P w K mg base CX0 k f fd ps sp
def isWd (w : Str) : Prop := w = "strike" ∨ w = "raise" ∨ w = "set"
def spDrawDeed : Sp := fun vs H Q _ => ∃ (d cs : Addr) (u m : V) (p : Puz) (ms : List (List Int)), vs = [.ref d, u, m] ∧ SrcAt H d cs ∧ PzH H u p ∧ RowsH H m ms ∧ 1 ≤ p.doms.length ∧ DmG p.doms ∧ MkG p.doms ms ∧
  ∀ w H', SrcAt H' d cs → Rn d cs H H' → (w = .non ∨ ∃ q, DdH H' w q ∧ DdG p.doms q ∧ isWd q.1 ∧ canB (ms.getD q.2.1.toNat []) (some q.1) q.2.2 = true) → Q w H'
def spLMarked : Sp := fun vs H Q _ => ∃ (m x : V) (ms : List (List Int)) (q : Dd), vs = [m, x] ∧ RowsH H m ms ∧ DdH H x q ∧ 0 ≤ q.2.1 ∧ q.2.1 < ms.length ∧ ms.length ≤ 1000 ∧ (ms.getD q.2.1.toNat []).length ≤ 1000 ∧ (ms.getD q.2.1.toNat []).Pairwise (· < ·) ∧ (isWd q.1 ∧ canB (ms.getD q.2.1.toNat []) (some q.1) q.2.2 = true) ∧ ∀ w H', Same H H' → RowsH H' w (mrk ms q) → Q w H'
theorem listOfK (K : PySem.W.Frag) {X : Cx} (h : X.K = K := by rfl) : CallR X (.type "list") (fun xs H Q => ∃ p ys, xs = [V.ref p] ∧ (SqL K H p ys ∨ SqT K H p ys) ∧ ∀ l, H l = none → Q (.ref l) (upd H l (.lst ys))) := h ▸ call_list_of
def LI1 (H : Hp) (x : V) (ns : List Int) : Prop := ∃ a, x = .ref a ∧ H a = some (.lst (ns.map V.int))
theorem li_out {H : Hp} {a : Addr} {o : HO} : ∀ {vs : List V} {rows : List (List Int)}, Paired (LI1 H) vs rows → V.ref a ∉ vs → Paired (LI1 (upd H a o)) vs rows
  | _, _, .nil, _ => .nil
  | _, _, .cons ⟨b, e, h⟩ t, n => .cons ⟨b, e, by rw [upd_ne fun z => n (by rw [e, z]; exact List.mem_cons_self)]; exact h⟩ (li_out t fun z => n (List.mem_cons_of_mem _ z))
theorem li_upd {H : Hp} {a : Addr} {r : List Int} : ∀ {vs : List V} {rows : List (List Int)} (c : Nat), Paired (LI1 H) vs rows → vs.Nodup → vs[c]? = some (.ref a) → Paired (LI1 (upd H a (.lst (r.map V.int)))) vs (rows.set c r)
  | _, _, _, .nil, _, h => by simp at h
  | _, _, 0, .cons _ t, nd, h => by
    cases h
    exact .cons ⟨a, rfl, upd_same⟩ (li_out t (List.nodup_cons.mp nd).1)
  | _, _, c + 1, .cons ⟨b, e, q⟩ t, nd, h => by
    rw [List.getElem?_cons_succ] at h
    have hm := List.mem_of_getElem? h
    refine .cons ⟨b, e, ?_⟩ (li_upd c t (List.nodup_cons.mp nd).2 h)
    rw [upd_ne fun z => (List.nodup_cons.mp nd).1 (by rw [e, z]; exact hm)]
    exact q
theorem paired_set {α β : Type} {R : α → β → Prop} {x : α} {y : β} (g : R x y) : ∀ {xs : List α} {ys : List β} (c : Nat), Paired R xs ys → Paired R (xs.set c x) (ys.set c y)
  | _, _, _, .nil => .nil
  | _, _, 0, .cons _ t => .cons g t
  | _, _, c + 1, .cons h t => .cons h (paired_set g c t)
theorem erase_is {row : List Int} (inc : row.Pairwise (· < ·)) : ∀ {j : Nat} {v : Int}, row[j]? = some v → row.eraseIdx j = row.filter fun x => decide (x ≠ v) := by
  induction row with
  | nil => intro j v h; simp at h
  | cons a row ih =>
    obtain ⟨i1, i2⟩ := List.pairwise_cons.mp inc
    intro j v h
    cases j with
    | zero =>
      cases h
      rw [List.eraseIdx_zero, List.tail_cons, List.filter_cons_of_neg (by simp), List.filter_eq_self.mpr fun x hx => by
        have := i1 x hx
        exact decide_eq_true (by omega)]
    | succ j =>
      have h : row[j]? = some v := h
      have := i1 v (List.mem_of_getElem? h)
      rw [List.eraseIdx_cons_succ, ih i2 h, List.filter_cons_of_pos (by exact decide_eq_true (by omega))]
theorem at_once {row : List Int} (inc : row.Pairwise (· < ·)) {j m : Nat} {v : Int} (h : row[j]? = some v) (hm : m < j) : row[m]? ≠ some v := fun g => by
  obtain ⟨l1, e1⟩ := List.getElem?_eq_some_iff.mp h
  obtain ⟨l2, e2⟩ := List.getElem?_eq_some_iff.mp g
  have := List.pairwise_iff_getElem.mp inc m j l2 l1 hm
  omega
section
variable {P : Program} {w : World} {K : PySem.W.Frag} {mg : Str → Option Value} {base : Heap} {f fPi : Addr} {fd dPi : FuncData}
theorem ok_drawDeed (B : Bl mg) (D : Df K mg "_law_draw_deed" sLDrawDeed ["_law_source", "_law_puzzle", "_law_marks"] f fd) (FPi : Fn P w K mg base "_law_pick" sPick ["_law_source", "_law_most"] 1 spPick fPi dPi) : FnOk P w K mg base CX0 3 f fd ["_law_source", "_law_puzzle", "_law_marks"] spDrawDeed := by
  refine D.F.ok scLDrawDeed (fun vs H Q E h => ?_) (fun cdv A outer s H vs Q E hr h => ?_)
  · obtain ⟨d, cs, u, m, p, ms, rfl, _⟩ := h
    rfl
  · obtain ⟨d, cs, u, m, p, ms, rfl, hs, hp, hm, n1, dg, mk, k⟩ := h
    have hu := hr.units
    refine ⟨_, (pss_cons (ps_for PassesOwn.never rfl (pi_range1 (by rfl) B.range (pa_cons pe_int pa_nil)) (pg_name (i := 3) scLDrawDeed.nd rfl (by first | exact .inl rfl | exact .inr rfl)) (pss_cons (ps_set (i := 4) scLDrawDeed.nd rfl (by first | exact .inl rfl | exact .inr rfl) (pe_call FPi.G (hr.mono (by decide)) (by rfl) FPi.D.g FPi.D.F.kp FPi.D.b .nil pass0 (pa_cons (pv 0) (pa_cons (pe_callB (lenK K) (by rfl) B.len PySem.boot_len (pa_cons (pe_ix ix_tup (pv 1) pe_int (fun _ _ => rfl)) pa_nil)) pa_nil))))
      (pss_one (ps_if (pt_cmpR (neDD K hu) (pe_ix (ixT K) (pe_ix ix_tup (pv 1) pe_int (fun _ _ => rfl)) (pv 4) (fun _ _ => rfl)) (pe_tup pa_nil) (nomark _)) (pss_cons (ps_par (i := 5) (j := 6) rfl scLDrawDeed.nd rfl rfl (by decide) rfl rfl (pa_cons (pe_ix (ixT K) (pe_ix (ixT K) (pe_ix ix_tup (pv 1) pe_int (fun _ _ => rfl)) (pv 4) (fun _ _ => rfl)) (pe_call FPi.G (hr.mono (by decide)) (by rfl) FPi.D.g FPi.D.F.kp FPi.D.b .nil pass0 (pa_cons (pv 0) (pa_cons (pe_callB (lenK K) (by rfl) B.len PySem.boot_len (pa_cons (pe_ix (ixT K) (pe_ix ix_tup (pv 1) pe_int (fun _ _ => rfl)) (pv 4) (fun _ _ => rfl)) pa_nil)) pa_nil))) (fun _ _ => rfl)) (pa_cons (pe_ix ix_list (pe_lst (pa_cons pe_str (pa_cons pe_str (pa_cons pe_str (pa_cons pe_str pa_nil))))) (pe_call FPi.G (hr.mono (by decide)) (by rfl) FPi.D.g FPi.D.F.kp FPi.D.b .nil pass0 (pa_cons (pv 0) (pa_cons pe_int pa_nil))) (fun _ _ => rfl)) pa_nil)) (by rfl))
      (pss_one (ps_if (pw_or (pw_and (pt_cmpR op_eq (pv 6) pe_str (nomark _)) (pw_and1 (pt_cmpR (neDD K hu) (pe_ix (ixT K) (pv 2) (pv 4) (fun _ _ => rfl)) (pe_tup (pa_cons (pv 5) pa_nil)) (nomark _)))).pt (pw_or1 (pw_and (pt_cmpR op_ne (pv 6) pe_str (nomark _)) (pw_and1 (pt_cmpR op_eq (pe_cmpR (inDD K hu) (pv 5) (pe_ix (ixT K) (pv 2) (pv 4) (fun _ _ => rfl)) (by rfl)) (pe_cmpR op_eq (pv 6) pe_str (nomark _)) (nomark _)))).pt)).pt (pss_one (ps_ret (pe_tup (pa_cons (pv 6) (pa_cons (pv 4) (pa_cons (pv 5) pa_nil)))))) pss_nil))) pss_nil))))
      (pss_one (ps_ret pe_non))), ?_⟩
    refine ⟨12, rfl, by decide, by decide, ?_⟩
    obtain ⟨a, y, z, rfl, ha, hy, hz⟩ := id hp
    obtain ⟨ya, yvs, rfl, hya, py⟩ := id hy
    have yl := py.length
    refine for_it (walk_range (lo := 0) (n := 12)) (fun i σ H' => ∃ o3 o4 o5 o6, σ = [some (.ref d), some (.ref a), some m, o3, o4, o5, o6] ∧ SrcAt H' d cs ∧ Rn d cs H H') ⟨_, _, _, _, rfl, hs, Rn.refl _ _ _⟩ (fun i σ H' _ h => trivial) (fun i x σ H' H'' hi h y => ?_) (fun σ H' h => ?_)
    · obtain ⟨o3, o4, o5, o6, rfl, hs', rn⟩ := h
      obtain ⟨rfl, rfl⟩ := y
      have k0 := Rn.kt hs rn
      refine ⟨_, rfl, _, rfl, a, _, 0, _, rfl, rfl, sqt (k0 _ _ ha), rfl, ya, _, rfl, .inr (sqt (k0 _ _ hya)), d, cs, _, rfl, hs', by rw [yl]; have := dg.n8; omega, fun r H1 r0 r1 hs1 rn1 => ?_⟩
      have rn01 := rn.trans rn1
      have k1 := Rn.kt hs rn01
      have rb : 0 ≤ r ∧ r < p.doms.length := by
        rw [yl] at r0 r1
        by_cases h2 : ((p.doms.length : Nat) : Int) < 2
        · have := r0 h2
          omega
        · exact r1 (by omega)
      obtain ⟨ya', yvs', xd, e3, hya', _, hxd, idx⟩ := row_at hy rb.1 rb.2
      cases e3
      obtain rfl : yvs = yvs' := by
        rw [hya] at hya'
        cases hya'
        rfl
      obtain ⟨da, rfl, hda⟩ := idx
      have dl := getD_le (fun e he => (dg.l4 e he).1) r.toNat
      generalize hrow : p.doms.getD r.toNat [] = row at hda dl
      refine ⟨_, rfl, a, _, 0, _, rfl, rfl, sqt (k1 _ _ ha), rfl, _, rfl, ya, yvs, r, .ref da, rfl, rfl, sqt (k1 _ _ hya), hxd, by decide, fun T hT => ?_⟩
      have sT := same_new (o := .tup []) hT
      have hda1 := sT _ _ (k1 _ _ hda)
      refine ⟨dI row, dI [], IH.dp ⟨da, rfl, hda1⟩, IH.dp ⟨T, rfl, upd_same⟩, cmp_dI _, cmp_dI _, ?_⟩
      rw [eqv_dI]
      have hsT := hs1.same sT
      have rnT := rn01.trans (rn_same sT)
      generalize upd H1 T (.tup []) = H2 at sT hda1 hsT rnT
      have k2 := Rn.kt hs rnT
      by_cases e0 : row = []
      · refine ⟨_, rfl, ifF (by rw [decide_eq_true e0]; rfl) ⟨_, _, _, _, rfl, hsT, rnT⟩⟩
      refine ⟨_, rfl, ifT (by rw [decide_eq_false e0]; rfl) ?_⟩
      have rl : 0 < row.length := List.length_pos_iff.mpr e0
      refine ⟨_, rfl, a, _, 0, _, rfl, rfl, sqt (k2 _ _ ha), rfl, _, rfl, ya, yvs, r, .ref da, rfl, rfl, sqt (k2 _ _ hya), hxd, _, rfl, _, rfl, a, _, 0, _, rfl, rfl, sqt (k2 _ _ ha), rfl, _, rfl, ya, yvs, r, .ref da, rfl, rfl, sqt (k2 _ _ hya), hxd, da, _, rfl, .inr (sqt hda1), d, cs, _, rfl, hsT, by rw [List.length_map]; omega, fun r2 H3 q0 q1 hs3 rn3 => ?_⟩
      rw [List.length_map] at q0 q1
      have rb2 : 0 ≤ r2 ∧ r2 < row.length := by
        by_cases h2 : ((row.length : Nat) : Int) < 2
        · have := q0 h2
          omega
        · exact q1 (by omega)
      have rnT3 := rnT.trans rn3
      have l2 : r2.toNat < row.length := by omega
      have hv : row[r2.toNat]? = some (row[r2.toNat]'l2) := List.getElem?_eq_getElem l2
      generalize row[r2.toNat]'l2 = v at hv
      have hat : atI (row.map V.int) r2 = some (.int v) := by
        have := L2.atI_nat (xs := row.map V.int) (show (row.map V.int)[r2.toNat]? = some (.int v) from by rw [List.getElem?_map, hv]; rfl)
        rwa [Int.toNat_of_nonneg rb2.1] at this
      refine ⟨da, _, r2, .int v, rfl, rfl, sqt ((Rn.kt hs rnT3) _ _ (hda)), hat, (show 4 ≤ sizeLine by decide), fun L hL => ?_⟩
      have sL := same_new (o := .lst [.str "strike", .str "strike", .str "raise", .str "set"]) hL
      have hsL := hs3.same sL
      have rnL := rnT3.trans (rn_same sL)
      have hLL : upd H3 L (.lst [.str "strike", .str "strike", .str "raise", .str "set"]) L = some (.lst [.str "strike", .str "strike", .str "raise", .str "set"]) := upd_same
      have nL := hs3.none hL
      refine ⟨_, rfl, d, cs, _, rfl, hsL, by decide, fun r3 H4 _ q3 hs4 rn4 => ?_⟩
      have rb3 := q3 (by decide)
      have rn04 := rnL.trans rn4
      have k4 := Rn.kt hs rn04
      have hL4 := rn4 _ _ nL.1 nL.2 hLL
      have hwd : ∃ wd : Str, isWd wd ∧ atI [V.str "strike", V.str "strike", V.str "raise", V.str "set"] r3 = some (.str wd) := by
        rcases (by omega : r3 = 0 ∨ r3 = 1 ∨ r3 = 2 ∨ r3 = 3) with rfl | rfl | rfl | rfl
        · exact ⟨_, .inl rfl, rfl⟩
        · exact ⟨_, .inl rfl, rfl⟩
        · exact ⟨_, .inr (.inl rfl), rfl⟩
        · exact ⟨_, .inr (.inr rfl), rfl⟩
      obtain ⟨wd, iw, hwat⟩ := hwd
      refine ⟨L, _, r3, .str wd, rfl, rfl, sql hL4, hwat, ?_⟩
      have vm : v ∈ row := List.mem_of_getElem? hv
      have dq : DdG p.doms (wd, r, v) := ⟨rb.1, rb.2, by rw [hrow]; exact vm⟩
      have rbm : r < (ms.length : Int) := by rw [mk.len]; exact rb.2
      obtain ⟨ma, mvs, mx, rfl, hma, _, hmx, mix⟩ := row_at (hm.kt k4) rb.1 rbm
      generalize hmr : ms.getD r.toNat [] = mrow at mix
      have fin : ∀ H5, SrcAt H5 d cs → Rn d cs H H5 → canB mrow (some wd) v = true → ∀ T, H5 T = none → Q (.ref T) (upd H5 T (.tup [.str wd, .int r, .int v])) := fun H5 h5 n5 cb T hT => by
        have s5 := same_new (o := .tup [.str wd, .int r, .int v]) hT
        exact k _ _ (h5.same s5) (n5.trans (rn_same s5)) (.inr ⟨(wd, r, v), ⟨T, rfl, upd_same⟩, dq, iw, by rw [show ms.getD (((wd, r, v) : Dd).2.1).toNat [] = mrow from hmr]; exact cb⟩)
      refine ⟨_, _, rfl, ?_⟩
      rcases iw with rfl | rfl | rfl
      · refine ⟨_, rfl, rfl, _, rfl, ifF (by decide +kernel) ⟨_, rfl, rfl, _, rfl, ifT (by decide +kernel) ⟨_, rfl, _, rfl, _, rfl, ma, mvs, r, mx, rfl, rfl, sqt hma, hmx, .int v, _, .int v, .inl mix.dp, cmp_int v, canAll_ints _, ?_⟩⟩⟩
        rw [GX.any_ints]
        refine ⟨_, rfl, rfl, rfl, _, rfl, ?_⟩
        by_cases e1 : v ∈ mrow
        · refine ifT (by rw [decide_eq_true e1]; decide +kernel) ⟨_, rfl, _, rfl, _, rfl, (show 3 ≤ sizeLine by decide), fun U hU => fin _ hs4 rn04 ?_ U hU⟩
          unfold canB
          rw [if_pos rfl]
          exact decide_eq_true e1
        · exact ifF (by rw [decide_eq_false e1]; decide +kernel) ⟨_, _, _, _, rfl, hs4, rn04⟩
      · refine ⟨_, rfl, rfl, _, rfl, ifF (by decide +kernel) ⟨_, rfl, rfl, _, rfl, ifT (by decide +kernel) ⟨_, rfl, _, rfl, _, rfl, ma, mvs, r, mx, rfl, rfl, sqt hma, hmx, .int v, _, .int v, .inl mix.dp, cmp_int v, canAll_ints _, ?_⟩⟩⟩
        rw [GX.any_ints]
        refine ⟨_, rfl, rfl, rfl, _, rfl, ?_⟩
        by_cases e1 : v ∈ mrow
        · exact ifF (by rw [decide_eq_true e1]; decide +kernel) ⟨_, _, _, _, rfl, hs4, rn04⟩
        · refine ifT (by rw [decide_eq_false e1]; decide +kernel) ⟨_, rfl, _, rfl, _, rfl, (show 3 ≤ sizeLine by decide), fun U hU => fin _ hs4 rn04 ?_ U hU⟩
          unfold canB
          rw [if_neg (by decide +kernel), if_pos rfl, decide_eq_false e1]
          rfl
      · refine ⟨_, rfl, rfl, _, rfl, ifT (by decide +kernel) ⟨_, rfl, _, rfl, ma, mvs, r, mx, rfl, rfl, sqt hma, hmx, _, rfl, (show 1 ≤ sizeLine by decide), fun T hT => ?_⟩⟩
        have sT := same_new (o := .tup [.int v]) hT
        refine ⟨dI mrow, dI [v], (mix.kt (kt_same sT)).dp, IH.dp ⟨T, rfl, upd_same⟩, cmp_dI _, cmp_dI _, ?_⟩
        rw [eqv_dI]
        refine ⟨_, rfl, ?_⟩
        by_cases e1 : mrow = [v]
        · exact ifF (by rw [decide_eq_true e1]; rfl) ⟨_, rfl, rfl, _, rfl, ifF (by decide +kernel) (ifF rfl ⟨_, _, _, _, rfl, hs4.same sT, rn04.trans (rn_same sT)⟩)⟩
        · refine ifT (by rw [decide_eq_false e1]; rfl) ⟨_, rfl, _, rfl, _, rfl, (show 3 ≤ sizeLine by decide), fun U hU => fin _ (hs4.same sT) (rn04.trans (rn_same sT)) ?_ U hU⟩
          unfold canB
          rw [if_neg (by decide +kernel), if_neg (by decide +kernel), decide_eq_false e1]
          decide +kernel
    · obtain ⟨o3, o4, o5, o6, rfl, hs', rn⟩ := h
      exact k _ _ hs' rn (.inl rfl)
theorem ok_lMarked (B : Bl mg) (D : Df K mg "_law_marked" sLMarked ["_law_marks", "_law_deed"] f fd) : FnOk P w K mg base CX0 1 f fd ["_law_marks", "_law_deed"] spLMarked := by
  refine D.F.ok scLMarked (fun vs H Q E h => ?_) (fun cdv A outer s H vs Q E hr h => ?_)
  · obtain ⟨m, x, ms, q, rfl, _⟩ := h
    rfl
  · obtain ⟨m, x, ms, ⟨wd, c, v⟩, rfl, hm, hx, c0, c1, ml, dl, inc, can, k⟩ := h
    dsimp only at c0 c1 dl inc can
    have hu := hr.units
    refine ⟨_, (pss_cons (ps_setLc (i := 2) (own := [("_law_lot", 3)]) rfl scLMarked.nd rfl rfl (sw_true rfl rfl rfl (by decide +kernel)) (pi_tup (pv 0)) (blkOk_by (N := ["_law_marks", "_law_deed", "_law_found", "_law_lot"]) (sc := defScope sLMarked) (by decide +kernel)) (fun _ _ _ _ _ => (pg_name (i := 3) scLMarked.nd rfl (by first | exact .inl rfl | exact .inr rfl))) (fun _ _ _ _ _ => pts_nil) (fun _ _ _ _ _ => (pe_callTy (listOfK K) (by rfl) B.list PyProof.Rows.boot_list (pa_cons (pv 3) pa_nil))))
      (pss_cons (ps_if (pt_cmpR op_eq (pe_ix (ixT K) (pv 1) pe_int (fun _ _ => rfl)) pe_str (nomark _)) (pss_one (ps_expr (show PE _ _ (tBM K "list" rRemI _ _) from pe_bm PySem.F.plainAttrs_list PySem.F.slot_list_remove PySem.F.type_list_remove mt_remove (pe_ix ix_list (pv 2) (pe_ix (ixT K) (pv 1) pe_int (fun _ _ => rfl)) (fun _ _ => rfl)) (pa_cons (pe_ix (ixT K) (pv 1) pe_int (fun _ _ => rfl)) pa_nil)))) (pss_one (ps_asg (pe_ifExp (pt_cmpR op_eq (pe_ix (ixT K) (pv 1) pe_int (fun _ _ => rfl)) pe_str (nomark _)) (pe_lst (pa_cons (pe_ix (ixT K) (pv 1) pe_int (fun _ _ => rfl)) pa_nil)) (pe_callB (sortedIK K) (by rfl) B.sorted PyProof.Rows.boot_sorted (pa_cons (pe_op op_cat (pe_ix ix_list (pv 2) (pe_ix (ixT K) (pv 1) pe_int (fun _ _ => rfl)) (fun _ _ => rfl)) (pe_lst (pa_cons (pe_ix (ixT K) (pv 1) pe_int (fun _ _ => rfl)) pa_nil))) pa_nil))) (pg_sub (pv 2) (pe_ix (ixT K) (pv 1) pe_int (fun _ _ => rfl)) set_list))))
      (pss_one (ps_ret (pe_callTy (tupleOf K) (by rfl) B.tuple PyProof.Rows.boot_tuple (pa_cons (pe_lc (own := [("_law_lot", 3)]) rfl scLMarked.nd (pi_list (pv 2)) (blkOk_by (N := ["_law_marks", "_law_deed", "_law_found", "_law_lot"]) (sc := defScope sLMarked) (by decide +kernel)) (fun _ _ _ _ _ => (pg_name (i := 3) scLMarked.nd rfl (by first | exact .inl rfl | exact .inr rfl))) (fun _ _ _ _ _ => pts_nil) (fun _ _ _ _ _ => (pe_callTy (tupleOf K) (by rfl) B.tuple PyProof.Rows.boot_tuple (pa_cons (pv 3) pa_nil)))) pa_nil)))))), ?_⟩
    obtain ⟨xa, rfl, hxa⟩ := hx
    obtain ⟨ma, mvs, rfl, hma, pm⟩ := id hm
    have pml := pm.length
    refine ⟨_, rfl, ma, rfl, ⟨_, sqt hma⟩, fun L hL => ?_⟩
    have nLm : ma ≠ L := ne_of_none hma hL
    refine lc_it (walk_tup (xs := mvs)) (fun i H' => ∃ vs, H' L = some (.lst vs) ∧ Paired (LI1 H') vs (ms.take i) ∧ vs.Nodup ∧ V.ref L ∉ vs ∧ (∀ b, V.ref b ∈ vs → H b = none) ∧ Same H H') ⟨[], upd_same, .nil, List.nodup_nil, by simp, by simp, same_new hL⟩ (fun i H' _ h => ?_) (fun i x H' H'' hi h y => ?_) (fun H' h => ?_)
    · obtain ⟨vs, _, _, _, _, _, s⟩ := h
      exact sqt (s _ _ hma)
    · obtain ⟨rfl, hx⟩ := y
      obtain ⟨vs, hLv, pv, nd, nL, nF, s⟩ := h
      have pvl := pv.length
      obtain ⟨row, hrow, a, rfl, ha⟩ := paired_at pm hx
      refine ⟨rfl, _, rfl, a, _, rfl, .inr (sqt (s _ _ ha)), fun U hU => ?_⟩
      have nUL : L ≠ U := ne_of_none hLv hU
      have sU := same_new (o := .lst (row.map V.int)) hU
      have nU : V.ref U ∉ vs := fun z => by
        obtain ⟨j, hj⟩ := List.getElem?_of_mem z
        obtain ⟨_, _, b, e, hb⟩ := paired_at pv hj
        cases e
        rw [hU] at hb
        cases hb
      refine ⟨vs, sU _ _ hLv, by rw [pvl, List.length_take, sizeLine_eq]; omega, vs ++ [.ref U], upd_same, ?_, ?_, ?_, ?_, ?_⟩
      · rw [List.take_add_one, hrow]
        refine paired_app ?_ (.cons ⟨U, rfl, by rw [upd_ne nUL.symm, upd_same]⟩ .nil)
        exact li_out (li_out pv nU) nL
      · rw [List.nodup_append]
        exact ⟨nd, List.nodup_cons.mpr ⟨by simp, List.nodup_nil⟩, fun x hx y hy => by rw [List.mem_singleton.mp hy]; exact fun z => nU (z ▸ hx)⟩
      · rw [List.mem_append, List.mem_singleton]
        rintro (z | z)
        · exact nL z
        · exact nUL (V.ref.inj z)
      · intro b hb
        rcases List.mem_append.mp hb with z | z
        · exact nF b z
        · cases List.mem_singleton.mp z
          exact none_same s hU
      · intro b o e
        have e1 := sU _ _ (s _ _ e)
        rw [upd_ne fun z => by rw [z, hL] at e; cases e]
        exact e1
    · obtain ⟨vs, hLv, pv, nd, nL, nF, s⟩ := h
      rw [pml, List.take_length] at pv
      have pvl := pv.length
      have cl : c.toNat < ms.length := by omega
      have hrow : ms[c.toNat]? = some (ms.getD c.toNat []) := by rw [List.getD_eq_getElem?_getD, List.getElem?_eq_getElem cl]; rfl
      obtain ⟨lv, hlv, la, rfl, hla⟩ := paired_at' pv hrow
      generalize hd : ms.getD c.toNat [] = row at *
      have hix : ixN vs.length c = some c.toNat := by
        unfold ixN
        rw [if_pos c0, if_pos (by rw [pvl]; exact c1)]
      have hat : atI vs c = some (.ref la) := by
        unfold atI
        rw [hix]
        exact hlv
      have hxa' := s _ _ hxa
      refine ⟨_, rfl, xa, _, 0, _, rfl, rfl, sqt hxa', rfl, rfl, _, rfl, ?_⟩
      have em : mrk ms (wd, c, v) = ms.set c.toNat (nrow wd v row) := by unfold mrk; dsimp only; rw [hd]
      apply dupH (F := fun H2 => ∃ vs2, H2 L = some (.lst vs2) ∧ Paired (LI1 H2) vs2 (mrk ms (wd, c, v)) ∧ Same H H2)
      · intro rest
        by_cases e1 : wd = "strike"
        · refine ifT (decide_eq_true (congrArg V.str e1)) ?_
          have vm : v ∈ row := by
            have := can.2
            unfold canB at this
            rw [if_pos (congrArg some e1)] at this
            exact of_decide_eq_true this
          obtain ⟨j, hj⟩ := List.getElem?_of_mem vm
          refine ⟨_, rfl, _, rfl, xa, _, 1, _, rfl, rfl, sqt hxa', rfl, L, vs, c, .ref la, rfl, rfl, sql hLv, hat, .inl ⟨rfl, _, sql hla⟩, _, rfl, xa, _, 2, _, rfl, rfl, sqt hxa', rfl, la, row, v, j, rfl, rfl, hla, hj, fun m hm => at_once inc hj hm, ?_⟩
          have en : row.eraseIdx j = nrow wd v row := by
            unfold nrow
            rw [if_pos e1]
            exact erase_is inc hj
          rw [en]
          have nla : L ≠ la := fun z => nL (by rw [z]; exact List.mem_of_getElem? hlv)
          have fact : ∃ vs2, upd H' la (.lst ((nrow wd v row).map V.int)) L = some (.lst vs2) ∧ Paired (LI1 (upd H' la (.lst ((nrow wd v row).map V.int)))) vs2 (mrk ms (wd, c, v)) ∧ Same H (upd H' la (.lst ((nrow wd v row).map V.int))) := by
            refine ⟨vs, by rw [upd_ne nla]; exact hLv, by rw [em]; exact li_upd _ pv nd hlv, fun b o e => ?_⟩
            rw [upd_ne fun z => by rw [z, nF la (List.mem_of_getElem? hlv)] at e; cases e]
            exact s _ _ e
          generalize upd H' la (.lst ((nrow wd v row).map V.int)) = H2 at fact ⊢
          exact rest _ fact
        · refine ifF (decide_eq_false fun z => e1 (V.str.inj z)) ?_
          have fin2 : ∀ (H5 : Hp) (U : Addr), Same H' H5 → H5 U = some (.lst ((nrow wd v row).map V.int)) → U ≠ L → ∃ vs2, upd H5 L (.lst (vs.set c.toNat (.ref U))) L = some (.lst vs2) ∧ Paired (LI1 (upd H5 L (.lst (vs.set c.toNat (.ref U))))) vs2 (mrk ms (wd, c, v)) ∧ Same H (upd H5 L (.lst (vs.set c.toNat (.ref U)))) := fun H5 U s5 h5 nU => by
            refine ⟨_, upd_same, ?_, fun b o e => ?_⟩
            · rw [em]
              refine li_out (paired_set ⟨U, rfl, h5⟩ _ (paired_mono (fun _ _ ⟨b, e, g⟩ => ⟨b, e, s5 _ _ g⟩) pv)) fun z => ?_
              rcases List.mem_or_eq_of_mem_set z with z | z
              · exact nL z
              · exact nU (V.ref.inj z).symm
            · rw [upd_ne fun z => by rw [z, hL] at e; cases e]
              exact s5 _ _ (s _ _ e)
          by_cases e2 : wd = "set"
          · refine ⟨_, rfl, xa, _, 0, _, rfl, rfl, sqt hxa', rfl, rfl, _, rfl, ifT (decide_eq_true (congrArg V.str e2)) ⟨_, rfl, xa, _, 2, _, rfl, rfl, sqt hxa', rfl, (show 1 ≤ sizeLine by decide), fun U hU => ?_⟩⟩
            have sU := same_new (o := .lst [.int v]) hU
            refine ⟨_, rfl, _, rfl, xa, _, 1, _, rfl, rfl, sqt (sU _ _ hxa'), rfl, L, vs, c, c.toNat, rfl, rfl, sU _ _ hLv, hix, ?_⟩
            have fact := fin2 _ U sU (by rw [upd_same]; unfold nrow; rw [if_neg e1, if_pos e2]; rfl) (ne_of_none hLv hU).symm
            generalize upd (upd H' U (.lst [.int v])) L (.lst (vs.set c.toNat (.ref U))) = H2 at fact ⊢
            exact rest _ fact
          · refine ⟨_, rfl, xa, _, 0, _, rfl, rfl, sqt hxa', rfl, rfl, _, rfl, ifF (decide_eq_false fun z => e2 (V.str.inj z)) ⟨_, rfl, _, rfl, xa, _, 1, _, rfl, rfl, sqt hxa', rfl, L, vs, c, .ref la, rfl, rfl, sql hLv, hat, _, rfl, xa, _, 2, _, rfl, rfl, sqt hxa', rfl, (show 1 ≤ sizeLine by decide), fun T hT => ?_⟩⟩
            have sT := same_new (o := .lst [.int v]) hT
            refine ⟨la, T, row.map V.int, [.int v], rfl, rfl, sT _ _ hla, upd_same, by rw [List.length_map, List.length_singleton, sizeLine_eq]; omega, fun S hS => ?_⟩
            have sS := Same.tr sT (same_new (o := .lst (row.map V.int ++ [.int v])) hS)
            have hS2 : upd (upd H' T (.lst [.int v])) S (.lst (row.map V.int ++ [.int v])) S = some (.lst ((row ++ [v]).map V.int)) := by rw [upd_same, List.map_append]; rfl
            generalize upd (upd H' T (.lst [.int v])) S (.lst (row.map V.int ++ [.int v])) = H4 at sS hS2 ⊢
            refine ⟨S, row ++ [v], rfl, sql hS2, fun e' U pe le hU => ?_⟩
            have vn : v ∉ row := by
              have := can.2
              unfold canB at this
              rcases can.1 with z | z | z
              · exact absurd z e1
              · rw [if_neg fun z => e1 (Option.some.inj z), if_pos (congrArg some z)] at this
                simpa using this
              · exact absurd z e2
            have en : e' = nrow wd v row := by
              refine srt_one (pe.trans ?_) le (nrow_inc inc)
              unfold nrow
              rw [if_neg e1, if_neg e2]
              have := ins_perm v row
              have ef : row.filter (fun x => decide (x ≠ v)) = row := List.filter_eq_self.mpr fun x hx => decide_eq_true fun (z : x = v) => vn (by rw [← z]; exact hx)
              rw [ef] at this
              exact this.symm
            subst en
            have sU := Same.tr sS (same_new (o := .lst ((nrow wd v row).map V.int)) hU)
            refine ⟨_, rfl, _, rfl, xa, _, 1, _, rfl, rfl, sqt (sU _ _ hxa'), rfl, L, vs, c, c.toNat, rfl, rfl, sU _ _ hLv, hix, ?_⟩
            have fact := fin2 _ U sU upd_same (ne_of_none (sS _ _ hLv) hU).symm
            generalize upd (upd H4 U (.lst ((nrow wd v row).map V.int))) L (.lst (vs.set c.toNat (.ref U))) = H2 at fact ⊢
            exact rest _ fact
      · rintro H2 ⟨vs2, hL2, p2, s2⟩
        have pl2 := p2.length
        refine ⟨_, rfl, L, rfl, ⟨_, sql hL2⟩, fun R hR => ?_⟩
        refine lc_it (walk_list (K := K) (a := L) (xs := vs2)) (fun i H' => ∃ acc, H' R = some (.lst acc) ∧ Paired (IH H') acc ((mrk ms (wd, c, v)).take i) ∧ Same H2 H') ⟨[], upd_same, .nil, same_new hR⟩ (fun i H' _ h => ?_) (fun i x H' H'' hi h y => ?_) (fun H' h => ?_)
        · obtain ⟨_, _, _, s3⟩ := h
          exact sql (s3 _ _ hL2)
        · obtain ⟨rfl, hx⟩ := y
          obtain ⟨acc, hR3, pa, s3⟩ := h
          have al := pa.length
          obtain ⟨r, hr, a, rfl, ha⟩ := paired_at p2 hx
          have ml2 : (mrk ms (wd, c, v)).length = ms.length := by rw [em, List.length_set]
          refine ⟨rfl, _, rfl, a, _, rfl, .inl ⟨sql (s3 _ _ ha), fun T hT => ?_⟩⟩
          have sT := same_new (o := .tup (r.map V.int)) hT
          have nT : R ≠ T := ne_of_none hR3 hT
          refine ⟨acc, sT _ _ hR3, by rw [al, List.length_take, sizeLine_eq]; omega, acc ++ [.ref T], upd_same, ?_, fun b o e => ?_⟩
          · rw [List.take_add_one, hr]
            have kt : Kt H'' (upd (upd H'' T (.tup (r.map V.int))) R (.lst (acc ++ [.ref T]))) := fun b xs e => by
              rw [upd_ne fun z => by rw [z, hR3] at e; cases e]
              exact sT _ _ e
            exact paired_app (paired_mono (fun _ _ => IH.kt kt) pa) (.cons ⟨T, rfl, by rw [upd_ne nT.symm, upd_same]⟩ .nil)
          · rw [upd_ne fun z => by rw [z, hR] at e; cases e]
            exact sT _ _ (s3 _ _ e)
        · obtain ⟨acc, hR3, pa, s3⟩ := h
          have ml2 : vs2.length = (mrk ms (wd, c, v)).length := pl2
          rw [ml2, List.take_length] at pa
          refine ⟨R, acc, rfl, .inl ⟨sql hR3, fun T hT => ?_⟩⟩
          have sT := same_new (o := .tup acc) hT
          exact k _ _ (Same.tr s2 (Same.tr s3 sT)) ⟨T, acc, rfl, upd_same, paired_mono (fun _ _ => IH.kt (kt_same sT)) pa⟩
end
end G9

set_option Elab.async false
set_option linter.all false
set_option maxRecDepth 100000
set_option maxHeartbeats 8000000
/-! the law's deeds that are none -/
namespace G9
open PySem PySem.Spec PyProof.Rows L2 GX
theorem OdH.same {K : PySem.W.Frag} {H H' : Hp} {x : V} {p : Puz} {ms : List (List Int)} {r : Bool} (h : OdH K H x p ms r) (s : Same H H') : OdH K H' x p ms r := by
  rcases h with ⟨d, hd, h⟩ | ⟨a, wv, cv, tv, o, dc, dt, e, ha, hw, hc, ht, hr⟩
  · exact .inl ⟨d, dp_same s hd, h⟩
  · exact .inr ⟨a, wv, cv, tv, o, dc, dt, e, s _ _ ha, WdH.same hw s, dp_same s hc, dp_same s ht, hr⟩
section
variable {K : PySem.W.Frag} {p : Puz} {ms : List (List Int)} {σ : L2.St} {H0 : Hp}
def Ev (K : PySem.W.Frag) (p : Puz) (ms : List (List Int)) (σ : L2.St) (H0 : Hp) (te : TE) : Prop := ∀ H, Same H0 H → ∀ Q : VK, (∀ x H1, Same H H1 → OdH K H1 x p ms false → Q x H1) → te σ H Q
def EvA (K : PySem.W.Frag) (p : Puz) (ms : List (List Int)) (σ : L2.St) (H0 : Hp) (n : Nat) (ta : TA) : Prop := ∀ H, Same H0 H → ∀ Q : List V → Hp → Prop, (∀ xs H1, Same H H1 → xs.length = n → (∀ x ∈ xs, OdH K H1 x p ms false) → Q xs H1) → ta σ H Q
theorem evN : EvA K p ms σ H0 0 tNil := fun H _ Q k => k [] H (same_refl H) rfl (by simp)
theorem evC {te : TE} {ta : TA} {n : Nat} (h : Ev K p ms σ H0 te) (g : EvA K p ms σ H0 n ta) : EvA K p ms σ H0 (n + 1) (tCons te ta) := fun H s Q k => h H s _ fun x H1 s1 o => g H1 (Same.tr s s1) _ fun xs H2 s2 l a => k (x :: xs) H2 (Same.tr s1 s2) (by rw [List.length_cons, l]) fun y hy => by
  rcases List.mem_cons.mp hy with rfl | hy
  · exact o.same s2
  · exact a y hy
theorem EvA.use {ta : TA} {n : Nat} (h : EvA K p ms σ H0 n ta) {H : Hp} (s : Same H0 H) {Q : List V → Hp → Prop} (k : ∀ xs H1, Same H H1 → xs.length = n → (∀ x ∈ xs, OdH K H1 x p ms false) → Q xs H1) : ta σ H Q := h H s Q k
theorem EvA.asg {ta : TA} {n : Nat} {g : TG} {rest : TS} {D : Ends} {H : Hp} (h : EvA K p ms σ H0 n ta) (s : Same H0 H) (hn : n ≤ 1000)
    (k : ∀ xs H1 F, Same H H1 → H1 F = some (.lst xs) → xs.length = n → (∀ x ∈ xs, OdH K H1 x p ms false) → g (.ref F) σ H1 fun σ H => rest D σ H) : tSeq (tAsg (tLst ta) g) rest D σ H := by
  show ta σ H _
  refine h.use s fun xs H1 s1 l o => ⟨by rw [l, sizeLine_eq]; omega, fun F hF => ?_⟩
  have sF := same_new (o := .lst xs) hF
  exact k xs _ F (Same.tr s1 sF) upd_same l fun x hx => (o x hx).same sF
theorem EvA.cat {ta : TA} {n i : Nat} {g : TG} {rest : TS} {D : Ends} {H : Hp} {F0 : Addr} {xs0 : List V} (h : EvA K p ms σ H0 n ta) (s : Same H0 H) (hn : n + xs0.length ≤ 1000) (hi : σ[i]? = some (some (.ref F0))) (hF : H F0 = some (.lst xs0)) (ho : ∀ x ∈ xs0, OdH K H x p ms false)
    (k : ∀ xs H1 F, Same H H1 → H1 F = some (.lst xs) → xs.length = xs0.length + n → (∀ x ∈ xs, OdH K H1 x p ms false) → g (.ref F) σ H1 fun σ H => rest D σ H) : tSeq (tAsg (tOp rCat (tVar i) (tLst ta)) g) rest D σ H := by
  refine ⟨_, hi, ?_⟩
  show ta σ H _
  refine h.use s fun xs H1 s1 l o => ⟨by rw [l, sizeLine_eq]; omega, fun F hF2 => ?_⟩
  have sF := same_new (o := .lst xs) hF2
  refine ⟨F0, F, xs0, xs, rfl, rfl, sF _ _ (s1 _ _ hF), upd_same, by rw [l, sizeLine_eq]; omega, fun G hG => ?_⟩
  have sG := Same.tr sF (same_new (o := .lst (xs0 ++ xs)) hG)
  refine k (xs0 ++ xs) _ G (Same.tr s1 sG) upd_same (by rw [List.length_append, l]) fun x hx => ?_
  rcases List.mem_append.mp hx with hx | hx
  · exact (ho x hx).same (Same.tr s1 sG)
  · exact (o x hx).same sG
/-- data that are no three things in a tuple -/
theorem od_d {H : Hp} {x : V} {d : PyData} (h : Dp K H x d) (e : triD d = false := by rfl) : OdH K H x p ms false := .inl ⟨d, h, e, rfl⟩
theorem od_t {H : Hp} {a : Addr} {wv cv tv : V} {o : Option Str} {dc dt : PyData} (ha : H a = some (.tup [wv, cv, tv])) (hw : WdH K H wv o) (hc : Dp K H cv dc) (ht : Dp K H tv dt) (e : deedB p ms o dc dt = false) : OdH K H (.ref a) p ms false :=
  .inr ⟨a, wv, cv, tv, o, dc, dt, rfl, ha, hw, hc, ht, e.symm⟩
theorem wd_str {H : Hp} {z : Str} (h : (PyData.str z).canLay0 = true := by decide +kernel) : WdH K H (.str z) (some z) := .inl ⟨z, rfl, h, rfl⟩
theorem dB_cell {o : Option Str} {dc dt : PyData} (h : cellD p.doms.length dc = false) : deedB p ms o dc dt = false := by unfold deedB; rw [h]; rfl
theorem dB_val {o : Option Str} {dc dt : PyData} (h : isN dt = false) : deedB p ms o dc dt = false := by unfold deedB; rw [h]; simp
theorem dB_can {o : Option Str} {dc dt : PyData} (h : canB (ms.getD (tI dc).toNat []) o (tI dt) = false) : deedB p ms o dc dt = false := by unfold deedB; rw [h]; simp
theorem dB_dom {o : Option Str} {dc dt : PyData} (h : tI dt ∉ p.doms.getD (tI dc).toNat []) : deedB p ms o dc dt = false := by unfold deedB; rw [decide_eq_false h]; simp
theorem can_none (row : List Int) (v : Int) : canB row none v = false := by
  unfold canB
  rw [if_neg (fun z => by cases z), if_neg (fun z => by cases z)]
  rfl
theorem can_mark (row : List Int) (v : Int) : canB row (some ("mark" : Str)) v = false := by
  unfold canB
  rw [if_neg (by decide +kernel), if_neg (by decide +kernel), show decide ((some ("mark" : Str)) = some ("set" : Str)) = false from by decide +kernel]
  rfl
end
def spNoDeeds (K : PySem.W.Frag) : Sp := fun vs H Q _ => ∃ (u m : V) (p : Puz) (ms : List (List Int)), vs = [u, m] ∧ PzH H u p ∧ RowsH H m ms ∧ DmG p.doms ∧ MkG p.doms ms ∧ (∀ e ∈ p.doms, ∀ v ∈ e, 0 ≤ v ∧ v < 4) ∧
  ∀ l xs H', Same H H' → H' l = some (.lst xs) → (∀ x ∈ xs, OdH K H' x p ms false) → xs.length ≤ 1000 → Q (.ref l) H'
section
variable {P : Program} {w : World} {K : PySem.W.Frag} {mg : Str → Option Value} {base : Heap} {f fPi : Addr} {fd dPi : FuncData}
theorem ok_noDeeds (B : Bl mg) (D : Df K mg "_law_no_deeds" sLNoDeeds ["_law_puzzle", "_law_marks"] f fd) : FnOk P w K mg base CX0 1 f fd ["_law_puzzle", "_law_marks"] (spNoDeeds K) := by
  refine D.F.ok scLNoDeeds (fun vs H Q E h => ?_) (fun cdv A outer s H vs Q E hr h => ?_)
  · obtain ⟨u, m, p, ms, rfl, _⟩ := h
    rfl
  · obtain ⟨u, m, p, ms, rfl, hp, hm, dg, mk, lo, k⟩ := h
    have hu := hr.units
    refine ⟨_, (pss_cons (ps_set (i := 2) scLNoDeeds.nd rfl (by first | exact .inl rfl | exact .inr rfl) (pe_lst (pa_cons pe_non (pa_cons (pe_tup pa_nil) (pa_cons pe_str (pa_cons (pe_tup (pa_cons pe_str pa_nil)) (pa_cons (pe_tup (pa_cons pe_str (pa_cons pe_int pa_nil))) (pa_cons (pe_tup (pa_cons pe_str (pa_cons pe_int (pa_cons pe_int pa_nil)))) (pa_cons (pe_tup (pa_cons pe_str (pa_cons (pe_callB (lenK K) (by rfl) B.len PySem.boot_len (pa_cons (pv 1) pa_nil)) (pa_cons pe_int pa_nil)))) (pa_cons (pe_tup (pa_cons pe_str (pa_cons (pe_op op_sub pe_int pe_int) (pa_cons pe_int pa_nil)))) (pa_cons (pe_lst (pa_cons pe_str (pa_cons pe_int (pa_cons pe_int pa_nil)))) (pa_cons (pe_tup (pa_cons pe_str (pa_cons pe_int (pa_cons pe_int pa_nil)))) pa_nil))))))))))))
      (pss_cons (ps_set (i := 2) scLNoDeeds.nd rfl (by first | exact .inl rfl | exact .inr rfl) (pe_op op_cat (pv 2) (pe_lst (pa_cons (pe_tup (pa_cons pe_str (pa_cons pe_str (pa_cons pe_int pa_nil)))) (pa_cons (pe_tup (pa_cons pe_str (pa_cons pe_int (pa_cons pe_non pa_nil)))) (pa_cons (pe_tup (pa_cons pe_str (pa_cons pe_int (pa_cons pe_int (pa_cons pe_int pa_nil))))) (pa_cons (pe_tup (pa_cons (pe_lst (pa_cons pe_str pa_nil)) (pa_cons pe_int (pa_cons pe_int pa_nil)))) (pa_cons (pe_tup (pa_cons pe_dnewK (pa_cons pe_int (pa_cons pe_int pa_nil)))) (pa_cons (pe_tup (pa_cons pe_str (pa_cons pe_bl (pa_cons pe_int pa_nil)))) (pa_cons (pe_tup (pa_cons pe_str (pa_cons pe_int (pa_cons pe_bl pa_nil)))) pa_nil))))))))))
      (pss_cons (ps_for PassesOwn.never rfl (pi_enumT (by rfl) B.enumerate (pa_cons (pe_ix ix_tup (pv 0) pe_int (fun _ _ => rfl)) pa_nil)) (pg_tupK K (n := 2) rfl (pgs_cons (pg_name (i := 3) scLNoDeeds.nd rfl (by first | exact .inl rfl | exact .inr rfl)) (pgs_cons (pg_name (i := 4) scLNoDeeds.nd rfl (by first | exact .inl rfl | exact .inr rfl)) pgs_nil))) (pss_one (ps_for PassesOwn.never rfl (pi_tup (pv 4)) (pg_name (i := 5) scLNoDeeds.nd rfl (by first | exact .inl rfl | exact .inr rfl)) (pss_cons (ps_set (i := 2) scLNoDeeds.nd rfl (by first | exact .inl rfl | exact .inr rfl) (pe_op op_cat (pv 2) (pe_lst (pa_cons (pe_ifExp (pt_cmpR (inDD K hu) (pv 5) (pe_ix (ixT K) (pv 1) (pv 3) (fun _ _ => rfl)) (by rfl)) (pe_tup (pa_cons pe_str (pa_cons (pv 3) (pa_cons (pv 5) pa_nil)))) (pe_tup (pa_cons pe_str (pa_cons (pv 3) (pa_cons (pv 5) pa_nil))))) pa_nil))))
      (pss_one (ps_set (i := 2) scLNoDeeds.nd rfl (by first | exact .inl rfl | exact .inr rfl) (pe_op op_cat (pv 2) (pe_ifExp (pt_cmpR (eqDD K hu) (pe_ix (ixT K) (pv 1) (pv 3) (fun _ _ => rfl)) (pe_tup (pa_cons (pv 5) pa_nil)) (nomark _)) (pe_lst (pa_cons (pe_tup (pa_cons pe_str (pa_cons (pv 3) (pa_cons (pv 5) pa_nil)))) pa_nil)) (pe_lst pa_nil)))))))))
      (pss_one (ps_ret (pv 2)))))), ?_⟩
    obtain ⟨ma, mvs, rfl, hma, pm⟩ := id hm
    have pml := pm.length
    obtain ⟨a, y, z, rfl, ha, hy, hz⟩ := id hp
    obtain ⟨ya, yvs, rfl, hya, py⟩ := id hy
    have yl := py.length
    have hdom : ∀ (c : Nat) (v : Int), v ∈ p.doms.getD c [] → 0 ≤ v ∧ v < 4 := fun c v h => by
      rw [List.getD_eq_getElem?_getD] at h
      cases e : p.doms[c]? with
      | none => rw [e] at h; cases h
      | some d => rw [e] at h; exact lo d (List.mem_of_getElem? e) v h
    have lenNo : cellD p.doms.length (.int ((mvs.length : Nat) : Int)) = false := by
      show (decide ((0 : Int) ≤ ((mvs.length : Nat) : Int)) && decide (((mvs.length : Nat) : Int) < ((p.doms.length : Nat) : Int))) = false
      rw [pml, mk.len, decide_eq_false (show ¬ ((p.doms.length : Nat) : Int) < ((p.doms.length : Nat) : Int) by omega), Bool.and_false]
    have E1 : EvA K p ms (L2.start ["_law_puzzle", "_law_marks", "_law_found", "_law_cell", "_law_lot", "_law_value"] [V.ref a, V.ref ma]) H 10 (tCons (tC V.non) (tCons (tTup tNil) (tCons (tC (V.str "strike")) (tCons (tTup (tCons (tC (V.str "strike")) tNil)) (tCons (tTup (tCons (tC (V.str "strike")) (tCons (tC (V.int 0)) tNil))) (tCons (tTup (tCons (tC (V.str "strike")) (tCons (tC (V.int 0)) (tCons (tC (V.int 98)) tNil)))) (tCons (tTup (tCons (tC (V.str "strike")) (tCons (tCB (fun xs H Q => ∃ p ys, xs = [V.ref p] ∧ (SqL K H p ys ∨ SqT K H p ys) ∧ Q (V.int ((ys.length : Nat) : Int)) H) (tCons (tVar 1) tNil)) (tCons (tC (V.int 0)) tNil)))) (tCons (tTup (tCons (tC (V.str "strike")) (tCons (tOp (rI0 fun i j => V.int (i - j)) (tC (V.int 0)) (tC (V.int 1))) (tCons (tC (V.int 0)) tNil)))) (tCons (tLst (tCons (tC (V.str "strike")) (tCons (tC (V.int 0)) (tCons (tC (V.int 1)) tNil)))) (tCons (tTup (tCons (tC (V.str "mark")) (tCons (tC (V.int 0)) (tCons (tC (V.int 1)) tNil)))) tNil)))))))))) := evC (fun H s Q k => k _ H (same_refl H) (od_d .non)) (evC (fun H s Q k => ⟨by decide, fun T hT => k _ _ (same_new hT) (od_d (.tup (sqt upd_same) .nil))⟩) (evC (fun H s Q k => k _ H (same_refl H) (od_d (.str _))) (evC (fun H s Q k => ⟨by decide, fun T hT => k _ _ (same_new hT) (od_d (.tup (sqt upd_same) (.cons (.str _) .nil)))⟩) (evC (fun H s Q k => ⟨by decide, fun T hT => k _ _ (same_new hT) (od_d (.tup (sqt upd_same) (.cons (.str _) (.cons (.int _) .nil))))⟩) (evC (fun H s Q k => ⟨by decide, fun T hT => k _ _ (same_new hT) (od_t upd_same wd_str (.int 0) (.int 98) (dB_dom fun z => by have := hdom _ _ z; simp [tI] at this))⟩) (evC (fun H s Q k => ⟨_, rfl, ma, mvs, rfl, .inr (sqt (s _ _ hma)), (show 3 ≤ sizeLine by decide), fun T hT => k _ _ (same_new hT) (od_t upd_same wd_str (.int _) (.int 0) (dB_cell lenNo))⟩) (evC (fun H s Q k => ⟨_, _, rfl, rfl, by decide, fun T hT => k _ _ (same_new hT) (od_t upd_same wd_str (.int _) (.int 0) (dB_cell rfl))⟩) (evC (fun H s Q k => ⟨by decide, fun T hT => k _ _ (same_new hT) (od_d (.lst (sql upd_same) (.cons (.str _) (.cons (.int _) (.cons (.int _) .nil)))))⟩) (evC (fun H s Q k => ⟨by decide, fun T hT => k _ _ (same_new hT) (od_t upd_same wd_str (.int 0) (.int 1) (dB_can (can_mark _ _)))⟩) (evN))))))))))
    have E2 : ∀ σ, EvA K p ms σ H 7 (tCons (tTup (tCons (tC (V.str "strike")) (tCons (tC (V.str "0")) (tCons (tC (V.int 1)) tNil)))) (tCons (tTup (tCons (tC (V.str "set")) (tCons (tC (V.int 0)) (tCons (tC V.non) tNil)))) (tCons (tTup (tCons (tC (V.str "raise")) (tCons (tC (V.int 0)) (tCons (tC (V.int 0)) (tCons (tC (V.int 0)) tNil))))) (tCons (tTup (tCons (tLst (tCons (tC (V.str "strike")) tNil)) (tCons (tC (V.int 0)) (tCons (tC (V.int 1)) tNil)))) (tCons (tTup (tCons tDNewK (tCons (tC (V.int 0)) (tCons (tC (V.int 0)) tNil)))) (tCons (tTup (tCons (tC (V.str "strike")) (tCons (tC (V.bl true)) (tCons (tC (V.int 1)) tNil)))) (tCons (tTup (tCons (tC (V.str "set")) (tCons (tC (V.int 0)) (tCons (tC (V.bl true)) tNil)))) tNil))))))) := fun σ => evC (fun H s Q k => ⟨by decide, fun T hT => k _ _ (same_new hT) (od_t upd_same wd_str (.str _) (.int 1) (dB_cell rfl))⟩) (evC (fun H s Q k => ⟨by decide, fun T hT => k _ _ (same_new hT) (od_t upd_same wd_str (.int 0) .non (dB_val rfl))⟩) (evC (fun H s Q k => ⟨by decide, fun T hT => k _ _ (same_new hT) (od_d (.tup (sqt upd_same) (.cons (.str _) (.cons (.int _) (.cons (.int _) (.cons (.int _) .nil))))))⟩) (evC (fun H s Q k => ⟨by decide, fun L hL => ⟨(show 3 ≤ sizeLine by decide), fun T hT => k _ _ (Same.tr (same_new hL) (same_new hT)) (od_t upd_same (.inr ⟨rfl, .inr ⟨[.str "strike"], .lst (sql (upd_at hT upd_same)) (.cons (.str _) .nil), ⟨by decide +kernel, by decide +kernel⟩⟩⟩) (.int 0) (.int 1) (dB_can (can_none _ _)))⟩⟩) (evC (fun H s Q k => fun L hL => ⟨(show 3 ≤ sizeLine by decide), fun T hT => k _ _ (Same.tr (same_new hL) (same_new hT)) (od_t upd_same (.inr ⟨rfl, .inl ⟨L, [], rfl, upd_at hT upd_same⟩⟩) (.int 0) (.int 0) (dB_can (can_none _ _)))⟩) (evC (fun H s Q k => ⟨by decide, fun T hT => k _ _ (same_new hT) (od_t upd_same wd_str (.bl true) (.int 1) (dB_cell rfl))⟩) (evC (fun H s Q k => ⟨by decide, fun T hT => k _ _ (same_new hT) (od_t upd_same wd_str (.int 0) (.bl true) (dB_val rfl))⟩) (evN)))))))
    refine E1.asg (same_refl H) (by decide) fun xs1 H1 F1 s1 hF1 l1 o1 => ?_
    refine (E2 _).cat s1 (by rw [l1]; decide) rfl hF1 o1 fun xs2 H2 F2 s2 hF2 l2 o2 => ?_
    have s02 := Same.tr s1 s2
    rw [l1] at l2
    have s02h := Same.tr s1 s2
    clear E1 E2 lenNo
    show gName 2 _ _ _ _
    refine ⟨_, rfl, a, _, 0, _, rfl, rfl, sqt (s02h _ _ ha), rfl, ya, yvs, rfl, sqt (s02h _ _ hya), ?_⟩
    refine for_it (walk_enumT (K := K) (a := ya) (xs := yvs)) (fun i σ H' => ∃ F xs o3 o4 o5, σ = [some (.ref a), some (.ref ma), some (.ref F), o3, o4, o5] ∧ H' F = some (.lst xs) ∧ (∀ x ∈ xs, OdH K H' x p ms false) ∧ xs.length ≤ 17 + 8 * i ∧ Same H H')
      ⟨F2, xs2, _, _, _, rfl, hF2, o2, by omega, s02h⟩ (fun i σ H' _ h => ?_) (fun i z σ H' H'' hi h yy => ?_) (fun σ H' h => ?_)
    · obtain ⟨_, _, _, _, _, _, _, _, _, s⟩ := h
      exact sqt (s _ _ hya)
    · obtain ⟨F, xs, o3, o4, o5, rfl, hF, od, xl, s3⟩ := h
      obtain ⟨T, e1, e2, rfl, hT, rfl, h1, h2⟩ := yy
      cases h1
      obtain ⟨dom, hdm, idom⟩ := paired_at py h2
      obtain ⟨da, rfl, hda⟩ := idom
      have sT := same_new (o := .tup [V.int ((i : Nat) : Int), .ref da]) hT
      have il : i < p.doms.length := by omega
      have n8 := dg.n8
      have l4 := (dg.l4 dom (List.mem_of_getElem? hdm)).1
      refine ⟨T, _, rfl, sqt upd_same, rfl, _, _, rfl, _, _, rfl, rfl, ?_⟩
      have s4 := Same.tr s3 sT
      have hF4 := sT _ _ hF
      have od4 : ∀ x ∈ xs, OdH K (upd H' T (.tup [V.int ((i : Nat) : Int), .ref da])) x p ms false := fun x hx => (od x hx).same sT
      generalize upd H' T (.tup [V.int ((i : Nat) : Int), .ref da]) = H4 at s4 hF4 od4 ⊢
      refine ⟨_, rfl, da, rfl, ⟨_, sqt (s4 _ _ hda)⟩, ?_⟩
      refine for_it (walk_tup (K := K) (a := da) (xs := dom.map V.int)) (fun j σ H' => ∃ F xs o5, σ = [some (.ref a), some (.ref ma), some (.ref F), some (.int ((i : Nat) : Int)), some (.ref da), o5] ∧ H' F = some (.lst xs) ∧ (∀ x ∈ xs, OdH K H' x p ms false) ∧ xs.length ≤ 17 + 8 * i + 2 * j ∧ Same H H')
        ⟨F, xs, _, rfl, hF4, od4, by omega, s4⟩ (fun j σ H' _ h => ?_) (fun j z σ H' H'' hj h yy => ?_) (fun σ H' h => ?_)
      · obtain ⟨_, _, _, _, _, _, _, s⟩ := h
        exact sqt (s _ _ hda)
      · obtain ⟨rfl, hz⟩ := yy
        obtain ⟨v, hv, rfl⟩ := at_ints hz
        obtain ⟨F5, xs5, o5, rfl, hF5, od5, xl5, s5⟩ := h
        have j4 := (List.getElem?_eq_some_iff.mp hv).1
        have im : ((i : Nat) : Int) < ms.length := by rw [mk.len]; omega
        obtain ⟨ma', mvs', mx, e3, hma', _, hmx, mix⟩ := row_at hm (Int.natCast_nonneg i) im
        cases e3
        obtain rfl : mvs = mvs' := by
          rw [hma] at hma'
          cases hma'
          rfl
        rw [Int.toNat_natCast] at mix
        generalize hrow : ms.getD i [] = row at mix
        have mi := mix.kt (kt_same s5)
        refine EvA.cat (K := K) (p := p) (ms := ms) (H0 := H'') (n := 1) (evC (fun H6 s6 Q k => ?_) evN) (same_refl _) (by omega) rfl hF5 od5 fun xs7 H7 F7 s7 hF7 l7 od7 => ?_
        · have s56 := Same.tr s5 s6
          refine ⟨_, rfl, _, rfl, _, rfl, ma, mvs, _, mx, rfl, rfl, sqt (s56 _ _ hma), hmx, .int v, _, .int v, .inl (mi.kt (kt_same s6)).dp, cmp_int v, canAll_ints _, ?_⟩
          rw [GX.any_ints]
          refine ⟨_, rfl, ?_⟩
          by_cases e1 : v ∈ row
          · refine ifT (decide_eq_true e1) ⟨_, rfl, _, rfl, (show 3 ≤ sizeLine by decide), fun T hT => k _ _ (same_new hT) (od_t upd_same wd_str (.int _) (.int v) (dB_can ?_))⟩
            show canB (ms.getD (((i : Nat) : Int)).toNat []) _ v = false
            rw [Int.toNat_natCast, hrow]
            unfold canB
            rw [if_neg (by decide +kernel), if_pos rfl, decide_eq_true e1]
            rfl
          · refine ifF (decide_eq_false e1) ⟨_, rfl, _, rfl, (show 3 ≤ sizeLine by decide), fun T hT => k _ _ (same_new hT) (od_t upd_same wd_str (.int _) (.int v) (dB_can ?_))⟩
            show canB (ms.getD (((i : Nat) : Int)).toNat []) _ v = false
            rw [Int.toNat_natCast, hrow]
            unfold canB
            rw [if_pos rfl, decide_eq_false e1]
        have s57 := Same.tr s5 s7
        refine ⟨_, rfl, _, rfl, _, rfl, ma, mvs, _, mx, rfl, rfl, sqt (s57 _ _ hma), hmx, _, rfl, (show 1 ≤ sizeLine by decide), fun T hT => ?_⟩
        have sT := same_new (o := .tup [.int v]) hT
        refine ⟨dI row, dI [v], ((mi.kt (kt_same s7)).kt (kt_same sT)).dp, IH.dp ⟨T, rfl, upd_same⟩, cmp_dI _, cmp_dI _, ?_⟩
        rw [eqv_dI]
        have s8 := Same.tr s57 sT
        have hF8 := sT _ _ hF7
        have od8 : ∀ x ∈ xs7, OdH K (upd H7 T (.tup [.int v])) x p ms false := fun x hx => (od7 x hx).same sT
        generalize upd H7 T (.tup [.int v]) = H8 at s8 hF8 od8 ⊢
        refine ⟨_, rfl, ?_⟩
        by_cases e1 : row = [v]
        · refine ifT (decide_eq_true e1) ⟨_, rfl, _, rfl, (show 3 ≤ sizeLine by decide), fun U hU => ⟨(show 1 ≤ sizeLine by decide), fun L hL => ?_⟩⟩
          have sL := Same.tr (same_new (o := .tup [.str "set", .int ((i : Nat) : Int), .int v]) hU) (same_new (o := .lst [.ref U]) hL)
          refine ⟨F7, L, xs7, [.ref U], rfl, rfl, sL _ _ hF8, upd_same, by rw [List.length_singleton, sizeLine_eq]; omega, fun G hG => ?_⟩
          have sG := Same.tr sL (same_new (o := .lst (xs7 ++ [.ref U])) hG)
          refine ⟨G, _, _, rfl, upd_same, fun x hx => ?_, by rw [List.length_append, List.length_singleton]; omega, Same.tr s8 sG⟩
          rcases List.mem_append.mp hx with hx | hx
          · exact (od8 x hx).same sG
          · rw [List.mem_singleton.mp hx]
            have hU8 : upd H8 U (.tup [.str "set", .int ((i : Nat) : Int), .int v]) U = some (.tup [.str "set", .int ((i : Nat) : Int), .int v]) := upd_same
            refine od_t ((Same.tr (same_new hL) (same_new hG)) _ _ hU8) wd_str (.int _) (.int v) (dB_can ?_)
            show canB (ms.getD (((i : Nat) : Int)).toNat []) _ v = false
            rw [Int.toNat_natCast, hrow]
            unfold canB
            rw [if_neg (by decide +kernel), if_neg (by decide +kernel), decide_eq_true e1, Bool.not_true, Bool.and_false]
        · refine ifF (decide_eq_false e1) ⟨by decide, fun L hL => ?_⟩
          have sL := same_new (o := .lst []) hL
          refine ⟨F7, L, xs7, [], rfl, rfl, sL _ _ hF8, upd_same, by rw [List.length_nil, sizeLine_eq]; omega, fun G hG => ?_⟩
          have sG := Same.tr sL (same_new (o := .lst (xs7 ++ [])) hG)
          refine ⟨G, _, _, rfl, upd_same, fun x hx => ?_, by rw [List.length_append, List.length_nil]; omega, Same.tr s8 sG⟩
          rw [List.append_nil] at hx
          exact (od8 x hx).same sG
      · obtain ⟨F5, xs5, o5, rfl, hF5, od5, xl5, s5⟩ := h
        rw [List.length_map] at xl5
        exact ⟨F5, xs5, _, _, _, rfl, hF5, od5, by omega, s5⟩
    · obtain ⟨F, xs, o3, o4, o5, rfl, hF, od, xl, s3⟩ := h
      have := dg.n8
      exact ⟨_, rfl, k F xs H' s3 hF od (by omega)⟩
end
end G9

set_option Elab.async false
set_option linter.all false
set_option maxRecDepth 100000
set_option maxHeartbeats 8000000
/-! what raises, called by the law's is_over, is_refused -/
namespace G9
open PySem PySem.Spec PyProof.Rows L2 GX LamX
/-- told: try: a() / except x: return True; return False -/
def TRef (K : PySem.W.Frag) (CS : Addr) : (XK → Hp → VK → Prop) → Hp → VK → Prop := fun tl H Q =>
  tl (fun cls _ H' => ∃ b, PySem.W.exmOne K cls (.ref CS) = some b ∧ (b = true → Q (.bl true) H') ∧ (b = false → False)) H (fun _ H' => Q (.bl false) H')
theorem ref_gives {X : Cx} {Ng : List Str} {x a e q : Str} {sg : Scope} {g CS : Addr} {cdg : Value} {j j2 : Nat} {p1 p2 p3 p4 p5 p6 p7 p8 p9 p10 : Pos} (hge : sg.names.lookup e = some .globalImplicit) (hme : X.mg e = some (.ref CS)) (hde : (e == ("__debug__" : Str)) = false) (h0 : ∀ f : Addr, (L2.start Ng [V.ref f])[0]? = some (some (V.ref f))) :
    GivesTo X Ng x sg g cdg [.Try [.Expr (.Call (.Name a p1) [] [] p2) p3] [.ExceptHandler (some (.Name e p4)) none [.Return (some (.Constant (.bool true) j p5)) p6] p7] [] [] p8, .Return (some (.Constant (.bool false) j2 p9)) p10] a q (TRef X.K CS) := by
  intro f c' s H Q tl act hc h
  have hgl : Gl (cxOf C8.CX0 X.prog X.w X.K X.mg X.base Ng x sg g cdg X.A X.stack s H C8.E0).nox e := hge
  refine ⟨_, pss_cons (ps_try_only (X := (cxOf C8.CX0 X.prog X.w X.K X.mg X.base Ng x sg g cdg X.A X.stack s H C8.E0).nox) (c := .ref CS)
      (tb := fun W D σ H => ∃ Ech : XK, (∀ cls d σ' H', Ech cls d H' → W cls d σ' H') ∧ σ[0]? = some (some (.ref f)) ∧ H c' = some (CodeO c' q) ∧ tl Ech H (fun _ H' => D.nx σ H'))
      rfl rfl ⟨hgl, hde, .inl hme⟩ LamX.takes0 (fun W pn xe tk _ => ?_) (fun a oe cls d pn _ _ => pss_one (ps_ret pe_bl))) (pss_one (ps_ret pe_bl)), ?_⟩
  · refine ⟨fun pins s' σ H' D I h' => ?_⟩
    obtain ⟨Ech, hW, h1, h2, h3⟩ := h'
    have hp := act W pn xe Ech p1 p2 tk hW
    have hq := pss_one (ps_expr (pos := p3) hp)
    exact hq.run pins s' σ H' D I ⟨h1, h2, h3⟩
  · exact ⟨fun cls _ H' => ∃ b, PySem.W.exmOne X.K cls (.ref CS) = some b ∧ (b = true → Q (.bl true) H') ∧ (b = false → False), fun cls d σ' H' ⟨b, e1, e2, e3⟩ => ⟨b, e1, fun hb a _ => e2 hb, fun hb => (e3 hb).elim⟩, h0 f, hc, h⟩
section
variable {X : Cx} {T : List (Addr × Str)} {c P f CS : Addr} {fd : FuncData} {k : Nat} {params : Arguments} {body : Expr} {scope : Scope} {t : XK → TE} {p lpos pos : Pos}
theorem pe_over (D : Df X.K X.mg "_law_is_over" sLIsOver ["_law_call"] f fd) (E : ExC X.K X.mg "NothingDone" CS) (hg : Gl X "_law_is_over") (TB : TabB X.base X.mg c P) (hcode : X.env.code = .ref c) (hmT : (P, X.env.qual ++ "<lambda>") ∈ T) (hu : ∀ p ∈ T, p.1 = P → p.2 = X.env.qual ++ "<lambda>") (hr : Room (k + 2) X.A) (L : LamS X.env.scope scope)
    (hbody : ∀ (A : Around) (outer : List Env) (s : Shared) (H : Hp) (E : XK) (f c' : Addr), Room k (A.deeper (lamEnv X scope s.heap.objs.size f c')) → PE (lamCx X A outer s H E scope f c') body (t E)) (hdef : defaultsOf params X.env = ([], []) := by rfl)
    (hbind : ∀ (q : Str) (cl : List (Str × Addr)) (pm cv ctv : Value), bindArgs (PySem.W.kla_fn "<lambda>" q params body scope cl pm cv ctv) ⟨[], []⟩ = pure [] := by intros; rfl) :
    PE X (.Call (.Name "_law_is_over" p) [.Lambda params body scope lpos] [] pos) (tLam T (TRef X.K CS) t) := by
  obtain ⟨oc, od, kV, doc, pm, an, cdv, ct, osl, rfl, lk, hcd⟩ := D.F.ex
  exact pe_lamcall hg D.g D.F.kp lk hcd D.b scLIsOver rfl (.inl rfl) (ref_gives rfl E.g (by decide) (fun _ => rfl)) TB hcode hmT hu hr L hdef hbind hbody
theorem pe_refused (D : Df X.K X.mg "_law_is_refused" sLIsRefused ["_law_call"] f fd) (E : ExC X.K X.mg "BadDeed" CS) (hg : Gl X "_law_is_refused") (TB : TabB X.base X.mg c P) (hcode : X.env.code = .ref c) (hmT : (P, X.env.qual ++ "<lambda>") ∈ T) (hu : ∀ p ∈ T, p.1 = P → p.2 = X.env.qual ++ "<lambda>") (hr : Room (k + 2) X.A) (L : LamS X.env.scope scope)
    (hbody : ∀ (A : Around) (outer : List Env) (s : Shared) (H : Hp) (E : XK) (f c' : Addr), Room k (A.deeper (lamEnv X scope s.heap.objs.size f c')) → PE (lamCx X A outer s H E scope f c') body (t E)) (hdef : defaultsOf params X.env = ([], []) := by rfl)
    (hbind : ∀ (q : Str) (cl : List (Str × Addr)) (pm cv ctv : Value), bindArgs (PySem.W.kla_fn "<lambda>" q params body scope cl pm cv ctv) ⟨[], []⟩ = pure [] := by intros; rfl) :
    PE X (.Call (.Name "_law_is_refused" p) [.Lambda params body scope lpos] [] pos) (tLam T (TRef X.K CS) t) := by
  obtain ⟨oc, od, kV, doc, pm, an, cdv, ct, osl, rfl, lk, hcd⟩ := D.F.ex
  exact pe_lamcall hg D.g D.F.kp lk hcd D.b scLIsRefused rfl (.inl rfl) (ref_gives rfl E.g (by decide) (fun _ => rfl)) TB hcode hmT hu hr L hdef hbind hbody
end
end G9

set_option Elab.async false
set_option linter.all false
set_option maxRecDepth 100000
set_option maxHeartbeats 8000000
/-! what the law keeps: marks behind deeds, what is shown of a board, what stays -/
namespace G9
open PySem PySem.Spec PyProof.Rows L2 GX LamX
def hist (ds : List (List Int)) (D : List Dd) : List (List (List Int)) := (List.range (D.length + 1)).map fun i => after ds (D.take i)
theorem hist_snoc (ds : List (List Int)) (D : List Dd) (q : Dd) : hist ds (D ++ [q]) = hist ds D ++ [mrk (after ds D) q] := by
  unfold hist
  rw [List.length_append, List.length_singleton, List.range_succ, List.map_append, List.map_singleton]
  congr 1
  · refine List.map_congr_left fun i hi => ?_
    have := List.mem_range.mp hi
    rw [List.take_append_of_le_length (by omega)]
  · rw [List.take_of_length_le (by simp), after_snoc]
theorem hist_last (ds : List (List Int)) (D : List Dd) : ∃ pre, hist ds D = pre ++ [after ds D] := by
  unfold hist
  rw [List.range_succ, List.map_append, List.map_singleton, List.take_length]
  exact ⟨_, rfl⟩
/-- each may be done where it stands -/
def Valid (ds : List (List Int)) (all : List Dd) : Prop := ∀ A q B, all = A ++ q :: B → DdG ds q ∧ isWd q.1 ∧ canB ((after ds A).getD q.2.1.toNat []) (some q.1) q.2.2 = true
theorem Valid.all {ds : List (List Int)} {all : List Dd} (h : Valid ds all) : ∀ q ∈ all, DdG ds q ∧ isWd q.1 := fun q hq => by
  obtain ⟨A, B, e⟩ := List.append_of_mem hq
  have := h A q B e
  exact ⟨this.1, this.2.1⟩
theorem Valid.left {ds : List (List Int)} {X Y : List Dd} (h : Valid ds (X ++ Y)) : Valid ds X := fun A q B e => h A q (B ++ Y) (by rw [e]; simp)
theorem Valid.snoc {ds : List (List Int)} {X : List Dd} {q : Dd} (h : Valid ds X) (g : DdG ds q) (w : isWd q.1) (c : canB ((after ds X).getD q.2.1.toNat []) (some q.1) q.2.2 = true) : Valid ds (X ++ [q]) := fun A r B e => by
  rcases List.eq_nil_or_concat B with rfl | ⟨B', b, rfl⟩
  · obtain ⟨e1, e2⟩ := List.append_inj' e rfl
    cases e2
    subst e1
    exact ⟨g, w, c⟩
  · rw [List.concat_eq_append, ← List.cons_append, ← List.append_assoc] at e
    exact h A r B' (List.append_inj' e rfl).1
theorem paired_last {α β : Type} {R : α → β → Prop} {y : β} : ∀ {ys : List β} {vs : List α}, Paired R vs (ys ++ [y]) → ∃ us x, vs = us ++ [x] ∧ Paired R us ys ∧ R x y
  | [], _, .cons h .nil => ⟨[], _, rfl, .nil, h⟩
  | _ :: _, _, .cons h t => by
    obtain ⟨us, x, rfl, p, r⟩ := paired_last t
    exact ⟨_ :: us, x, rfl, .cons h p, r⟩
theorem atI_m1 (us : List V) (x : V) : atI (us ++ [x]) (-1) = some x := by
  have : ixN (us ++ [x]).length (-1) = some us.length := by
    unfold ixN
    rw [if_neg (by decide), if_pos (by rw [List.length_append, List.length_singleton]; omega)]
    exact congrArg some (by rw [List.length_append, List.length_singleton]; omega)
  unfold atI
  rw [this]
  exact List.getElem?_concat_length
theorem cutV_m1 (us : List V) (x : V) : cutV (us ++ [x]) none (some (-1)) = us := by
  unfold cutV
  rw [List.length_append, List.length_singleton, sIx_m1, show HT.sIx (us.length + 1) 0 none = 0 from rfl, List.drop_zero, Nat.sub_zero, List.take_left]
/-! deeds as data -/
def dDd (q : Dd) : PyData := .tuple [.str q.1, .int q.2.1, .int q.2.2]
def dDds (l : List Dd) : PyData := .tuple (l.map dDd)
theorem DdH.dp {K : PySem.W.Frag} {H : Hp} {x : V} {q : Dd} (h : DdH H x q) : Dp K H x (dDd q) := by
  obtain ⟨a, rfl, ha⟩ := h
  exact .tup (sqt ha) (.cons (.str _) (.cons (.int _) (.cons (.int _) .nil)))
theorem dds_all {K : PySem.W.Frag} {H : Hp} : ∀ {vs : List V} {ds : List Dd}, Paired (DdH H) vs ds → DpAll K H vs (ds.map dDd)
  | _, _, .nil => .nil
  | _, _, .cons h t => .cons h.dp (dds_all t)
theorem DdsH.dp {K : PySem.W.Frag} {H : Hp} {x : V} {ds : List Dd} (h : DdsH H x ds) : Dp K H x (dDds ds) := by
  obtain ⟨a, vs, rfl, ha, p⟩ := h
  exact .tup (sqt ha) (dds_all p)
/-- deeds small enough to be shown -/
def SmQ (q : Dd) : Prop := isWd q.1 ∧ Few q.2.1 ∧ Few q.2.2
theorem wd_sm {w : Str} (h : isWd w) (k : Nat) : Sm (.str w) k 30 := by
  rcases h with rfl | rfl | rfl
  · exact sm_str _ k (by decide +kernel) (by decide +kernel)
  · exact sm_str _ k (by decide +kernel) (by decide +kernel)
  · exact sm_str _ k (by decide +kernel) (by decide +kernel)
theorem few_sm {v : Int} (h : Few v) (k : Nat) : Sm (.int v) k 30 := by
  obtain ⟨h1, h2⟩ := h
  exact sm_int h1 (by omega) k
theorem dd_sm {q : Dd} (h : SmQ q) (k : Nat) : Sm (dDd q) (k + 1) 100 := ((((SmA.nil (w := 0)).cons (few_sm h.2.2 k)).cons (few_sm h.2.1 k)).cons (wd_sm h.1 k)).tuple.mono (Nat.le_refl _) (by decide)
theorem dds_smA : ∀ {l : List Dd} (k : Nat), (∀ q ∈ l, SmQ q) → SmA (l.map dDd) (k + 1) (102 * l.length)
  | [], k, _ => .nil
  | q :: l, k, h => ((dds_smA k fun q' hq => h q' (List.mem_cons_of_mem _ hq)).cons (dd_sm (h q List.mem_cons_self) k)).mono (Nat.le_refl _) (by rw [List.length_cons]; omega)
theorem dds_sm {l : List Dd} (h : ∀ q ∈ l, SmQ q) (hl : l.length ≤ 100) (k : Nat) : Sm (dDds l) (k + 2) 10300 := ((dds_smA k h).tuple).mono (Nat.le_refl _) (by omega)
theorem dd_can {q : Dd} (h : isWd q.1) : (dDd q).canLay0 = true ∧ (dDd q).depth = 1 := by
  have e : (PyData.str q.1).canLay0 = true := by rcases h with h | h | h <;> (rw [h]; decide +kernel)
  refine ⟨?_, ?_⟩
  · unfold dDd
    simp only [PyData.canLay0, PyData.canLayAll0, Bool.and_true] at e ⊢
    exact e
  · unfold dDd
    simp [PyData.depth, PyData.depthAll]
theorem dds_can : ∀ {l : List Dd}, (∀ q ∈ l, isWd q.1) → PyData.canLayAll0 (l.map dDd) = true ∧ PyData.depthAll (l.map dDd) ≤ 1
  | [], _ => ⟨rfl, Nat.zero_le _⟩
  | q :: l, h => by
    obtain ⟨i1, i2⟩ := dds_can fun q' hq => h q' (List.mem_cons_of_mem _ hq)
    obtain ⟨j1, j2⟩ := dd_can (h q List.mem_cons_self)
    rw [List.map_cons]
    simp only [PyData.canLayAll0, PyData.depthAll, j1, i1, j2]
    exact ⟨rfl, Nat.max_le.mpr ⟨Nat.le_refl _, i2⟩⟩
theorem dds_cmp {l : List Dd} (h : ∀ q ∈ l, isWd q.1) : Cmp (dDds l) := by
  obtain ⟨i1, i2⟩ := dds_can h
  unfold dDds
  refine ⟨by simpa [PyData.canLay0] using i1, ?_⟩
  simp only [PyData.depth]
  omega
theorem smD_dds {K : PySem.W.Frag} {H : Hp} {x y : V} {l : List Dd} (h : ∀ q ∈ l, isWd q.1) (hx : DdsH H x l) (hy : DdsH H y l) : SmD K H x y :=
  ⟨_, _, hx.dp, hy.dp, dds_cmp h, dds_cmp h, PySem.SeqAt.eqv_refl _ (dds_cmp h).1⟩
theorem smD_rows {K : PySem.W.Frag} {H : Hp} {x y : V} {l : List (List Int)} (hx : RowsH H x l) (hy : RowsH H y l) : SmD K H x y :=
  ⟨_, _, hx.dp, hy.dp, cmp_rows _, cmp_rows _, PySem.SeqAt.eqv_refl _ (cmp_rows _).1⟩
theorem smD_puz {K : PySem.W.Frag} {H : Hp} {x y : V} {p : Puz} (hx : PzH H x p) (hy : PzH H y p) : SmD K H x y :=
  ⟨_, _, puz_dp hx, puz_dp hy, cmp_puz _, cmp_puz _, eqv_puz _⟩
theorem noLs_map {α : Type} {f : α → PyData} (h : ∀ a, noL (f a) = true) : ∀ l : List α, noLs (l.map f) = true
  | [] => rfl
  | a :: l => by
    show (noL (f a) && noLs (l.map f)) = true
    rw [h a, noLs_map h l]
    rfl
theorem noL_dI (ns : List Int) : noL (dI ns) = true := noLs_map (fun _ => rfl) ns
theorem noL_rows (rs : List (List Int)) : noL (dRows rs) = true := noLs_map noL_dI rs
theorem noL_dd (q : Dd) : noL (dDd q) = true := rfl
theorem noL_dds (l : List Dd) : noL (dDds l) = true := noLs_map noL_dd l
theorem noL_rul (r : Rul) : noL (dRul r) = true := by
  cases r <;> (unfold dRul; simp only [noL, noLs, noL_dI, noL_rows, Bool.and_self, Bool.and_true, Bool.true_and])
theorem noL_puz (p : Puz) : noL (dPuz p) = true := by
  unfold dPuz
  show (noL (dRows p.doms) && (noLs (p.rules.map dRul) && true)) = true
  rw [noL_rows, noLs_map noL_rul]
  rfl
theorem puz_sm2 {p : Puz} (pd : Pd p) : Sm (dPuz p) 40 200000 := by
  have n6 := (Nat.le_trans pd.n4 (by decide) : p.doms.length ≤ 6)
  have r8 := pd.r8
  have d : Sm (dRows p.doms) 6 3000 := (sm_rows (rows := p.doms) (fun r hr => ⟨by have := (pd.dom r hr).2.2.1; omega, (pd.dom r hr).2.1⟩) 4).mono (Nat.le_refl _) (by omega)
  have q : Sm (.tuple (p.rules.map dRul)) 6 170000 := (ruls_sm pd fun x hx => hx).tuple.mono (Nat.le_refl _) (by omega)
  exact (SmA.tuple (.cons d (.cons q (SmA.nil (w := 0))))).mono (by decide) (by decide)
def bdE (p : Puz) (ms : List (List Int)) (lg bk : List Dd) : List (Str × PyData) := [("puzzle", dPuz p), ("marks", dRows ms), ("log", dDds lg), ("back", dDds bk)]
theorem bd_shown {p : Puz} {ms : List (List Int)} {lg bk : List Dd} (pd : Pd p) (hm : ∀ r ∈ ms, r.length ≤ 8 ∧ ∀ v ∈ r, Few v) (ml : ms.length ≤ 8) (hl : ∀ q ∈ lg, SmQ q) (ll : lg.length ≤ 100) (hk : ∀ q ∈ bk, SmQ q) (kl : bk.length ≤ 100) :
    ((bdE p ms lg bk).all fun e => noL e.2) = true ∧ (bD (bdE p ms lg bk)).showable = true ∧ (bD (bdE p ms lg bk)).depth ≤ 60 ∧ (bD (bdE p ms lg bk)).shown.length ≤ sizeLine := by
  have a := puz_sm2 pd
  have b : Sm (dRows ms) 40 3000 := (sm_rows hm 4).mono (by decide) (by omega)
  have c : Sm (dDds lg) 40 10300 := (dds_sm hl ll 4).mono (by decide) (Nat.le_refl _)
  have d : Sm (dDds bk) 40 10300 := (dds_sm hk kl 4).mono (by decide) (Nat.le_refl _)
  have s1 : (PyData.str "puzzle").leavesShort 11 = true ∧ (PyData.str "puzzle").weight ≤ 30 := by decide +kernel
  have s2 : (PyData.str "marks").leavesShort 11 = true ∧ (PyData.str "marks").weight ≤ 30 := by decide +kernel
  have s3 : (PyData.str "log").leavesShort 11 = true ∧ (PyData.str "log").weight ≤ 30 := by decide +kernel
  have s4 : (PyData.str "back").leavesShort 11 = true ∧ (PyData.str "back").weight ≤ 30 := by decide +kernel
  refine ⟨?_, ?_, ?_, ?_⟩
  · simp only [bdE, List.all_cons, List.all_nil, noL_puz, noL_rows, noL_dds, Bool.and_self]
  · simp only [bD, bdE, List.map_cons, List.map_nil, PyData.showable, PyData.showableKv, a.sh, b.sh, c.sh, d.sh, Bool.and_self]
  · have := a.dp
    have := b.dp
    have := c.dp
    have := d.dp
    simp only [bD, bdE, List.map_cons, List.map_nil, PyData.depth, PyData.depthKv]
    omega
  · refine PyData.shown_fits (B := 11) (by decide) (by decide) ?_ ?_
    · simp only [bD, bdE, List.map_cons, List.map_nil, PyData.leavesShort, PyData.leavesShortKv, a.ls, b.ls, c.ls, d.ls]
      simp only [PyData.leavesShort] at s1 s2 s3 s4
      rw [s1.1, s2.1, s3.1, s4.1]
      rfl
    · have := a.wt
      have := b.wt
      have := c.wt
      have := d.wt
      have := s1.2
      have := s2.2
      have := s3.2
      have := s4.2
      simp only [bD, bdE, List.map_cons, List.map_nil, PyData.weight, PyData.weightKv] at *
      omega
def qL0 : Str := (envOfC "law" (defScope sLaw) 0 0 .none).qual
def qL : Str := qL0 ++ "<lambda>"
/-! what stays -/
def Kx (d cs : Addr) (H H' : Hp) : Prop := ∀ b o, b ≠ d → b ≠ cs → (∀ ps, o ≠ .tbl ps) → H b = some o → H' b = some o
theorem kx_rn {d cs : Addr} {H H' : Hp} (r : Rn d cs H H') : Kx d cs H H' := fun b o h1 h2 _ e => r b o h1 h2 e
theorem kx_same {d cs : Addr} {H H' : Hp} (r : Same H H') : Kx d cs H H' := fun b o _ _ _ e => r b o e
theorem kx_ext {d cs : Addr} {H H' : Hp} (r : ExtN H H') : Kx d cs H H' := fun b o _ _ n e => r b o e n
theorem Kx.trans {d cs : Addr} {A B C : Hp} (h : Kx d cs A B) (g : Kx d cs B C) : Kx d cs A C := fun b o h1 h2 n e => g b o h1 h2 n (h b o h1 h2 n e)
theorem Kx.kt {d cs : Addr} {H H' : Hp} (k : Kx d cs H H') (hs : SrcAt H d cs) : Kt H H' := fun b xs e => k b _ (hs.ne e).1 (hs.ne e).2 (fun ps z => by cases z) e
theorem src_ext {d cs : Addr} {H H' : Hp} (r : ExtN H H') (hs : SrcAt H d cs) : SrcAt H' d cs := by
  obtain ⟨zs, l, m, t, hd, hc, h⟩ := hs
  exact ⟨zs, l, m, t, r _ _ hd (fun ps z => by cases z), r _ _ hc (fun ps z => by cases z), h⟩
theorem tabs_rn {d cs : Addr} {H H' : Hp} {T : List (Addr × Str)} (hs : SrcAt H d cs) (r : Rn d cs H H') (t : Tabs T H) : Tabs T H' := fun p hp => by
  obtain ⟨ps, e, tr, ha⟩ := t p hp
  obtain ⟨zs, l, m, u, hd, hc, _⟩ := id hs
  refine ⟨ps, r _ _ (ne_of e hd fun z => by cases z) (ne_of e hc fun z => by cases z) e, tr, fun pos cv hcv => ?_⟩
  obtain ⟨c, e1, e2⟩ := ha pos cv hcv
  refine ⟨c, e1, r _ _ (ne_of e2 hd fun z => ?_) (ne_of e2 hc fun z => ?_) e2⟩
  · unfold CodeO at z
    cases z
  · unfold CodeO at z
    cases z
def DdsL (H : Hp) (a : Addr) (ds : List Dd) : Prop := ∃ vs, H a = some (.lst vs) ∧ Paired (DdH H) vs ds
def HistH (H : Hp) (a : Addr) (hs : List (List (List Int))) : Prop := ∃ vs, H a = some (.lst vs) ∧ Paired (RowsH H) vs hs
/-- the law between two laps: the board at b with the deeds D done and the deeds L undone, the law's own history, later and deeds -/
structure Lp (d cs pL : Addr) (H : Hp) (p : Puz) (u : V) (b hi la de : Addr) (D L : List Dd) : Prop where
  src : SrcAt H d cs
  tab : Tabs [(pL, qL)] H
  pz : PzH H u p
  bd : BdH H (.ref b) p (after p.doms D) D L
  hs : HistH H hi (hist p.doms D)
  ld : DdsL H la L
  dd : DdsL H de D
  nb : b ≠ d ∧ b ≠ cs
  nh : hi ≠ d ∧ hi ≠ cs
  nl : la ≠ d ∧ la ≠ cs
  ne : de ≠ d ∧ de ≠ cs
  val : Valid p.doms (D ++ L.reverse)
section
variable {d cs pL : Addr} {H H' : Hp}
theorem bd_keep {b : Addr} {p : Puz} {ms : List (List Int)} {lg bk : List Dd} (h : BdH H (.ref b) p ms lg bk) (n : b ≠ d ∧ b ≠ cs) (hs : SrcAt H d cs) (k : Kx d cs H H') : BdH H' (.ref b) p ms lg bk := by
  obtain ⟨b', u, m, l, bv, e, hb, hp, hm, hl, hk⟩ := h
  cases e
  have kt := k.kt hs
  exact ⟨b, u, m, l, bv, rfl, k _ _ n.1 n.2 (fun ps z => by cases z) hb, hp.kt kt, hm.kt kt, hl.kt kt, hk.kt kt⟩
theorem dds_keep {a : Addr} {ds : List Dd} (h : DdsL H a ds) (n : a ≠ d ∧ a ≠ cs) (hs : SrcAt H d cs) (k : Kx d cs H H') : DdsL H' a ds := by
  obtain ⟨vs, e, p⟩ := h
  exact ⟨vs, k _ _ n.1 n.2 (fun ps z => by cases z) e, paired_mono (fun _ _ => DdH.kt (k.kt hs)) p⟩
theorem hist_keep {a : Addr} {ms : List (List (List Int))} (h : HistH H a ms) (n : a ≠ d ∧ a ≠ cs) (hs : SrcAt H d cs) (k : Kx d cs H H') : HistH H' a ms := by
  obtain ⟨vs, e, p⟩ := h
  exact ⟨vs, k _ _ n.1 n.2 (fun ps z => by cases z) e, paired_mono (fun _ _ => RowsH.kt (k.kt hs)) p⟩
theorem Lp.keep {p : Puz} {u : V} {b hi la de : Addr} {D L : List Dd} (h : Lp d cs pL H p u b hi la de D L) (k : Kx d cs H H') (s : SrcAt H' d cs) (t : Tabs [(pL, qL)] H') : Lp d cs pL H' p u b hi la de D L :=
  ⟨s, t, h.pz.kt (k.kt h.src), bd_keep h.bd h.nb h.src k, hist_keep h.hs h.nh h.src k, dds_keep h.ld h.nl h.src k, dds_keep h.dd h.ne h.src k, h.nb, h.nh, h.nl, h.ne, h.val⟩
theorem Lp.same {p : Puz} {u : V} {b hi la de : Addr} {D L : List Dd} (h : Lp d cs pL H p u b hi la de D L) (s : Same H H') : Lp d cs pL H' p u b hi la de D L := h.keep (kx_same s) (h.src.same s) (Tabs.ext h.tab s)
theorem Lp.rn {p : Puz} {u : V} {b hi la de : Addr} {D L : List Dd} (h : Lp d cs pL H p u b hi la de D L) (s : SrcAt H' d cs) (r : Rn d cs H H') : Lp d cs pL H' p u b hi la de D L := h.keep (kx_rn r) s (tabs_rn h.src r h.tab)
theorem Lp.ext {p : Puz} {u : V} {b hi la de : Addr} {D L : List Dd} (h : Lp d cs pL H p u b hi la de D L) (r : ExtN H H') (t : Tabs [(pL, qL)] H') : Lp d cs pL H' p u b hi la de D L := h.keep (kx_ext r) (src_ext r h.src) t
theorem Lp.cmp {p : Puz} {u : V} {b hi la de : Addr} {D L : List Dd} (h : Lp d cs pL H p u b hi la de D L) : (∀ q ∈ D, isWd q.1 ∧ DdG p.doms q) ∧ ∀ q ∈ L, isWd q.1 ∧ DdG p.doms q :=
  ⟨fun q hq => (h.val.all q (List.mem_append_left _ hq)).symm, fun q hq => (h.val.all q (List.mem_append_right _ (List.mem_reverse.mpr hq))).symm⟩
end
theorem dmG {p : Puz} (pd : Pd p) : DmG p.doms := ⟨by have := pd.n4; omega, fun e he => ⟨by have := (pd.dom e he).2.2.1; omega, (pd.dom e he).1⟩⟩
theorem Lp.mkg {d cs pL : Addr} {H : Hp} {p : Puz} {u : V} {b hi la de : Addr} {D L : List Dd} (h : Lp d cs pL H p u b hi la de D L) (pd : Pd p) : MkG p.doms (after p.doms D) := (MkG.of (dmG pd)).after (dmG pd) D fun q hq => (h.cmp.1 q hq).2
theorem dom_few {p : Puz} (pd : Pd p) (c : Nat) {v : Int} (h : v ∈ p.doms.getD c []) : Few v := by
  rw [List.getD_eq_getElem?_getD] at h
  cases e : p.doms[c]? with
  | none => rw [e] at h; cases h
  | some d => rw [e] at h; exact (pd.dom d (List.mem_of_getElem? e)).2.1 v h
theorem dd_few {p : Puz} (pd : Pd p) {q : Dd} (w : isWd q.1) (g : DdG p.doms q) : SmQ q := ⟨w, ⟨g.1, by have := g.2.1; have := pd.n4; omega⟩, dom_few pd _ g.2.2⟩
/-- a board of the law is shown -/
theorem repr_use {K : PySem.W.Frag} {d cs pL : Addr} {H : Hp} {p : Puz} {b : Addr} {D L : List Dd} (pd : Pd p) (hD : ∀ q ∈ D, isWd q.1 ∧ DdG p.doms q) (hL : ∀ q ∈ L, isWd q.1 ∧ DdG p.doms q) (lD : D.length ≤ 100) (lL : L.length ≤ 100) (h : BdH H (.ref b) p (after p.doms D) D L) {Q : VK}
    (k : Q (.str (bD (bdE p (after p.doms D) D L)).shown) H) : rReprB K [.ref b] H Q := by
  obtain ⟨b', u, m, l, bv, e, hb, hp, hm, hl, hk⟩ := h
  cases e
  have mk := (MkG.of (dmG pd)).after (dmG pd) D fun q hq => (hD q hq).2
  have rows : ∀ r ∈ after p.doms D, r.length ≤ 8 ∧ ∀ v ∈ r, Few v := fun r hr => by
    obtain ⟨i, hi⟩ := List.getElem?_of_mem hr
    have e : (after p.doms D).getD i [] = r := by rw [List.getD_eq_getElem?_getD, hi]; rfl
    rw [← e]
    exact ⟨Nat.le_trans (mk.l4 (dmG pd) i) (by decide), fun v hv => dom_few pd i (mk.sub i v hv)⟩
  obtain ⟨f1, f2, f3, f4⟩ := bd_shown (ms := after p.doms D) pd rows (by rw [mk.len]; have := pd.n4; omega) (fun q hq => dd_few pd (hD q hq).1 (hD q hq).2) lD (fun q hq => dd_few pd (hL q hq).1 (hL q hq).2) lL
  exact ⟨b, [("puzzle", u), ("marks", m), ("log", l), ("back", bv)], bdE p (after p.doms D) D L, rfl, hb, .cons ⟨rfl, puz_dp hp⟩ (.cons ⟨rfl, hm.dp⟩ (.cons ⟨rfl, hl.dp⟩ (.cons ⟨rfl, hk.dp⟩ .nil))), f1, f2, f3, f4, k⟩
theorem ldp {K : PySem.W.Frag} {H : Hp} {a : Addr} {ds : List Dd} (h : DdsL H a ds) : Dp K H (.ref a) (.list (ds.map dDd)) := by
  obtain ⟨vs, e, p⟩ := h
  exact .lst (sql e) (dds_all p)
theorem lcmp {l : List Dd} (h : ∀ q ∈ l, isWd q.1) : Cmp (.list (l.map dDd)) := by
  obtain ⟨i1, i2⟩ := dds_can h
  refine ⟨by simpa [PyData.canLay0] using i1, ?_⟩
  simp only [PyData.depth]
  omega
theorem eqv_lnil (l : List Dd) : PyData.eqv (.list (l.map dDd)) (.list []) = decide (l = []) := by
  cases l with
  | nil => decide +kernel
  | cons a l => simp [PyData.eqv, PyData.eqvAll]
theorem cmp_nil : Cmp (.list []) := ⟨by decide +kernel, by decide +kernel⟩
end G9

set_option Elab.async false
set_option linter.all false
set_option maxRecDepth 100000
set_option maxHeartbeats 8000000
/-! the law's body -/
namespace G9
open PySem PySem.Spec PyProof.Rows L2 GX
abbrev nmLaw : List Str := ["_law_script", "_law_source", "_law_puzzle", "_law_board", "_law_history", "_law_later", "_law_deeds", "_law_lap", "_law_held", "_law_road", "_law_late", "_law_deed", "_law_odd", "_law_value"]
open LamX
/-- a def with its promise, exceptions told -/
structure FnX (P : Program) (w : World) (K : PySem.W.Frag) (mg : Str → Option Value) (base : Heap) (x : Str) (st : Stmt) (ps : List Str) (k : Nat) (sp : Sp) (f : Addr) (fd : FuncData) : Prop where
  D : Df K mg x st ps f fd
  G : FnOk P w K mg base (L2.CX P w) k f fd ps sp
theorem memT {pL : Addr} {X : Cx} (h : X.env.qual = qL0) : (pL, X.env.qual ++ "<lambda>") ∈ [(pL, qL)] := by
  rw [h]
  exact List.mem_cons_self
theorem allT {pL : Addr} {X : Cx} (h : X.env.qual = qL0) : ∀ p ∈ [(pL, qL)], p.1 = pL → p.2 = X.env.qual ++ "<lambda>" := fun p hp _ => by
  rw [h, List.mem_singleton.mp hp]
  rfl
/-- nothing is let out -/
theorem passF {w : World} {X : Cx} (h : X.w = w := by rfl) : Passes (L2.CX X.prog w) X (fun _ _ _ => False) := by
  subst h
  exact passes_call LamX.takes0 fun _ _ _ _ h => h
theorem reprBK (K : PySem.W.Frag) {X : Cx} (hg : X.A.guards = some []) (hu : X.A.units + 64 < cLine) (h : X.K = K := by rfl) : CallR X (.builtin "repr") (rReprB K) := h ▸ call_reprB hg hu
theorem neBK (K : PySem.W.Frag) {X : Cx} (hu : X.A.units + 64 < cLine) (h : X.K = K := by rfl) : OpR X (compareOp .NotEq) (rNeB K) := h ▸ op_neB hu
theorem look_blk {env : Env} {x : Str} : ∀ {names : List (Str × NameKind)}, (names.lookup x = some .cell ∨ names.lookup x = some .free) →
    (names.map fun (n, k) => if (k == NameKind.free && env.scope.kind == .function && env.kindOf n == some .cell) then (n, NameKind.cell) else (n, k)).lookup x = some .cell ∨
    (names.map fun (n, k) => if (k == NameKind.free && env.scope.kind == .function && env.kindOf n == some .cell) then (n, NameKind.cell) else (n, k)).lookup x = some .free
  | [], h => by simp at h
  | (n, k) :: r, h => by
    have ih := look_blk (env := env) (x := x) (names := r)
    rw [List.map_cons]
    rw [List.lookup_cons] at h
    dsimp only
    split
    · rename_i c
      rw [List.lookup_cons]
      cases hx : x == n with
      | true => exact .inl rfl
      | false => rw [hx] at h; exact ih h
    · rw [List.lookup_cons]
      cases hx : x == n with
      | true => rw [hx] at h; exact h
      | false => rw [hx] at h; exact ih h
theorem lamS_blk {cs scope : Scope} (env : Env) (h : lamSB cs scope = true) : LamS (PySem.relabel cs env) scope :=
  have g := lamS_by h
  ⟨g.kind, g.co, g.gen, g.own, fun y hy e => look_blk (g.free y hy e)⟩
def spLaw (K : PySem.W.Frag) (pL : Addr) : Sp := fun vs H Q _ => ∃ (a : Addr) (ns : List Int), vs = [.ref a] ∧ SqL K H a (ns.map V.int) ∧ ns.length ≤ 63 ∧ H pL = some (.tbl #[]) ∧ ∀ H', Q (.bl true) H'
theorem pss_off {X : Cx} {l : List Stmt} : PSs X l (fun _ _ _ => False) := ⟨fun _ _ _ _ _ _ h => h.elim⟩
theorem ps_off {X : Cx} {l : Stmt} : PS X l (fun _ _ _ => False) := ⟨fun _ _ _ _ _ _ h => h.elim⟩
theorem pe_off {X : Cx} {l : Expr} : PE X l (fun _ _ _ => False) := ⟨fun _ _ _ _ _ _ h => h.elim⟩
/-- refused, in a comprehension of the law -/
theorem pe_refB {X : Cx} {sB : Shared} {HB : Hp} {cs scope : Scope} {cl : List (Str × Addr)} {C c P f CS fD : Addr} {fp : List Addr} {fd dD : FuncData} {p p1 p2 p3 p4 lpos pos : Pos} (D : Df X.K X.mg "_law_is_refused" sLIsRefused ["_law_call"] f fd) (E : ExC X.K X.mg "BadDeed" CS)
    (FD : FnX X.prog X.w X.K X.mg X.base "done" sDone ["board", "deed"] 4 (spDone X.K CS) fD dD) (TB : LamX.TabB X.base X.mg c P) (hcode : X.env.code = .ref c) (hq : X.env.qual = qL0) (hr : Room 7 X.A) (hN3 : X.N[3]? = some ("_law_board" : Str)) (hN13 : X.N[13]? = some ("_law_value" : Str)) (hcs : lamSB cs scope = true)
    (hgl : Gl (X.blk sB HB cs (compEnvC cs cl C X.env) fp) "_law_is_refused") (hgd : scope.names.lookup ("done" : Str) = some .globalImplicit) (hv3 : scope.names.lookup ("_law_board" : Str) = some .free) (hv13 : scope.names.lookup ("_law_value" : Str) = some .free) :
    PE (X.blk sB HB cs (compEnvC cs cl C X.env) fp) (.Call (.Name "_law_is_refused" p) [.Lambda ⟨[], [], none, [], [], none, []⟩ (.Call (.Name "done" p1) [.Name "_law_board" p2, .Name "_law_value" p3] [] p4) scope lpos] [] pos)
      (tLam [(P, qL)] (TRef X.K CS) (fun E => tCall (spDone X.K CS) [] E (tCons (tVar 3) (tCons (tVar 13) tNil)))) := by
  refine pe_refused (X := X.blk sB HB cs (compEnvC cs cl C X.env) fp) (k := 5) (scope := scope) D E hgl TB hcode ?_ ?_ hr (lamS_blk _ hcs) (fun A outer s H E f c' hr => ?_) rfl (by intros; rfl)
  · exact memT (X := X) hq
  · exact allT (X := X) hq
  · refine pe_call (X := lamCx (X.blk sB HB cs (compEnvC cs cl C X.env) fp) A outer s H E scope f c') (CX := L2.CX X.prog X.w) (sp := spDone X.K CS) (E := E) FD.G (hr.mono (by decide)) hgd FD.D.g FD.D.F.kp FD.D.b .nil (passes_call (takes_of rfl rfl rfl rfl) (fun _ _ _ _ h => h)) (pa_cons (pe_var (i := 3) hN3 (.inr (.inr hv3))) (pa_cons (pe_var (i := 13) hN13 (.inr (.inr hv13))) pa_nil))
/-- what comes behind a statement is asked once, of all that F tells -/
theorem seq_dup {T U : TS} {D : Ends} {σ : L2.St} {H : Hp} {F : L2.St → Hp → Prop} (h : ∀ N : L2.St → Hp → Prop, (∀ σ H, F σ H → N σ H) → T { D with nx := N } σ H) (r : ∀ σ H, F σ H → U D σ H) : tSeq T U D σ H := h (U D) r
theorem rd_ext {H H' : Hp} (s : ExtN H H') {a : Addr} {o : HO} (n : ∀ ps, o ≠ .tbl ps) (h : Rd H a o) : Rd H' a o := h.imp (fun e => s _ _ e n) fun ⟨ob, e⟩ => ⟨ob, s _ _ e fun ps z => by cases z⟩
theorem sqL_ext {K : PySem.W.Frag} {H H' : Hp} (s : ExtN H H') {a : Addr} {xs : List V} (h : SqL K H a xs) : SqL K H' a xs := h.imp (rd_ext s fun ps z => by cases z) id
theorem sqT_ext {K : PySem.W.Frag} {H H' : Hp} (s : ExtN H H') {a : Addr} {xs : List V} (h : SqT K H a xs) : SqT K H' a xs := h.imp (rd_ext s fun ps z => by cases z) id
mutual
theorem dp_ext {K : PySem.W.Frag} {H H' : Hp} (s : ExtN H H') : ∀ {d : PyData} {x : V}, Dp K H x d → Dp K H' x d
  | .none, _, .non => .non
  | .bool _, _, .bl b => .bl b
  | .int _, _, .int i => .int i
  | .str _, _, .str x => .str x
  | .list _, _, .lst q a => .lst (sqL_ext s q) (dpAll_ext s a)
  | .tuple _, _, .tup q a => .tup (sqT_ext s q) (dpAll_ext s a)
theorem dpAll_ext {K : PySem.W.Frag} {H H' : Hp} (s : ExtN H H') : ∀ {ds : List PyData} {xs : List V}, DpAll K H xs ds → DpAll K H' xs ds
  | [], _, .nil => .nil
  | _ :: _, _, .cons h a => .cons (dp_ext s h) (dpAll_ext s a)
end
theorem od_ext {K : PySem.W.Frag} {H H' : Hp} {x : V} {p : Puz} {ms : List (List Int)} {r : Bool} (s : ExtN H H') (h : OdH K H x p ms r) : OdH K H' x p ms r := by
  rcases h with ⟨d, hd, h⟩ | ⟨a, wv, cv, tv, o, dc, dt, e, ha, hw, hc, ht, hr⟩
  · exact .inl ⟨d, dp_ext s hd, h⟩
  · refine .inr ⟨a, wv, cv, tv, o, dc, dt, e, s _ _ ha (fun ps z => by cases z), ?_, dp_ext s hc, dp_ext s ht, hr⟩
    rcases hw with ⟨z, h⟩ | ⟨e, ⟨a, ks, e2, g⟩ | ⟨ds, g, c⟩⟩
    · exact .inl ⟨z, h⟩
    · exact .inr ⟨e, .inl ⟨a, ks, e2, s _ _ g (fun ps z => by cases z)⟩⟩
    · exact .inr ⟨e, .inr ⟨ds, dp_ext s g, c⟩⟩
theorem tabs_upd {H : Hp} {R : Addr} {l l' : List V} {T : List (Addr × Str)} (hR : H R = some (.lst l)) (t : Tabs T H) : Tabs T (upd H R (.lst l')) := fun p hp => by
  obtain ⟨ps, e, tr, ha⟩ := t p hp
  refine ⟨ps, by rw [upd_ne (ne_of e hR fun z => by cases z)]; exact e, tr, fun pos cv hcv => ?_⟩
  obtain ⟨c, e1, e2⟩ := ha pos cv hcv
  refine ⟨c, e1, ?_⟩
  rw [upd_ne (ne_of e2 hR fun z => ?_)]
  · exact e2
  · unfold CodeO at z
    cases z
theorem ext_same {H H' : Hp} (s : Same H H') : ExtN H H' := fun b o e _ => s b o e
theorem any_no (n : Nat) : (List.replicate n false).any id = false := by
  induction n with
  | zero => rfl
  | succ n ih => rw [List.replicate_succ, List.any_cons, ih]; rfl
section
variable {P : Program} {w : World} {K : PySem.W.Frag} {mg : Str → Option Value} {base : Heap} {pL cL CB CN fOv fRf : Addr} {dOv dRf : FuncData} {fO fP fDP fNw fCu fID fDD fLM fND fDo fUn fRe : Addr} {dO dP dDP dNw dCu dID dDD dLM dND dDo dUn dRe : FuncData}
theorem law_body (B : Bl mg) (XB : ExC K mg "BadDeed" CB) (XN : ExC K mg "NothingDone" CN) (TL : LamX.TabB base mg cL pL) (DOv : Df K mg "_law_is_over" sLIsOver ["_law_call"] fOv dOv) (DRf : Df K mg "_law_is_refused" sLIsRefused ["_law_call"] fRf dRf) (FO : Fn P w K mg base "_law_open_cells" sOpen ["_law_script"] 1 (spOpen K) fO dO) (FP : Fn P w K mg base "_law_pick" sPick ["_law_source", "_law_most"] 1 spPick fP dP) (FDP : Fn P w K mg base "_law_draw_puzzle" sDrawPuzzle ["_law_source", "_law_most"] 7 spDrawPuzzle fDP dDP) (FNw : Fn P w K mg base "new_board" sNewBoard ["puzzle"] 2 spNew fNw dNw) (FCu : Fn P w K mg base "cut_puzzle" sCutPuzzle ["board"] 1 spCutB fCu dCu) (FID : Fn P w K mg base "is_deed" sIsDeed ["board", "value"] 3 (spIsDeed K) fID dID) (FDD : Fn P w K mg base "_law_draw_deed" sLDrawDeed ["_law_source", "_law_puzzle", "_law_marks"] 3 spDrawDeed fDD dDD) (FLM : Fn P w K mg base "_law_marked" sLMarked ["_law_marks", "_law_deed"] 1 spLMarked fLM dLM) (FND : Fn P w K mg base "_law_no_deeds" sLNoDeeds ["_law_puzzle", "_law_marks"] 1 (spNoDeeds K) fND dND) (FDo : FnX P w K mg base "done" sDone ["board", "deed"] 4 (spDone K CB) fDo dDo) (FUn : FnX P w K mg base "undone" sUndone ["board"] 4 (spUndone CN) fUn dUn) (FRe : FnX P w K mg base "redone" sRedone ["board"] 4 (spRedone CN) fRe dRe)
    {f : Addr} {A : Around} {outer : List Env} {s : Shared} {H : Hp} {vs : List V} {Q : VK} {E : XK} (hr : Room 12 (A.deeper (envOfC "law" (defScope sLaw) s.heap.objs.size f (.ref cL)))) (hA0 : A.guards = some []) (h : spLaw K pL vs H Q E) :
    ∃ t, PSs (cxOf CX0 P w K mg base nmLaw "law" (defScope sLaw) f (.ref cL) A outer s H E).nox (defBody sLaw) t ∧ t { nx := fun _ H' => Q .non H', rt := Q } (start nmLaw vs) H := by
  obtain ⟨a, ns, rfl, ha, hns, hT, k⟩ := h
  have hu := hr.units
  have hg : (A.deeper (envOfC "law" (defScope sLaw) s.heap.objs.size f (.ref cL))).guards = some [] := hA0
  refine ⟨_, (pss_cons (ps_set (i := 1) scLaw.nd rfl (by first | exact .inl rfl | exact .inr rfl) (pe_call FO.G (hr.mono (by decide)) (by rfl) FO.D.g FO.D.F.kp FO.D.b .nil pass0 (pa_cons (pv 0) pa_nil)))
      (pss_cons (ps_set (i := 2) scLaw.nd rfl (by first | exact .inl rfl | exact .inr rfl) (pe_call FDP.G (hr.mono (by decide)) (by rfl) FDP.D.g FDP.D.F.kp FDP.D.b .nil pass0 (pa_cons (pv 1) (pa_cons pe_int pa_nil))))
      (pss_cons (ps_asg (pe_tup (pa_cons (pe_call FNw.G (hr.mono (by decide)) (by rfl) FNw.D.g FNw.D.F.kp FNw.D.b .nil pass0 (pa_cons (pv 2) pa_nil)) (pa_cons (pe_lst (pa_cons (pe_ix ix_tup (pv 2) pe_int (fun _ _ => rfl)) pa_nil)) (pa_cons (pe_lst pa_nil) pa_nil)))) (pg_tupK K (n := 3) rfl (pgs_cons (pg_name (i := 3) scLaw.nd rfl (by first | exact .inl rfl | exact .inr rfl)) (pgs_cons (pg_name (i := 4) scLaw.nd rfl (by first | exact .inl rfl | exact .inr rfl)) (pgs_cons (pg_name (i := 5) scLaw.nd rfl (by first | exact .inl rfl | exact .inr rfl)) pgs_nil)))))
      (pss_cons (ps_set (i := 6) scLaw.nd rfl (by first | exact .inl rfl | exact .inr rfl) (pe_lst pa_nil))
      (pss_cons (ps_for PassesOwn.never rfl (pi_range1 (by rfl) B.range (pa_cons pe_int pa_nil)) (pg_name (i := 7) scLaw.nd rfl (by first | exact .inl rfl | exact .inr rfl)) (pss_cons (ps_par (i := 8) (j := 9) rfl scLaw.nd rfl rfl (by decide) rfl rfl (pa_cons (pe_callB (reprBK K hg hu) (by rfl) B.repr PyProof.Rows.boot_repr (pa_cons (pv 3) pa_nil)) (pa_cons (pe_call FP.G (hr.mono (by decide)) (by rfl) FP.D.g FP.D.F.kp FP.D.b .nil pass0 (pa_cons (pv 1) (pa_cons pe_int pa_nil))) pa_nil)) (by rfl))
      (pss_cons (ps_if (pt_cmpR op_eq (pv 9) pe_int (nomark _)) (pss_cons (ps_if (pt_cmpR (eqDD K hu) (pv 6) (pe_lst pa_nil) (nomark _)) (pss_cons (ps_if (pt_not (pt_val (pe_over (k := 5) DOv XN (by rfl) TL rfl (memT rfl) (allT rfl) (hr.mono (by decide)) (lamS_by (sc := defScope sLaw) (by decide +kernel)) (fun A outer s H E f c' hr => (pe_call FUn.G (hr.mono (by decide)) (by rfl) FUn.D.g FUn.D.F.kp FUn.D.b .nil (passes_call (takes_of rfl rfl rfl rfl) (fun _ _ _ _ h => h)) (pa_cons (pv 3) pa_nil)))))) (pss_one (ps_ret pe_bl)) pss_nil)
      (pss_one ps_continue)) pss_nil)
      (pss_cons (ps_par (i := 10) (j := 5) rfl scLaw.nd rfl rfl (by decide) rfl rfl (pa_cons (pe_call FUn.G (hr.mono (by decide)) (by rfl) FUn.D.g FUn.D.F.kp FUn.D.b .nil (passF (w := w)) (pa_cons (pv 3) pa_nil)) (pa_cons (pe_op op_cat (pv 5) (pe_lst (pa_cons (pe_ix ix_list (pv 6) (pe_un un_neg pe_int) (fun _ _ => rfl)) pa_nil))) pa_nil)) (by rfl))
      (pss_one (ps_par (i := 6) (j := 4) rfl scLaw.nd rfl rfl (by decide) rfl rfl (pa_cons (pe_slice sl_list (pv 6) po_none (po_some (pe_un un_neg pe_int))) (pa_cons (pe_slice sl_list (pv 4) po_none (po_some (pe_un un_neg pe_int))) pa_nil)) (by rfl))))) (pss_one (ps_if (pt_cmpR op_eq (pv 9) pe_int (nomark _)) (pss_cons (ps_if (pt_cmpR (eqDD K hu) (pv 5) (pe_lst pa_nil) (nomark _)) (pss_cons (ps_if (pt_not (pt_val (pe_over (k := 5) DOv XN (by rfl) TL rfl (memT rfl) (allT rfl) (hr.mono (by decide)) (lamS_by (sc := defScope sLaw) (by decide +kernel)) (fun A outer s H E f c' hr => (pe_call FRe.G (hr.mono (by decide)) (by rfl) FRe.D.g FRe.D.F.kp FRe.D.b .nil (passes_call (takes_of rfl rfl rfl rfl) (fun _ _ _ _ h => h)) (pa_cons (pv 3) pa_nil)))))) (pss_one (ps_ret pe_bl)) pss_nil)
      (pss_one ps_continue)) pss_nil)
      (pss_cons (ps_set (i := 10) scLaw.nd rfl (by first | exact .inl rfl | exact .inr rfl) (pe_call FRe.G (hr.mono (by decide)) (by rfl) FRe.D.g FRe.D.F.kp FRe.D.b .nil (passF (w := w)) (pa_cons (pv 3) pa_nil)))
      (pss_one (ps_par3 (i := 6) (j := 4) (l := 5) rfl scLaw.nd rfl rfl rfl (by decide) (by decide) (by decide) rfl rfl rfl (pa_cons (pe_op op_cat (pv 6) (pe_lst (pa_cons (pe_ix ix_list (pv 5) (pe_un un_neg pe_int) (fun _ _ => rfl)) pa_nil))) (pa_cons (pe_op op_cat (pv 4) (pe_lst (pa_cons (pe_call FLM.G (hr.mono (by decide)) (by rfl) FLM.D.g FLM.D.F.kp FLM.D.b .nil pass0 (pa_cons (pe_ix ix_list (pv 4) (pe_un un_neg pe_int) (fun _ _ => rfl)) (pa_cons (pe_ix ix_list (pv 5) (pe_un un_neg pe_int) (fun _ _ => rfl)) pa_nil))) pa_nil))) (pa_cons (pe_slice sl_list (pv 5) po_none (po_some (pe_un un_neg pe_int))) pa_nil))) (by rfl))))) (pss_cons (ps_set (i := 11) scLaw.nd rfl (by first | exact .inl rfl | exact .inr rfl) (pe_call FDD.G (hr.mono (by decide)) (by rfl) FDD.D.g FDD.D.F.kp FDD.D.b .nil pass0 (pa_cons (pv 1) (pa_cons (pv 2) (pa_cons (pe_ix ix_list (pv 4) (pe_un un_neg pe_int) (fun _ _ => rfl)) pa_nil)))))
      (pss_cons (ps_if (pt_cmp (pc_isN (pv 11))) (pss_one ps_continue) pss_nil)
      (pss_cons (ps_if (pt_not (pt_val (pe_call FID.G (hr.mono (by decide)) (by rfl) FID.D.g FID.D.F.kp FID.D.b .nil pass0 (pa_cons (pv 3) (pa_cons (pv 11) pa_nil))))) (pss_one (ps_ret pe_bl)) pss_nil)
      (pss_cons (ps_set (i := 10) scLaw.nd rfl (by first | exact .inl rfl | exact .inr rfl) (pe_call FDo.G (hr.mono (by decide)) (by rfl) FDo.D.g FDo.D.F.kp FDo.D.b .nil (passF (w := w)) (pa_cons (pv 3) (pa_cons (pv 11) pa_nil))))
      (pss_one (ps_par3 (i := 6) (j := 4) (l := 5) rfl scLaw.nd rfl rfl rfl (by decide) (by decide) (by decide) rfl rfl rfl (pa_cons (pe_op op_cat (pv 6) (pe_lst (pa_cons (pv 11) pa_nil))) (pa_cons (pe_op op_cat (pv 4) (pe_lst (pa_cons (pe_call FLM.G (hr.mono (by decide)) (by rfl) FLM.D.g FLM.D.F.kp FLM.D.b .nil pass0 (pa_cons (pe_ix ix_list (pv 4) (pe_un un_neg pe_int) (fun _ _ => rfl)) (pa_cons (pv 11) pa_nil))) pa_nil))) (pa_cons (pe_lst pa_nil) pa_nil))) (by rfl))))))))))
      (pss_cons (ps_if (pw_or (pt_cmpR op_ne (pe_callB (reprBK K hg hu) (by rfl) B.repr PyProof.Rows.boot_repr (pa_cons (pv 3) pa_nil)) (pv 8) (nomark _)) (pw_or1 (pt_cmpR (neBK K hu) (pv 10) (pe_disp (pps_cons pe_str (pv 2) (pps_cons pe_str (pe_ix ix_list (pv 4) (pe_un un_neg pe_int) (fun _ _ => rfl)) (pps_cons pe_str (pe_callTy (tupleOf K) (by rfl) B.tuple PyProof.Rows.boot_tuple (pa_cons (pv 6) pa_nil)) (pps_cons pe_str (pe_callTy (tupleOf K) (by rfl) B.tuple PyProof.Rows.boot_tuple (pa_cons (pv 5) pa_nil)) pps_nil)))) (by rfl) (by rfl) (fun z => by cases z) (by decide)) (nomark _)))).pt (pss_one (ps_ret pe_bl)) pss_nil)
      (pss_cons (ps_set (i := 3) scLaw.nd rfl (by first | exact .inl rfl | exact .inr rfl) (pv 10))
      (pss_one (ps_if (pt_cmpR (neDD K hu) (pe_call FCu.G (hr.mono (by decide)) (by rfl) FCu.D.g FCu.D.F.kp FCu.D.b .nil pass0 (pa_cons (pv 3) pa_nil)) (pe_tup (pa_cons (pe_ix ix_list (pv 4) (pe_un un_neg pe_int) (fun _ _ => rfl)) (pa_cons (pe_ix ix_tup (pv 2) pe_int (fun _ _ => rfl)) pa_nil))) (nomark _)) (pss_one (ps_ret pe_bl)) pss_nil)))))))
      (pss_cons (ps_set (i := 12) scLaw.nd rfl (by first | exact .inl rfl | exact .inr rfl) (pe_call FND.G (hr.mono (by decide)) (by rfl) FND.D.g FND.D.F.kp FND.D.b .nil pass0 (pa_cons (pv 2) (pa_cons (pe_dget (lt1 hu) (pv 3) pe_str (fun _ _ => rfl)) pa_nil))))
      (pss_one (ps_ret (pe_not (pe_callB (anyK K rfl) (by rfl) B.any PyProof.Rows.boot_any (pa_cons (pe_lc (own := [("_law_value", 13)]) rfl scLaw.nd (pi_list (pv 12)) (blkOk_by (N := nmLaw) (sc := defScope sLaw) (by decide +kernel)) (fun _ _ _ _ _ => (pg_name (i := 13) scLaw.nd rfl (by first | exact .inl rfl | exact .inr rfl))) (fun _ _ _ _ _ => pts_nil) (fun _ _ _ _ _ => (pe_or (pe_call FID.G (hr.mono (by decide)) (by rfl) FID.D.g FID.D.F.kp FID.D.b .nil pass0 (pa_cons (pv 3) (pa_cons (pv 13) pa_nil))) (pe_one (pe_not (pe_refB DRf XB FDo TL rfl rfl (hr.mono (by decide)) rfl rfl (by decide +kernel) (by rfl) (by rfl) (by rfl) (by rfl))))))) pa_nil))))))))))), ?_⟩
  refine ⟨_, rfl, a, ns, rfl, ha, hns, fun d cs H1 s1 nd ncs src1 => ?_⟩
  have tab1 : Tabs [(pL, qL)] H1 := Tabs.ext (fun p hp => by rw [List.mem_singleton.mp hp]; exact TabS.nil hT) s1
  refine ⟨_, rfl, d, cs, 4, rfl, src1, by decide, by decide, fun u p H2 okp pn1 pn4 pr8 pdom prul hs2 rn2 hp2 => ?_⟩
  have pd : Pd p := ⟨okp, pn1, by omega, pr8, pdom, prul⟩
  have tab2 := tabs_rn src1 rn2 tab1
  clear rn2 tab1 src1 ncs nd s1 ha hns hT okp pn1 pn4 pr8 pdom prul
  refine ⟨_, rfl, u, p, rfl, hp2, fun bv H3 s3 hb3 fr3 => ?_⟩
  obtain ⟨b0, rfl, hbn⟩ := fr3
  obtain ⟨pa, px, py, rfl, hpa, hpx, hpy⟩ := id (hp2.kt (kt_same s3))
  refine ⟨_, rfl, pa, _, 0, _, rfl, rfl, sqt hpa, rfl, (show 1 ≤ sizeLine by decide), fun Hi hHi => ⟨by decide, fun La hLa => ⟨(show 3 ≤ sizeLine by decide), fun T hT => ?_⟩⟩⟩
  refine ⟨T, _, rfl, sqt upd_same, rfl, _, _, rfl, _, _, rfl, _, _, rfl, rfl, ?_⟩
  refine ⟨by decide, fun De hDe => ?_⟩
  have sHi := same_new (o := .lst [px]) hHi
  have sLa := same_new (o := .lst []) hLa
  have sT := same_new (o := .tup [V.ref b0, .ref Hi, .ref La]) hT
  have sDe := same_new (o := .lst []) hDe
  have n0 := hs2.none hbn
  have n1 := hs2.none (none_same s3 hHi)
  have n2 := hs2.none (none_same (Same.tr s3 sHi) hLa)
  have n3 := hs2.none (none_same (Same.tr s3 (Same.tr sHi (Same.tr sLa sT))) hDe)
  have s4 := Same.tr sHi (Same.tr sLa (Same.tr sT sDe))
  have s24 := Same.tr s3 s4
  have hHi1 : upd H3 Hi (.lst [px]) Hi = some (.lst [px]) := upd_same
  have hLa1 : upd (upd H3 Hi (.lst [px])) La (.lst []) La = some (.lst []) := upd_same
  have lp : Lp d cs pL (upd (upd (upd (upd H3 Hi (.lst [px])) La (.lst [])) T (.tup [V.ref b0, .ref Hi, .ref La])) De (.lst [])) p (.ref pa) b0 Hi La De [] [] :=
    ⟨hs2.same s24, Tabs.ext tab2 s24, hp2.kt (kt_same s24), hb3.same s4, ⟨[px], Same.tr sLa (Same.tr sT sDe) _ _ hHi1, .cons (hpx.kt (kt_same s4)) .nil⟩, ⟨[], Same.tr sT sDe _ _ hLa1, .nil⟩, ⟨[], upd_same, .nil⟩, n0, n1, n2, n3, fun A q B e => by cases A <;> cases e⟩
  generalize upd (upd (upd (upd H3 Hi (.lst [px])) La (.lst [])) T (.tup [V.ref b0, .ref Hi, .ref La])) De (.lst []) = H5 at lp ⊢
  clear s24 s4 n3 n2 n1 n0 sDe sT sLa sHi hHi1 hLa1 hDe hT hLa hHi s3 hb3 hbn hp2 tab2 hs2 hpa hpx hpy
  refine ⟨14, rfl, by decide, by decide, ?_⟩
  have StI : ∃ St : Nat → L2.St → Hp → Prop, ∀ i σ H', St i σ H' ↔ ∃ (b hi la de : Addr) (D L : List Dd) (o7 o8 o9 o10 o11 o12 o13 : Option V), σ = [some (.ref a), some (.ref d), some (.ref pa), some (.ref b), some (.ref hi), some (.ref la), some (.ref de), o7, o8, o9, o10, o11, o12, o13] ∧ Lp d cs pL H' p (.ref pa) b hi la de D L ∧ D.length ≤ i ∧ L.length ≤ i := ⟨_, fun _ _ _ => Iff.rfl⟩
  obtain ⟨St, hSt⟩ := StI
  refine for_range (n := 14) St ((hSt _ _ _).mpr ⟨_, _, _, _, [], [], _, _, _, _, _, _, _, rfl, lp, Nat.le_refl _, Nat.le_refl _⟩) (fun i σ H' hi h => ?_) (fun σ H' h => ?_)
  · obtain ⟨b, hi, la, de, D, L, o7, o8, o9, o10, o11, o12, o13, rfl, lp, lD, lL⟩ := (hSt _ _ _).mp h
    clear h
    have cm := lp.cmp
    refine ⟨_, rfl, ?_⟩
    dsimp only [tNil]
    refine repr_use (K := K) (d := d) (cs := cs) (pL := pL) pd cm.1 cm.2 (by omega) (by omega) lp.bd ⟨_, rfl, d, cs, _, rfl, lp.src, by decide, fun r H1 _ r1 hs1 rn1 => ?_⟩
    have lp1 := lp.rn hs1 rn1
    have rb := r1 (by decide)
    refine ⟨_, _, rfl, ?_⟩
    obtain ⟨sh, hsh⟩ : ∃ sh, sh = (bD (bdE p (after p.doms D) D L)).shown := ⟨_, rfl⟩
    rw [← hsh]
    clear lp rn1 hs1 r1
    have PoI : ∃ Po : L2.St → Hp → Prop, ∀ σ H', Po σ H' ↔ ∃ (lt hi' la' de' : Addr) (D' L' : List Dd) (o7 o9 o11 o12 o13 : Option V), σ = [some (.ref a), some (.ref d), some (.ref pa), some (.ref b), some (.ref hi'), some (.ref la'), some (.ref de'), o7, some (.str sh), o9, some (.ref lt), o11, o12, o13] ∧ Lp d cs pL H' p (.ref pa) lt hi' la' de' D' L' ∧ BdH H' (.ref b) p (after p.doms D) D L ∧ D'.length ≤ i + 1 ∧ L'.length ≤ i + 1 := ⟨_, fun _ _ => Iff.rfl⟩
    obtain ⟨Po, hPo⟩ := PoI
    have cont : ∀ (σ : L2.St) (H2 : Hp) (o7 o8 o9 o10 o11 : Option V), σ = [some (.ref a), some (.ref d), some (.ref pa), some (.ref b), some (.ref hi), some (.ref la), some (.ref de), o7, o8, o9, o10, o11, o12, o13] → Lp d cs pL H2 p (.ref pa) b hi la de D L → St (i + 1) σ H2 := fun σ H2 o7 o8 o9 o10 o11 e l => (hSt _ _ _).mpr ⟨_, _, _, _, _, _, _, _, _, _, _, _, _, e, l, by omega, by omega⟩
    have dm := dmG pd
    have cm := lp1.cmp
    have mkg := lp1.mkg pd
    refine seq_dup (F := Po) (fun N rest => ?_) ?_
    · refine ⟨_, rfl, rfl, _, rfl, ?_⟩
      by_cases e0 : r = 0
      · refine ifT (decide_eq_true (by rw [e0])) ?_
        refine ⟨_, rfl, by decide, fun T hT => ?_⟩
        have sT := same_new (o := .lst []) hT
        have lp2 := lp1.same sT
        refine ⟨_, _, ldp lp2.dd, .lst (sql upd_same) .nil, lcmp fun q hq => (cm.1 q hq).1, cmp_nil, ?_⟩
        rw [eqv_lnil]
        generalize upd H1 T (.lst []) = H2 at lp2 ⊢
        refine ⟨_, rfl, ?_⟩
        by_cases e1 : D = []
        · refine ifT (decide_eq_true e1) ?_
          refine ⟨lp2.tab, fun H3 x3 t3 => ?_⟩
          have lp3 := lp2.ext x3 t3
          refine ⟨_, rfl, .ref b, p, _, _, _, rfl, lp3.bd, dm, fun q hq => (cm.1 q hq).2, by omega, by omega, fun _ H4 s4 => ⟨true, XN.m, fun _ => ?_, fun z => by cases z⟩, fun l q e => ?_⟩
          · refine ⟨_, rfl, ifF rfl ?_⟩
            exact cont _ _ _ _ _ _ _ rfl (lp3.same s4)
          · rw [e1] at e
            exact absurd e (by simp)
        · refine ifF (decide_eq_false e1) ?_
          rcases List.eq_nil_or_concat D with z | ⟨D0, q, z⟩
          · exact absurd z e1
          rw [List.concat_eq_append] at z
          have hd2 := lp2.dd
          have hh2 := lp2.hs
          have val2 := lp2.val
          obtain ⟨bdv, pL0⟩ : BdH H2 (.ref b) p (after p.doms D) D L ∧ True := ⟨lp2.bd, trivial⟩
          rw [z] at hd2 hh2 val2
          rw [hist_snoc] at hh2
          obtain ⟨dvs, hde, pdv⟩ := hd2
          obtain ⟨dus, xq, rfl, pdu, dxq⟩ := paired_last pdv
          obtain ⟨hvs, hhi, phv⟩ := hh2
          obtain ⟨hus, xh, rfl, phu, dxh⟩ := paired_last phv
          obtain ⟨lvs, hla, plv⟩ := lp2.ld
          have lvl := plv.length
          refine ⟨_, rfl, .ref b, p, _, _, _, rfl, bdv, dm, fun q hq => (cm.1 q hq).2, by omega, by omega, fun e => absurd e e1, fun l q' e w H3 s3 hb3 nb3 => ?_⟩
          obtain ⟨rfl, e'⟩ := List.append_inj' (z.symm.trans e) rfl
          cases e'
          obtain ⟨lt, rfl, hlt⟩ := nb3
          have k3 := kt_same s3
          refine ⟨_, rfl, _, rfl, _, rfl, de, _, -1, xq, rfl, rfl, sql (s3 _ _ hde), atI_m1 _ _, (show 1 ≤ sizeLine by decide), fun U hU => ?_⟩
          have sU := same_new (o := .lst [xq]) hU
          refine ⟨la, U, lvs, [xq], rfl, rfl, sU _ _ (s3 _ _ hla), upd_same, by rw [List.length_singleton, sizeLine_eq]; omega, fun W hW => ?_⟩
          have sW := same_new (o := .lst (lvs ++ [xq])) hW
          have hWW : upd (upd H3 U (.lst [xq])) W (.lst (lvs ++ [xq])) W = some (.lst (lvs ++ [xq])) := upd_same
          have s3W := Same.tr s3 (Same.tr sU sW)
          have hb4 := hb3.same (Same.tr sU sW)
          have nW := lp2.src.none (none_same (Same.tr s3 sU) hW)
          have nlt := lp2.src.none hlt
          generalize upd (upd H3 U (.lst [xq])) W (.lst (lvs ++ [xq])) = H4 at s3W hb4 hWW ⊢
          refine ⟨_, _, rfl, ?_⟩
          refine ⟨_, rfl, _, rfl, -1, rfl, de, _, rfl, sql (s3W _ _ hde), fun X hX => ?_⟩
          rw [cutV_m1]
          have sX := same_new (o := .lst dus) hX
          have hXX : upd H4 X (.lst dus) X = some (.lst dus) := upd_same
          refine ⟨_, rfl, _, rfl, -1, rfl, hi, _, rfl, sql (sX _ _ (s3W _ _ hhi)), fun Y hY => ?_⟩
          rw [cutV_m1]
          have sY := same_new (o := .lst hus) hY
          have hYY : upd (upd H4 X (.lst dus)) Y (.lst hus) Y = some (.lst hus) := upd_same
          have s4Y := Same.tr sX sY
          have s2Y := Same.tr s3W s4Y
          have nX := lp2.src.none (none_same s3W hX)
          have nY := lp2.src.none (none_same (Same.tr s3W sX) hY)
          refine ⟨_, _, rfl, ?_⟩
          have lpn : Lp d cs pL (upd (upd H4 X (.lst dus)) Y (.lst hus)) p (.ref pa) lt Y W X D0 (L ++ [q]) := by
            refine ⟨lp2.src.same s2Y, Tabs.ext lp2.tab s2Y, lp2.pz.kt (kt_same s2Y), hb4.same s4Y, ⟨hus, hYY, paired_mono (fun _ _ => RowsH.kt (kt_same s2Y)) phu⟩, ⟨_, s4Y _ _ hWW, paired_mono (fun _ _ => DdH.kt (kt_same s2Y)) (paired_app plv (.cons dxq .nil))⟩, ⟨dus, sY _ _ hXX, paired_mono (fun _ _ => DdH.kt (kt_same s2Y)) pdu⟩, nlt, nY, nW, nX, ?_⟩
            rw [List.reverse_append, List.reverse_singleton]
            rw [List.append_assoc] at val2
            exact val2
          exact rest _ _ ((hPo _ _).mpr ⟨lt, Y, W, X, D0, L ++ [q], _, _, _, _, _, rfl, lpn, bdv.same s2Y, by rw [z, List.length_append, List.length_singleton] at lD; omega, by rw [List.length_append, List.length_singleton]; omega⟩)
      · refine ifF (decide_eq_false fun z => e0 (V.int.inj z)) ?_
        refine ⟨_, rfl, rfl, _, rfl, ?_⟩
        obtain ⟨pre, hl⟩ := hist_last p.doms D
        by_cases e1 : r = 1
        · refine ifT (decide_eq_true (by rw [e1])) ?_
          refine ⟨_, rfl, by decide, fun T hT => ?_⟩
          have sT := same_new (o := .lst []) hT
          have lp2 := lp1.same sT
          refine ⟨_, _, ldp lp2.ld, .lst (sql upd_same) .nil, lcmp fun q hq => (cm.2 q hq).1, cmp_nil, ?_⟩
          rw [eqv_lnil]
          generalize upd H1 T (.lst []) = H2 at lp2 ⊢
          refine ⟨_, rfl, ?_⟩
          by_cases e2 : L = []
          · refine ifT (decide_eq_true e2) ?_
            refine ⟨lp2.tab, fun H3 x3 t3 => ?_⟩
            have lp3 := lp2.ext x3 t3
            refine ⟨_, rfl, .ref b, p, _, _, _, rfl, lp3.bd, dm, mkg, fun q hq => (cm.2 q hq).2, by omega, by omega, fun _ H4 s4 => ⟨true, XN.m, fun _ => ?_, fun z => by cases z⟩, fun l q e => ?_⟩
            · refine ⟨_, rfl, ifF rfl ?_⟩
              exact cont _ _ _ _ _ _ _ rfl (lp3.same s4)
            · rw [e2] at e
              exact absurd e (by simp)
          · refine ifF (decide_eq_false e2) ?_
            rcases List.eq_nil_or_concat L with z | ⟨L0, q, z⟩
            · exact absurd z e2
            rw [List.concat_eq_append] at z
            have hl2 := lp2.ld
            have hh2 := lp2.hs
            have val2 := lp2.val
            have bdv := lp2.bd
            rw [z] at hl2 val2
            rw [hl] at hh2
            rw [List.reverse_append, List.reverse_singleton] at val2
            obtain ⟨gq, wq, cq⟩ := val2 D q L0.reverse rfl
            obtain ⟨lvs, hla, plv⟩ := hl2
            obtain ⟨lus, xq, rfl, plu, dxq⟩ := paired_last plv
            obtain ⟨hvs, hhi, phv⟩ := hh2
            have hvl := phv.length
            have hpl : (hist p.doms D).length = D.length + 1 := by unfold hist; rw [List.length_map, List.length_range]
            rw [← hl, hpl] at hvl
            have phv' := phv
            obtain ⟨hus, xh, rfl, phu, dxh⟩ := paired_last phv'
            obtain ⟨dvs, hde, pdv⟩ := lp2.dd
            have dvl := pdv.length
            refine ⟨_, rfl, .ref b, p, _, _, _, rfl, bdv, dm, mkg, fun q hq => (cm.2 q hq).2, by omega, by omega, fun e => absurd e e2, fun l q' e w H3 s3 hb3 nb3 => ?_⟩
            obtain ⟨rfl, e'⟩ := List.append_inj' (z.symm.trans e) rfl
            cases e'
            obtain ⟨lt, rfl, hlt⟩ := nb3
            have nlt := lp2.src.none hlt
            refine ⟨_, rfl, _, rfl, _, rfl, la, _, -1, xq, rfl, rfl, sql (s3 _ _ hla), atI_m1 _ _, (show 1 ≤ sizeLine by decide), fun U hU => ?_⟩
            have sU := same_new (o := .lst [xq]) hU
            refine ⟨de, U, dvs, [xq], rfl, rfl, sU _ _ (s3 _ _ hde), upd_same, by rw [List.length_singleton, sizeLine_eq]; omega, fun W hW => ?_⟩
            have sW := same_new (o := .lst (dvs ++ [xq])) hW
            have hWW : upd (upd H3 U (.lst [xq])) W (.lst (dvs ++ [xq])) W = some (.lst (dvs ++ [xq])) := upd_same
            have s3W := Same.tr s3 (Same.tr sU sW)
            have hb4 := hb3.same (Same.tr sU sW)
            have nW := lp2.src.none (none_same (Same.tr s3 sU) hW)
            generalize upd (upd H3 U (.lst [xq])) W (.lst (dvs ++ [xq])) = H4 at s3W hb4 hWW ⊢
            have kt4 := kt_same s3W
            refine ⟨_, rfl, _, rfl, _, rfl, hi, _, -1, xh, rfl, rfl, sql (s3W _ _ hhi), atI_m1 _ _, _, rfl, _, rfl, la, _, -1, xq, rfl, rfl, sql (s3W _ _ hla), atI_m1 _ _, xh, xq, after p.doms D, q, rfl, dxh.kt kt4, dxq.kt kt4, gq.1, by rw [mkg.len]; exact gq.2.1, by rw [mkg.len]; exact Nat.le_trans dm.n8 (by decide), Nat.le_trans (mkg.l4 dm _) (by decide), mkg.inc _, ⟨wq, cq⟩, fun w5 H5 s5 h5 => ⟨(show 1 ≤ sizeLine by decide), fun V hV => ?_⟩⟩
            have sV := same_new (o := .lst [w5]) hV
            refine ⟨hi, V, hus ++ [xh], [w5], rfl, rfl, sV _ _ (s5 _ _ (s3W _ _ hhi)), upd_same, by rw [hvl, List.length_singleton, sizeLine_eq]; omega, fun Y hY => ?_⟩
            have sY := same_new (o := .lst (hus ++ [xh] ++ [w5])) hY
            have hYY : upd (upd H5 V (.lst [w5])) Y (.lst (hus ++ [xh] ++ [w5])) Y = some (.lst (hus ++ [xh] ++ [w5])) := upd_same
            have s5Y := Same.tr sV sY
            have s4Y := Same.tr s5 s5Y
            have s2Y := Same.tr s3W s4Y
            have nY := lp2.src.none (none_same (Same.tr s3W (Same.tr s5 sV)) hY)
            generalize upd (upd H5 V (.lst [w5])) Y (.lst (hus ++ [xh] ++ [w5])) = H6 at s5Y s4Y s2Y hYY ⊢
            refine ⟨_, rfl, _, rfl, -1, rfl, la, _, rfl, sql (s2Y _ _ hla), fun X hX => ?_⟩
            rw [cutV_m1]
            have sX := same_new (o := .lst lus) hX
            have hXX : upd H6 X (.lst lus) X = some (.lst lus) := upd_same
            have s2X := Same.tr s2Y sX
            have nX := lp2.src.none (none_same s2Y hX)
            refine ⟨_, _, _, rfl, ?_⟩
            have lpn : Lp d cs pL (upd H6 X (.lst lus)) p (.ref pa) lt Y X W (D ++ [q]) L0 := by
              refine ⟨lp2.src.same s2X, Tabs.ext lp2.tab s2X, lp2.pz.kt (kt_same s2X), ?_, ?_, ⟨lus, hXX, paired_mono (fun _ _ => DdH.kt (kt_same s2X)) plu⟩, ⟨_, sX _ _ (s4Y _ _ hWW), paired_mono (fun _ _ => DdH.kt (kt_same s2X)) (paired_app pdv (.cons dxq .nil))⟩, nlt, nY, nX, nW, ?_⟩
              · rw [after_snoc]
                exact hb4.same (Same.tr s4Y sX)
              · rw [hist_snoc, hl]
                exact ⟨_, sX _ _ hYY, paired_app (paired_mono (fun _ _ => RowsH.kt (kt_same s2X)) phv) (.cons (h5.kt (kt_same (Same.tr s5Y sX))) .nil)⟩
              · rw [List.append_assoc]
                exact val2
            exact rest _ _ ((hPo _ _).mpr ⟨lt, Y, X, W, D ++ [q], L0, _, _, _, _, _, rfl, lpn, bdv.same s2X, by rw [List.length_append, List.length_singleton]; omega, by rw [z, List.length_append, List.length_singleton] at lL; omega⟩)
        · refine ifF (decide_eq_false fun z => e1 (V.int.inj z)) ?_
          have hh1 := lp1.hs
          rw [hl] at hh1
          obtain ⟨hvs, hhi, phv⟩ := hh1
          have hvl := phv.length
          have hpl : (hist p.doms D).length = D.length + 1 := by unfold hist; rw [List.length_map, List.length_range]
          rw [← hl, hpl] at hvl
          have phv' := phv
          obtain ⟨hus, xh, rfl, phu, dxh⟩ := paired_last phv'
          refine ⟨_, rfl, _, rfl, _, rfl, _, rfl, hi, _, -1, xh, rfl, rfl, sql hhi, atI_m1 _ _, d, cs, .ref pa, xh, p, after p.doms D, rfl, lp1.src, lp1.pz, dxh, pd.n1, dm, mkg, fun w H3 hs3 rn3 hw => ?_⟩
          have lp3 := lp1.rn hs3 rn3
          have kx3 := kx_rn (d := d) (cs := cs) rn3
          have kt3 := kx3.kt lp1.src
          have hhi3 := kx3 _ _ lp1.nh.1 lp1.nh.2 (fun ps z => by cases z) hhi
          refine ⟨_, rfl, _, rfl, ?_⟩
          rcases hw with rfl | ⟨q, dq, gq, wq, cq⟩
          · refine ifT rfl ?_
            exact cont _ _ _ _ _ _ _ rfl lp3
          obtain ⟨xa, rfl, hxa⟩ := id dq
          refine ifF rfl ?_
          have cst : (PyData.str q.1).canLay0 = true := by rcases wq with h | h | h <;> (rw [h]; decide +kernel)
          have dB : deedB p (after p.doms D) (some q.1) (.int q.2.1) (.int q.2.2) = true := by
            have a1 : cellD p.doms.length (.int q.2.1) = true := by
              show (decide (0 ≤ q.2.1) && decide (q.2.1 < ((p.doms.length : Nat) : Int))) = true
              rw [decide_eq_true gq.1, decide_eq_true gq.2.1]
              rfl
            have a2 : decide (tI (.int q.2.2) ∈ p.doms.getD (tI (.int q.2.1)).toNat []) = true := decide_eq_true gq.2.2
            have a3 : canB ((after p.doms D).getD (tI (.int q.2.1)).toNat []) (some q.1) (tI (.int q.2.2)) = true := cq
            unfold deedB
            rw [a1, a2, a3]
            rfl
          have od3 : OdH K H3 (.ref xa) p (after p.doms D) true := .inr ⟨xa, _, _, _, some q.1, _, _, rfl, hxa, .inl ⟨q.1, rfl, cst, rfl⟩, .int _, .int _, dB.symm⟩
          refine ⟨_, rfl, _, rfl, .ref b, p, after p.doms D, D, L, .ref xa, true, rfl, lp3.bd, od3, mkg.len, fun H4 s4 => ⟨_, rfl, ifF rfl ?_⟩⟩
          have lp4 := lp3.same s4
          refine ⟨_, rfl, _, rfl, .ref b, .ref xa, p, after p.doms D, D, L, true, rfl, lp4.bd, od3.same s4, dm, mkg, by omega, (fun z => by cases z), fun _ => ⟨q, dq.kt (kt_same s4), gq, fun w H5 s5 hb5 nb5 => ?_⟩⟩
          obtain ⟨lt, rfl, hlt⟩ := nb5
          have nlt := lp4.src.none hlt
          have lp5 := lp4.same s5
          have s45 := Same.tr s4 s5
          have dq5 := dq.kt (kt_same s45)
          have dxh5 := (dxh.kt kt3).kt (kt_same s45)
          have phv5 := paired_mono (fun _ _ => RowsH.kt (kt_same s45)) (paired_mono (fun _ _ => RowsH.kt kt3) phv)
          have hhi5 := s45 _ _ hhi3
          obtain ⟨dvs, hde, pdv⟩ := lp5.dd
          have dvl := pdv.length
          clear lp3 kx3 kt3 hhi3 od3 lp4 s4 s5 s45 dB hs3 rn3 phv phu dxh hhi
          refine ⟨_, rfl, _, rfl, (show 1 ≤ sizeLine by decide), fun U hU => ?_⟩
          have sU := same_new (o := .lst [.ref xa]) hU
          refine ⟨de, U, dvs, [.ref xa], rfl, rfl, sU _ _ hde, upd_same, by rw [List.length_singleton, sizeLine_eq]; omega, fun W hW => ?_⟩
          have sW := same_new (o := .lst (dvs ++ [.ref xa])) hW
          have hWW : upd (upd H5 U (.lst [.ref xa])) W (.lst (dvs ++ [.ref xa])) W = some (.lst (dvs ++ [.ref xa])) := upd_same
          have sUW := Same.tr sU sW
          have nW := lp5.src.none (none_same sU hW)
          generalize upd (upd H5 U (.lst [.ref xa])) W (.lst (dvs ++ [.ref xa])) = H6 at sUW hWW ⊢
          have kt6 := kt_same sUW
          refine ⟨_, rfl, _, rfl, _, rfl, hi, _, -1, xh, rfl, rfl, sql (sUW _ _ hhi5), atI_m1 _ _, _, rfl, xh, .ref xa, after p.doms D, q, rfl, dxh5.kt kt6, dq5.kt kt6, gq.1, by rw [mkg.len]; exact gq.2.1, by rw [mkg.len]; exact Nat.le_trans dm.n8 (by decide), Nat.le_trans (mkg.l4 dm _) (by decide), mkg.inc _, ⟨wq, cq⟩, fun w7 H7 s7 h7 => ⟨(show 1 ≤ sizeLine by decide), fun V hV => ?_⟩⟩
          have sV := same_new (o := .lst [w7]) hV
          refine ⟨hi, V, hus ++ [xh], [w7], rfl, rfl, sV _ _ (s7 _ _ (sUW _ _ hhi5)), upd_same, by rw [hvl, List.length_singleton, sizeLine_eq]; omega, fun Y hY => ⟨by decide, fun X hX => ?_⟩⟩
          have sY := same_new (o := .lst (hus ++ [xh] ++ [w7])) hY
          have hYY : upd (upd H7 V (.lst [w7])) Y (.lst (hus ++ [xh] ++ [w7])) Y = some (.lst (hus ++ [xh] ++ [w7])) := upd_same
          have sX := same_new (o := .lst []) hX
          have s7Y := Same.tr sV sY
          have nY := lp5.src.none (none_same (Same.tr sUW (Same.tr s7 sV)) hY)
          have nX := lp5.src.none (none_same (Same.tr sUW (Same.tr s7 s7Y)) hX)
          have s5X := Same.tr sUW (Same.tr s7 (Same.tr s7Y sX))
          have hWX := (Same.tr s7 (Same.tr s7Y sX)) _ _ hWW
          have hYX := sX _ _ hYY
          have h7X := h7.kt (kt_same (Same.tr s7Y sX))
          have hXX : upd (upd (upd H7 V (.lst [w7])) Y (.lst (hus ++ [xh] ++ [w7]))) X (.lst []) X = some (.lst []) := upd_same
          generalize upd (upd (upd H7 V (.lst [w7])) Y (.lst (hus ++ [xh] ++ [w7]))) X (.lst []) = H8 at s5X hWX hYX h7X hXX ⊢
          have kt8 := kt_same s5X
          refine ⟨_, _, _, rfl, ?_⟩
          have lpn : Lp d cs pL H8 p (.ref pa) lt Y X W (D ++ [q]) [] := by
            refine ⟨lp5.src.same s5X, Tabs.ext lp5.tab s5X, lp5.pz.kt kt8, ?_, ?_, ⟨[], hXX, .nil⟩, ⟨_, hWX, paired_app (paired_mono (fun _ _ => DdH.kt kt8) pdv) (.cons (dq5.kt kt8) .nil)⟩, nlt, nY, nX, nW, ?_⟩
            · rw [after_snoc]
              exact hb5.same s5X
            · rw [hist_snoc, hl]
              exact ⟨_, hYX, paired_app (paired_mono (fun _ _ => RowsH.kt kt8) phv5) (.cons h7X .nil)⟩
            · rw [List.reverse_nil, List.append_nil]
              exact (lp5.val.left).snoc gq wq cq
          exact rest _ _ ((hPo _ _).mpr ⟨lt, Y, X, W, D ++ [q], [], _, _, _, _, _, rfl, lpn, lp5.bd.same s5X, by rw [List.length_append, List.length_singleton]; omega, Nat.zero_le _⟩)
    · rintro σ H2 h
      obtain ⟨lt, hi', la', de', D', L', p7, p9, p11, p12, p13, rfl, lp2, hb2, l1, l2⟩ := (hPo _ _).mp h
      have cm2 := lp2.cmp
      refine ⟨_, rfl, ?_⟩
      dsimp only [tNil]
      refine repr_use (K := K) (d := d) (cs := cs) (pL := pL) pd cm.1 cm.2 (by omega) (by omega) hb2 ?_
      rw [← hsh]
      refine ⟨_, rfl, rfl, _, rfl, ifF (congrArg (!·) (decide_eq_true rfl)) ?_⟩
      obtain ⟨pre, hl⟩ := hist_last p.doms D'
      have hh := lp2.hs
      rw [hl] at hh
      obtain ⟨hvs, hhi, phv⟩ := hh
      obtain ⟨hus, xh, rfl, phu, dxh⟩ := paired_last phv
      obtain ⟨dvs, hde, pdv⟩ := lp2.dd
      obtain ⟨lvs, hla, plv⟩ := lp2.ld
      obtain ⟨pa', px, py, e', hpa, hpx, hpy⟩ := id lp2.pz
      cases e'
      refine ⟨_, rfl, fun M hM => ?_⟩
      have sM := same_new (o := .dK []) hM
      refine ⟨_, rfl, _, rfl, _, rfl, hi', _, -1, xh, rfl, rfl, sql (sM _ _ hhi), atI_m1 _ _, _, rfl, de', dvs, rfl, .inl ⟨sql (sM _ _ hde), fun T1 hT1 => ?_⟩⟩
      have sT1 := same_new (o := .tup dvs) hT1
      refine ⟨_, rfl, la', lvs, rfl, .inl ⟨sql (sT1 _ _ (sM _ _ hla)), fun T2 hT2 => ?_⟩⟩
      have sT2 := same_new (o := .tup lvs) hT2
      have hM2 : upd H2 M (.dK []) M = some (.dK []) := upd_same
      refine ⟨sT2 _ _ (sT1 _ _ hM2), bdK (.ref pa) xh (.ref T1) (.ref T2), rfl, show 4 ≤ 15 by decide, ?_⟩
      rw [bd_merge]
      have sM2 := Same.tr sM (Same.tr sT1 sT2)
      have sF := same_new (o := .dK (bdK (.ref pa) xh (.ref T1) (.ref T2))) hM
      obtain ⟨H9, eH9⟩ : ∃ H9, H9 = upd (upd (upd (upd H2 M (.dK [])) T1 (.tup dvs)) T2 (.tup lvs)) M (.dK (bdK (.ref pa) xh (.ref T1) (.ref T2))) := ⟨_, rfl⟩
      have nMT1 : M ≠ T1 := ne_of_none hM2 hT1
      have nMT2 : M ≠ T2 := ne_of_none (sT1 _ _ hM2) hT2
      have s9 : Same H2 H9 := fun b0 o e => by
        rw [eH9, upd_ne fun z => by rw [z, hM] at e; cases e]
        exact sM2 _ _ e
      have h9M : H9 M = some (.dK (bdK (.ref pa) xh (.ref T1) (.ref T2))) := by rw [eH9]; exact upd_same
      have h9a : H9 T1 = some (.tup dvs) := by
        rw [eH9, upd_ne nMT1.symm]
        exact sT2 _ _ upd_same
      have h9b : H9 T2 = some (.tup lvs) := by
        rw [eH9, upd_ne nMT2.symm]
        exact upd_same
      rw [← eH9]
      clear eH9 nMT1 nMT2 sF sM2 hM2 sT1 sT2 hT1 hT2 sM hM
      have lp9 := lp2.same s9
      have k9 := kt_same s9
      refine ⟨lt, M, rfl, rfl, ?_, _, rfl, ifF rfl ?_⟩
      · obtain ⟨b', u1, m1, l1', bv1, e1, hb1, hp1, hm1, hl1, hk1⟩ := lp9.bd
        cases e1
        refine ⟨_, _, hb1, h9M, rfl, fun x hx => ?_⟩
        rcases List.mem_cons.mp hx with rfl | hx
        · exact ⟨_, rfl, smD_puz hp1 lp9.pz⟩
        rcases List.mem_cons.mp hx with rfl | hx
        · exact ⟨_, rfl, smD_rows hm1 (dxh.kt k9)⟩
        rcases List.mem_cons.mp hx with rfl | hx
        · exact ⟨_, rfl, smD_dds (fun q hq => (cm2.1 q hq).1) hl1 ⟨T1, dvs, rfl, h9a, paired_mono (fun _ _ => DdH.kt k9) pdv⟩⟩
        · cases List.mem_singleton.mp hx
          exact ⟨_, rfl, smD_dds (fun q hq => (cm2.2 q hq).1) hk1 ⟨T2, lvs, rfl, h9b, paired_mono (fun _ _ => DdH.kt k9) plv⟩⟩
      refine ⟨_, rfl, ?_⟩
      refine ⟨_, rfl, .ref lt, p, _, _, _, rfl, lp9.bd, fun w H10 s10 hw => ?_⟩
      have s2x := Same.tr s9 s10
      refine ⟨_, rfl, _, rfl, hi', _, -1, xh, rfl, rfl, sql (s2x _ _ hhi), atI_m1 _ _, _, rfl, pa, _, 1, _, rfl, rfl, sqt (s2x _ _ hpa), rfl, (show 2 ≤ sizeLine by decide), fun T hT => ?_⟩
      have sT := same_new (o := .tup [xh, py]) hT
      have s2y := Same.tr s2x sT
      refine ⟨dPuz ⟨after p.doms D', p.rules⟩, dPuz ⟨after p.doms D', p.rules⟩, puz_dp (hw.kt (kt_same sT)), puz_dp ⟨T, xh, py, rfl, upd_same, dxh.kt (kt_same s2y), hpy.kt (kt_same s2y)⟩, cmp_puz _, cmp_puz _, ?_⟩
      rw [eqv_puz]
      refine ⟨_, rfl, ifF rfl ?_⟩
      exact (hSt _ _ _).mpr ⟨lt, hi', la', de', D', L', _, _, _, _, _, _, _, rfl, lp2.same s2y, l1, l2⟩
  · obtain ⟨b, hi, la, de, D, L, o7, o8, o9, o10, o11, o12, o13, rfl, lp, lD, lL⟩ := (hSt _ _ _).mp h
    have cm := lp.cmp
    have dm := dmG pd
    have mkg := lp.mkg pd
    obtain ⟨b', u1, m1, l1, bv1, e1, hb1, hp1, hm1, hl1, hk1⟩ := id lp.bd
    cases e1
    refine ⟨_, rfl, _, rfl, b, m1, rfl, .inl ⟨_, .inr "marks", .inl hb1, rfl, rfl⟩, .ref pa, m1, p, after p.doms D, rfl, lp.pz, hm1, dm, mkg, (fun e he v hv => (pd.dom e he).2.2.2 v hv), fun lo xs H1 s1 hlo od xl => ?_⟩
    have lp1 := lp.same s1
    refine ⟨_, rfl, lo, rfl, ⟨_, sql hlo⟩, fun R hR => ?_⟩
    refine lc_it (walk_list (K := K) (a := lo) (xs := xs)) (fun i H' => H' R = some (.lst ((List.replicate i false).map V.bl)) ∧ ExtN H1 H' ∧ Tabs [(pL, qL)] H') ⟨upd_same, ext_same (same_new hR), Tabs.ext lp1.tab (same_new hR)⟩ (fun i H' _ h => ?_) (fun i x H' H'' hi h y => ?_) (fun H' h => ?_)
    · exact sql (h.2.1 _ _ hlo fun ps z => by cases z)
    · obtain ⟨rfl, hx⟩ := y
      obtain ⟨hRi, ex, tb⟩ := h
      have lpi := lp1.ext ex tb
      have odi := od_ext ex (od x (List.mem_of_getElem? hx))
      refine ⟨rfl, _, rfl, _, rfl, .ref b, p, after p.doms D, D, L, x, false, rfl, lpi.bd, odi, mkg.len, fun H2 s2 => ⟨_, rfl, ifF rfl ?_⟩⟩
      have lp2 := lpi.same s2
      refine ⟨lp2.tab, fun H3 x3 t3 => ?_⟩
      have lp3 := lp2.ext x3 t3
      refine ⟨_, rfl, _, rfl, .ref b, x, p, after p.doms D, D, L, false, rfl, lp3.bd, od_ext x3 (odi.same s2), dm, mkg, by omega, (fun _ H4 s4 => ⟨true, XB.m, fun _ => ?_, fun z => by cases z⟩), fun z => by cases z⟩
      refine ⟨_, rfl, ?_⟩
      have hR4 := s4 _ _ (x3 _ _ (s2 _ _ hRi) fun ps z => by cases z)
      refine ⟨_, hR4, by rw [List.length_map, List.length_replicate, sizeLine_eq]; omega, ?_, fun b0 o e n => ?_, tabs_upd hR4 (Tabs.ext t3 s4)⟩
      · rw [upd_same, List.replicate_succ', List.map_append]
        rfl
      · rw [upd_ne fun z => by rw [z, hR] at e; cases e]
        exact s4 _ _ (x3 _ _ (s2 _ _ (ex _ _ e n)) n)
    · obtain ⟨hRi, ex, tb⟩ := h
      refine ⟨R, List.replicate xs.length false, rfl, sql hRi, ?_⟩
      rw [any_no]
      exact ⟨_, rfl, k _⟩
end
end G9

set_option Elab.async false
set_option linter.all false
set_option maxRecDepth 100000
set_option maxHeartbeats 4000000
namespace G9
open PySem PySem.Spec PyProof.Rows L2 GX
/-! the end, where what is around the law's call is known: nothing is being shown -/
abbrev eTab : Obj := { cls := .none, data := .fields #[] }
/-- what is tracked as the law is called: tables, the script (if it is not written) -/
def hpE (K : PySem.W.Frag) (a : Addr) (o : Obj) (xs : List V) (ts : List Addr) : Hp := fun b =>
  if b ∈ ts then some (.tbl #[]) else if b = a ∧ K.lookup a = none then some (.frz o (.lst xs)) else none
theorem hpE_tab {K : PySem.W.Frag} {a : Addr} {o : Obj} {xs : List V} {ts : List Addr} {b : Addr} (h : b ∈ ts) : hpE K a o xs ts b = some (.tbl #[]) := if_pos h
theorem hpE_inv {K : PySem.W.Frag} {a : Addr} {o : Obj} {xs : List V} {ts : List Addr} {b : Addr} {u : HO} (h : hpE K a o xs ts b = some u) : (b ∈ ts ∧ u = .tbl #[]) ∨ (b ∉ ts ∧ b = a ∧ K.lookup a = none ∧ u = .frz o (.lst xs)) := by
  by_cases c : b ∈ ts
  · rw [hpE_tab c] at h
    exact .inl ⟨c, (Option.some.inj h).symm⟩
  · have e : hpE K a o xs ts b = if b = a ∧ K.lookup a = none then some (.frz o (.lst xs)) else none := if_neg c
    rw [e] at h
    by_cases c2 : b = a ∧ K.lookup a = none
    · rw [if_pos c2] at h
      exact .inr ⟨c, c2.1, c2.2, (Option.some.inj h).symm⟩
    · rw [if_neg c2] at h
      cases h
section
variable {P : Program} {w : World} {K : PySem.W.Frag} {mg mb : Str → Option Value} {fa a : Addr} {cs : List (Addr × Addr)} {s : Shared} {us : List Value} {ns : List Int}
theorem call_end (KX : K.In s.heap) (hG : s.heap.Ns mainGlobals mg) (hB : s.heap.Ns builtinsNs mb) (hBB : ∀ x : Str, x ≠ "__name__" → mb x = bootBuiltins x) (hL : s.heap.NoLimit) (hgen : s.gens = #[])
    (tE : ∀ p ∈ cs, s.heap.get? p.2 = some eTab) (tK : ∀ p ∈ cs, K.lookup p.2 = none) (tC : ∀ p ∈ cs, PySem.W.CodeHd s.heap p.1 p.2)
    (hmod : ∃ (m : Addr) (ob : Obj), mg "__builtins__" = some (.ref m) ∧ m ≠ builtinsNs ∧ s.heap.get? m = some ob ∧ ob.cls = .type "module" ∧ ob.dict = some builtinsNs ∧ ob.data = .plain)
    (hs : s.heap.get? a = some { cls := .type "list", data := .seq us.toArray }) (hi : IntsAre us ns) (hn : ns.length ≤ 63)
    (run : ∀ (H : Hp) (base : Heap), Env0 P w K mg base callerA [] s H → (∀ p ∈ cs, GxR.TabB base mg p.1 p.2) → (∀ p ∈ cs, H p.2 = some (.tbl #[])) → SqL K H a (ns.map V.int) →
      codeAny (model P w) callerA (.call (.ref fa) ⟨[.ref a], []⟩) (CR CX0 [] P w H s (fun v _ => v = .bl true) E0) s) :
    codeAny (model P w) callerA (.call (.ref fa) ⟨[.ref a], []⟩) (fun r s' => r = .ok (.ret (.bool true)) ∧ OldK s.heap s'.heap ∧ s'.os = s.os ∧ AllBare s'.gens) s := by
  have tt : ∀ b ∈ cs.map (·.2), s.heap.get? b = some eTab ∧ K.lookup b = none := fun b hb => by
    obtain ⟨p, hp, rfl⟩ := List.mem_map.mp hb
    exact ⟨tE p hp, tK p hp⟩
  have into : ∀ p ∈ cs, p.2 ∈ cs.map (·.2) := fun p hp => List.mem_map_of_mem hp
  generalize hHe : hpE K a { cls := .type "list", data := .seq us.toArray } (ns.map V.int) (cs.map (·.2)) = H
  have inv : ∀ {b : Addr} {u : HO}, H b = some u → (b ∈ cs.map (·.2) ∧ u = .tbl #[]) ∨ (b ∉ cs.map (·.2) ∧ b = a ∧ K.lookup a = none ∧ u = .frz { cls := .type "list", data := .seq us.toArray } (.lst (ns.map V.int))) := fun {b u} e => by
    rw [← hHe] at e
    exact hpE_inv e
  have rv : Vals (ns.map V.int) us := vals_ints hi
  -- what is neither a table nor a list is not tracked
  have off : ∀ {b : Addr} {o : Obj}, s.heap.get? b = some o → o.data ≠ .fields #[] → (∀ xs n, o.data ≠ .seq xs n) → H b = none := fun {b o} e n1 n2 => by
    cases q : H b with
    | none => rfl
    | some u =>
      rcases inv q with ⟨m, _⟩ | ⟨_, m, _⟩
      · rw [(tt b m).1] at e
        exact absurd (congrArg Obj.data (Option.some.inj e)).symm n1
      · rw [m, hs] at e
        exact absurd (congrArg Obj.data (Option.some.inj e)).symm (n2 _ _)
  have nsB : ∀ {b : Addr} {m : Str → Option Value}, s.heap.Ns b m → (hidT s.heap H).Ns b m := fun ⟨o, es, ep, e, d, r⟩ =>
    ⟨o, es, ep, hidT_get e (off e (by rw [d]; exact fun z => nomatch z) (by rw [d]; exact fun _ _ z => nomatch z)), d, r⟩
  have kB : K.In (hidT s.heap H) := fun b o e => hidT_get (KX b o e) (by
    cases q : H b with
    | none => rfl
    | some u =>
      rcases inv q with ⟨m, _⟩ | ⟨_, m, z, _⟩
      · rw [(tt b m).2] at e
        cases e
      · rw [m, z] at e
        cases e)
  have md : L2.Mod K mg (hidT s.heap H) := ⟨kB, nsB hG, ⟨mb, nsB hB, hBB⟩, hL.elim fun m h => ⟨m, nsB h.1, h.2⟩⟩
  have hok : HOk P w H s.heap := fun b u e => by
    rcases inv e with ⟨m, rfl⟩ | ⟨_, rfl, _, rfl⟩
    · exact (tt b m).1
    · exact ⟨hs, by rw [List.length_map, sizeLine_eq]; omega, us, _, rv, hs⟩
  have env : Env0 P w K mg (hidT s.heap H) callerA [] s H := by
    refine ⟨rfl, md, fun b o e => of_hidT e, Nat.le_of_eq (hidT_size _ _), trivial, fun b hb => ?_, hok, .of_eq hgen⟩
    cases hb
  have tab : ∀ p ∈ cs, GxR.TabB (hidT s.heap H) mg p.1 p.2 := fun p hp => by
    refine ⟨?_, ?_, fun z => ?_⟩
    · obtain ⟨o, vs, r1, r2, r3, r4, r5, r6, r7, e, q1, q2, q3, rest⟩ := tC p hp
      refine ⟨o, vs, r1, r2, r3, r4, r5, r6, r7, hidT_get e (off e (fun z => ?_) fun xs n z => ?_), q1, q2, q3, rest⟩
      · rw [q2] at z
        cases z
        simp at q3
      · rw [q2] at z
        cases z
    · obtain ⟨m, ob, b1, b2, b3, b4, b5, b6⟩ := hmod
      refine ⟨m, ob, b1, b2, fun z => ?_, fun z => ?_, hidT_get b3 (off b3 (by rw [b6]; exact fun z => nomatch z) (by rw [b6]; exact fun _ _ z => nomatch z)), b4, b5, b6⟩
      · obtain ⟨o, es, ep, e, d, _⟩ := hG
        rw [z, e] at b3
        rw [← Option.some.inj b3, d] at b6
        cases b6
      · rw [z, tE p hp] at b3
        rw [← Option.some.inj b3] at b6
        cases b6
    · obtain ⟨o, es, ep, e, d, _⟩ := hG
      rw [z, tE p hp] at e
      rw [← Option.some.inj e] at d
      cases d
  have scr : SqL K H a (ns.map V.int) := by
    cases q : K.lookup a with
    | some o =>
      have e := KX a o q
      rw [hs] at e
      exact .inr ⟨o, us.toArray, _, q, by rw [← Option.some.inj e], by rw [← Option.some.inj e], by rw [← Option.some.inj e], by rw [List.size_toArray, ← rv.length, List.length_map, sizeLine_eq]; omega, by simpa using rv⟩
    | none =>
      refine .inl (.inr ⟨{ cls := .type "list", data := .seq us.toArray }, ?_⟩)
      have na : a ∉ cs.map (·.2) := fun z => by
        have e := (tt a z).1
        rw [hs] at e
        cases congrArg Obj.data (Option.some.inj e)
      rw [← hHe]
      exact (if_neg na).trans (if_pos ⟨rfl, q⟩)
  refine codeAny_mono (run H _ env tab (fun p hp => by rw [← hHe]; exact hpE_tab (into p hp)) scr) fun r s' hr => ?_
  match r, hr with
  | .ok (.ret u), ⟨v, H', os, bare, un, hok', rel, q⟩ =>
    subst q
    have eu : u = Value.bool true := rel
    subst eu
    have same : ∀ b o, b ∉ cs.map (·.2) → s.heap.get? b = some o → s'.heap.get? b = some o := fun b o nb e => by
      cases z : H b with
      | none => exact un.keep b o e z (fun m => nomatch m) (fun m => nomatch m)
      | some u =>
        rcases inv z with ⟨m, _⟩ | ⟨_, _, _, ez⟩
        · exact absurd m nb
        · rw [ez] at z
          have i1 := (hok b _ z).1
          rw [e] at i1
          rw [i1]
          exact (hok' b _ (un.frzs b _ _ z)).1
    have more : ∀ b ∈ cs.map (·.2), ∃ m : Array Value, s'.heap.get? b = some { cls := .none, data := .fields m } := fun b hb => by
      obtain ⟨m, z⟩ := un.tbls b #[] (by rw [← hHe]; exact hpE_tab hb)
      exact ⟨_, hok' b _ z⟩
    refine ⟨rfl, ⟨fun b o e => ?_, fun b o e => ?_⟩, os, bare⟩
    · by_cases hb : b ∈ cs.map (·.2)
      · obtain ⟨p, hp, ep⟩ := List.mem_map.mp hb
        obtain ⟨m, hm⟩ := more b hb
        have e2 := (tt b hb).1
        rw [e] at e2
        have e3 := Option.some.inj e2
        subst e3
        refine .inr (.inl ⟨?_, rfl, #[], m, rfl, by rw [Array.empty_append]; exact hm⟩)
        rw [← ep]
        exact ((tC p hp).tab (tE p hp)).isCodeTable
      · exact .inl (same b o hb e)
    · by_cases hb : b ∈ cs.map (·.2)
      · obtain ⟨m, hm⟩ := more b hb
        exact ⟨_, hm⟩
      · exact ⟨o, same b o hb e⟩
end
end G9

set_option Elab.async false
set_option linter.all false
set_option maxRecDepth 100000
set_option maxHeartbeats 0
namespace G9
open PySem PySem.Spec PyProof.Rows L2 GX
/-! what the head tells -/
def dfn (at_ : Str × Option Str) (name qual : Str) (st : Stmt) : He.DefD := ⟨at_, name, qual, defArgs st, defBody st, defScope st, [], []⟩
def glN : List Str := (["is_whole", "is_cell", "_board", "new_board", "cut_puzzle", "_can_be_done", "is_deed", "_marked", "done", "undone", "redone", "_law_open_cells"] : List Str) ++ (["_law_pick", "_law_any_order", "_law_rows", "_law_draw_rule", "_law_draw_puzzle", "_law_draw_deed", "_law_marked", "_law_is_refused", "_law_is_over", "_law_no_deeds", "law"] : List Str)
def frN : List Str := (["len", "all", "any", "enumerate", "tuple", "list", "set", "sum", "max", "min", "sorted", "range"] : List Str) ++ (["zip", "int", "abs", "repr", "isinstance", "dict", "bool"] : List Str)
def fa : List He.Fa := glN.map .glo ++ frN.map .free ++ [.glo "BadDeed", .glo "NothingDone", .exm "BadDeed" "BadDeed" true, .exm "NothingDone" "NothingDone" true]
def fn : List He.DefD := ([dfn ("is_whole", none) "is_whole" "is_whole" sIsWhole, dfn ("is_cell", none) "is_cell" "is_cell" sIsCell, dfn ("_board", none) "_board" "_board" sBoard, dfn ("new_board", none) "new_board" "new_board" sNewBoard, dfn ("cut_puzzle", none) "cut_puzzle" "cut_puzzle" sCutPuzzle, dfn ("_can_be_done", none) "_can_be_done" "_can_be_done" sCanDone, dfn ("is_deed", none) "is_deed" "is_deed" sIsDeed, dfn ("_marked", none) "_marked" "_marked" sMarked, dfn ("done", none) "done" "done" sDone, dfn ("undone", none) "undone" "undone" sUndone, dfn ("redone", none) "redone" "redone" sRedone, dfn ("_law_open_cells", none) "_law_open_cells" "_law_open_cells" sOpen] : List He.DefD) ++ ([dfn ("_law_pick", none) "_law_pick" "_law_pick" sPick, dfn ("_law_any_order", none) "_law_any_order" "_law_any_order" sOrder, dfn ("_law_rows", none) "_law_rows" "_law_rows" sRows, dfn ("_law_draw_rule", none) "_law_draw_rule" "_law_draw_rule" sDrawRule, dfn ("_law_draw_puzzle", none) "_law_draw_puzzle" "_law_draw_puzzle" sDrawPuzzle, dfn ("_law_draw_deed", none) "_law_draw_deed" "_law_draw_deed" sLDrawDeed, dfn ("_law_marked", none) "_law_marked" "_law_marked" sLMarked, dfn ("_law_is_refused", none) "_law_is_refused" "_law_is_refused" sLIsRefused, dfn ("_law_is_over", none) "_law_is_over" "_law_is_over" sLIsOver, dfn ("_law_no_deeds", none) "_law_no_deeds" "_law_no_deeds" sLNoDeeds, dfn ("law", none) "law" "law" sLaw] : List He.DefD)
def tf : List He.Defn := [("law", none)]
/-- an own exception class, as it stands -/
def exB (K : PySem.W.Frag) (x : Str) : Bool :=
  PySem.W.keepIn K (.ref (He.ga K x)) && (PySem.W.excIn K (He.ga K x) [.type "ValueError", .type "Exception", .type "BaseException", .type "object"] "ValueError.__new__" && (decide (PySem.W.subIn K (.ref (He.ga K x)) (.type "BaseException") = some true) && decide (PySem.W.typeIn K (.ref (He.ga K x)) = some (.type "type"))))
theorem exB_ok {K : PySem.W.Frag} {mg : Str → Option Value} {x : Str} (h : exB K x = true) (g : mg x = some (.ref (He.ga K x))) (m : PySem.W.exmOne K (.ref (He.ga K x)) (.ref (He.ga K x)) = some true) : ExC K mg x (He.ga K x) := by
  obtain ⟨h1, h⟩ := He.ba h
  obtain ⟨h2, h⟩ := He.ba h
  obtain ⟨h3, h4⟩ := He.ba h
  exact ⟨g, h1, h2, of_decide_eq_true h3, of_decide_eq_true h4, m⟩
def exK2 (K : PySem.W.Frag) : Bool := exB K "BadDeed" && exB K "NothingDone"
def loN : List Str := (["is_whole", "is_cell", "PuzzleError", "BadDeed", "NothingDone", "_board", "new_board", "cut_puzzle", "_can_be_done", "is_deed", "_marked", "done"] : List Str) ++ (["undone", "redone", "_law_open_cells", "_law_pick", "_law_any_order", "_law_rows", "_law_draw_rule", "_law_draw_puzzle", "_law_draw_deed", "_law_marked", "_law_is_refused", "_law_is_over"] : List Str) ++ (["_law_no_deeds"] : List Str)
abbrev R : PySem.W.OpenRow := PySem.W.OpenLaw.row PySem.Challenge.rw_toldreasons_k25_boards_and_deeds
abbrev hk : PySem.W.Hook := He.hookX 5 fa fn [] tf exK2
def ob (s : PySem.W.SharedT) : He.AlX := He.obsX 5 fa fn [] tf exK2 (HandSHeadRun.getT s)
theorem ob_eq (s : PySem.W.SharedT) : ob s = hk.obs s.abs := He.obsX_eq (HandSHeadRun.getT_eq s)
theorem run (w : World) : HandSHeadRun.RunEq R (PySem.W.view R.prog [29]) hk ob 5000 loN w := by
  intro os
  kernel_rfl
end G9

set_option Elab.async false
set_option linter.all false
set_option maxRecDepth 100000
set_option maxHeartbeats 8000000
namespace G9
open PySem PySem.Spec PyProof.Rows L2 GX
/-- a def with its code object -/
theorem funC_of {K : PySem.W.Frag} {x qual : Str} {st : Stmt} {p : Str × Option Str} (h : ∃ fd, FunD K x qual (defArgs st) (defBody st) (defScope st) [] [] (He.fAd K p) fd) : ∃ fd, FunC K x qual st (He.fAd K p) (He.codeOf K p) fd := by
  obtain ⟨fd, F⟩ := h
  obtain ⟨oc, od, dV, kV, doc, pm, an, cdv, ct, osl, rfl, lk, hcd, hd, _⟩ := F.ex
  obtain ⟨c, rfl⟩ := He.codeIn_ref hcd
  rcases hd with ⟨_, rfl⟩ | ⟨z, _⟩
  · rw [He.codeOf_eq lk rfl]
    exact ⟨_, funC_mk lk hcd F.kp⟩
  · exact absurd rfl z
theorem funC_at {K : PySem.W.Frag} (D : He.SaysD fa fn K) (i : Nat) {p : Str × Option Str} {x qual : Str} {st : Stmt} (h : fn[i]? = some (dfn p x qual st)) : ∃ fd, FunC K x qual st (He.fAd K p) (He.codeOf K p) fd := funC_of (x := x) (qual := qual) (st := st) (p := p) (D.def_ i h)
theorem bind1 {K : PySem.W.Frag} {x qual : Str} {st : Stmt} {f : Addr} {fd : FuncData} {ps : List Str} (F : Fun K x qual st f fd)
    (h : ∀ (kV doc pm : Value) (an : Option Addr) (cdv ct : Value) (us : List Value), us.length = ps.length → bindArgs (PySem.W.fnOf x qual (defArgs st) (defBody st) (defScope st) .none kV doc pm an cdv ct) ⟨us, []⟩ = pure (ps.zip us)) : Binds K fd ps [] := F.binds h
theorem tabG_mk {H : Hp} {P : Addr} (h : H P = some (.tbl #[])) : GxR.TabG H P := ⟨#[], h, trivial⟩
/-- a def's call where all that is around it is known, and its code object -/
theorem run_atC {P : Program} {w : World} {K : PySem.W.Frag} {mg : Str → Option Value} {base : Heap} {f c : Addr} {fd : FuncData} {A : Around} {x qual : Str} {st : Stmt} {N ps : List Str} {sp : Sp} {k : Nat} (F : FunC K x qual st f c fd) (S : FnScope N ps (defScope st)) (hr : Room (k + 1) A) {s : Shared} {H : Hp} {as : Args} {us : List Value} {vs : List V} {Q : VK} {E : XK} {outer : List Env}
    (body : Room k (A.deeper (envOfC qual (defScope st) s.heap.objs.size f (.ref c))) → ∃ t, PSs (cxOf CX0 P w K mg base N qual (defScope st) f (.ref c) A outer s H E).nox (defBody st) t ∧ t { nx := fun _ H' => Q .non H', rt := Q } (start N vs) H)
    (hl : vs.length = ps.length) (env : Env0 P w K mg base A outer s H) (hb : BindsTo s fd as (ps.zip us)) (rv : Vals vs us) : codeAny (model P w) A (.call (.ref f) as) (CR CX0 outer P w H s Q E) s := by
  obtain ⟨oc, od, kV, doc, pm, an, ct, osl, rfl, lk, hcd⟩ := F.ex
  obtain ⟨t, ht, hq⟩ := body (hr.deeper _)
  have old : ∀ b o, base.get? b = some o → s.heap.get? b = some o := fun b o e => (env.bs b o e).1
  have kin : K.In s.heap := env.mod.kin.keeps old
  have kinds : ∀ y ∈ ps.zip us, (defScope st).names.lookup y.1 = some .local ∨ ((defScope st).names.lookup y.1 = some .cell ∧ ((cellsFrom (s.heap.objs.size + 1) (defScope st).names []).lookup y.1).isSome = true) := fun y hy =>
    (S.par y.1 (List.of_mem_zip hy).1).imp id fun z => ⟨z, PySem.W.cellsFrom_some _ _ _ (.inl z)⟩
  refine codeAny_call_function hr.depth (kin _ _ lk) rfl S.co S.gen rfl (PySem.W.codeRec_of kin hcd) (hb _ _ _ _ (wpAny_newFunctionEnv_cells S.kind kinds fun e he s1 new => ?_))
  subst he
  refine ⟨(env.mod.nolimit.keeps old).keeps new.toInCall.keep, codeAny_func (wpAny_mono (ht.nox.run [] s1 (start N vs) H _ (inv_start S hr.hd env hl rv new) hq) (fun r s' h => ?_) fun _ _ h => h)⟩
  have out : ∀ {σ' : L2.St} {H' : Hp} {v : V} {u : Value}, Inv (cxOf CX0 P w K mg base N qual (defScope st) f (.ref c) A outer s H E) [] σ' H' s' → RelV v u → Q v H' → CE outer P w H s Q u s' := fun J e q => ⟨_, _, J.os, J.bare, J.base, J.hok, e, q⟩
  cases r with
  | ret u =>
    obtain ⟨v, σ', H', J, e, q⟩ := h
    exact out J e q
  | next =>
    obtain ⟨σ', H', J, q⟩ := h
    exact out (v := V.non) (u := Value.none) J rfl q
  | brk =>
    obtain ⟨_, _, _, q⟩ := h
    exact q.elim
  | cont =>
    obtain ⟨_, _, _, q⟩ := h
    exact q.elim
theorem at_head {w : World} {K : PySem.W.Frag} {h : Heap} {mg : Str → Option Value} {f : Addr} (X : K.In h) (G : h.Ns mainGlobals mg) (hf : mg "law" = some (.ref f)) (c : He.SaysX fa fn [] tf exK2 w h K) :
    ∃ pT cT : Addr, tf.map (He.cT K) = [(cT, pT)] ∧ ∃ fd : FuncData, FunC K "law" "law" sLaw f cT fd ∧ Binds K fd ["_law_script"] [] ∧
      ∀ {P : Program} {base : Heap}, GxR.TabB base mg cT pT → ∀ (A : Around) (outer : List Env) (s : Shared) (H : Hp) (vs : List V) (Q : VK) (E : XK), Room 12 (A.deeper (envOfC "law" (defScope sLaw) s.heap.objs.size f (.ref cT))) → A.guards = some [] → spLaw K pT vs H Q E →
        ∃ t, PSs (cxOf CX0 P w K mg base nmLaw "law" (defScope sLaw) f (.ref cT) A outer s H E).nox (defBody sLaw) t ∧ t { nx := fun _ H' => Q .non H', rt := Q } (start nmLaw vs) H := by
  have D := c.t.d
  have gl : ∀ (i : Nat) {x : Str}, fa[i]? = some (.glo x) → mg x = some (.ref (He.ga K x)) := fun i x q => He.glo_ok X G (D.fact i q)
  have fr : ∀ (i : Nat) {x : Str}, fa[i]? = some (.free x) → mg x = none := fun i x q => He.free_ok X G (D.fact i q)
  obtain ⟨d_sIsWhole, F_sIsWhole⟩ := funC_at D 0 rfl
  obtain ⟨d_sIsCell, F_sIsCell⟩ := funC_at D 1 rfl
  obtain ⟨d_sBoard, F_sBoard⟩ := funC_at D 2 rfl
  obtain ⟨d_sNewBoard, F_sNewBoard⟩ := funC_at D 3 rfl
  obtain ⟨d_sCutPuzzle, F_sCutPuzzle⟩ := funC_at D 4 rfl
  obtain ⟨d_sCanDone, F_sCanDone⟩ := funC_at D 5 rfl
  obtain ⟨d_sIsDeed, F_sIsDeed⟩ := funC_at D 6 rfl
  obtain ⟨d_sMarked, F_sMarked⟩ := funC_at D 7 rfl
  obtain ⟨d_sDone, F_sDone⟩ := funC_at D 8 rfl
  obtain ⟨d_sUndone, F_sUndone⟩ := funC_at D 9 rfl
  obtain ⟨d_sRedone, F_sRedone⟩ := funC_at D 10 rfl
  obtain ⟨d_sOpen, F_sOpen⟩ := funC_at D 11 rfl
  obtain ⟨d_sPick, F_sPick⟩ := funC_at D 12 rfl
  obtain ⟨d_sOrder, F_sOrder⟩ := funC_at D 13 rfl
  obtain ⟨d_sRows, F_sRows⟩ := funC_at D 14 rfl
  obtain ⟨d_sDrawRule, F_sDrawRule⟩ := funC_at D 15 rfl
  obtain ⟨d_sDrawPuzzle, F_sDrawPuzzle⟩ := funC_at D 16 rfl
  obtain ⟨d_sLDrawDeed, F_sLDrawDeed⟩ := funC_at D 17 rfl
  obtain ⟨d_sLMarked, F_sLMarked⟩ := funC_at D 18 rfl
  obtain ⟨d_sLIsRefused, F_sLIsRefused⟩ := funC_at D 19 rfl
  obtain ⟨d_sLIsOver, F_sLIsOver⟩ := funC_at D 20 rfl
  obtain ⟨d_sLNoDeeds, F_sLNoDeeds⟩ := funC_at D 21 rfl
  obtain ⟨d_sLaw, F_sLaw⟩ := funC_at D 22 rfl
  have ef : f = He.ga K "law" := by
    have z := hf.symm.trans (gl 22 rfl)
    cases z
    rfl
  subst ef
  have B : Bl mg := ⟨fr 23 rfl, fr 24 rfl, fr 25 rfl, fr 26 rfl, fr 27 rfl, fr 28 rfl, fr 29 rfl, fr 30 rfl, fr 31 rfl, fr 32 rfl, fr 33 rfl, fr 34 rfl, fr 35 rfl, fr 36 rfl, fr 37 rfl, fr 38 rfl, fr 39 rfl, fr 40 rfl, fr 41 rfl⟩
  have D_sIsWhole : Df K mg "is_whole" sIsWhole ["value"] (He.ga K "is_whole") d_sIsWhole := ⟨F_sIsWhole.fun, bind1 F_sIsWhole.fun fun _ _ _ _ _ _ us hl => match us, hl with | [_], _ => rfl, gl 0 rfl⟩
  have D_sIsCell : Df K mg "is_cell" sIsCell ["value", "n"] (He.ga K "is_cell") d_sIsCell := ⟨F_sIsCell.fun, bind1 F_sIsCell.fun fun _ _ _ _ _ _ us hl => match us, hl with | [_, _], _ => rfl, gl 1 rfl⟩
  have D_sBoard : Df K mg "_board" sBoard ["puzzle", "marks", "log", "back"] (He.ga K "_board") d_sBoard := ⟨F_sBoard.fun, bind1 F_sBoard.fun fun _ _ _ _ _ _ us hl => match us, hl with | [_, _, _, _], _ => rfl, gl 2 rfl⟩
  have D_sNewBoard : Df K mg "new_board" sNewBoard ["puzzle"] (He.ga K "new_board") d_sNewBoard := ⟨F_sNewBoard.fun, bind1 F_sNewBoard.fun fun _ _ _ _ _ _ us hl => match us, hl with | [_], _ => rfl, gl 3 rfl⟩
  have D_sCutPuzzle : Df K mg "cut_puzzle" sCutPuzzle ["board"] (He.ga K "cut_puzzle") d_sCutPuzzle := ⟨F_sCutPuzzle.fun, bind1 F_sCutPuzzle.fun fun _ _ _ _ _ _ us hl => match us, hl with | [_], _ => rfl, gl 4 rfl⟩
  have D_sCanDone : Df K mg "_can_be_done" sCanDone ["word", "cell", "value", "marks"] (He.ga K "_can_be_done") d_sCanDone := ⟨F_sCanDone.fun, bind1 F_sCanDone.fun fun _ _ _ _ _ _ us hl => match us, hl with | [_, _, _, _], _ => rfl, gl 5 rfl⟩
  have D_sIsDeed : Df K mg "is_deed" sIsDeed ["board", "value"] (He.ga K "is_deed") d_sIsDeed := ⟨F_sIsDeed.fun, bind1 F_sIsDeed.fun fun _ _ _ _ _ _ us hl => match us, hl with | [_, _], _ => rfl, gl 6 rfl⟩
  have D_sMarked : Df K mg "_marked" sMarked ["marks", "deed"] (He.ga K "_marked") d_sMarked := ⟨F_sMarked.fun, bind1 F_sMarked.fun fun _ _ _ _ _ _ us hl => match us, hl with | [_, _], _ => rfl, gl 7 rfl⟩
  have D_sDone : Df K mg "done" sDone ["board", "deed"] (He.ga K "done") d_sDone := ⟨F_sDone.fun, bind1 F_sDone.fun fun _ _ _ _ _ _ us hl => match us, hl with | [_, _], _ => rfl, gl 8 rfl⟩
  have D_sUndone : Df K mg "undone" sUndone ["board"] (He.ga K "undone") d_sUndone := ⟨F_sUndone.fun, bind1 F_sUndone.fun fun _ _ _ _ _ _ us hl => match us, hl with | [_], _ => rfl, gl 9 rfl⟩
  have D_sRedone : Df K mg "redone" sRedone ["board"] (He.ga K "redone") d_sRedone := ⟨F_sRedone.fun, bind1 F_sRedone.fun fun _ _ _ _ _ _ us hl => match us, hl with | [_], _ => rfl, gl 10 rfl⟩
  have D_sOpen : Df K mg "_law_open_cells" sOpen ["_law_script"] (He.ga K "_law_open_cells") d_sOpen := ⟨F_sOpen.fun, bind1 F_sOpen.fun fun _ _ _ _ _ _ us hl => match us, hl with | [_], _ => rfl, gl 11 rfl⟩
  have D_sPick : Df K mg "_law_pick" sPick ["_law_source", "_law_most"] (He.ga K "_law_pick") d_sPick := ⟨F_sPick.fun, bind1 F_sPick.fun fun _ _ _ _ _ _ us hl => match us, hl with | [_, _], _ => rfl, gl 12 rfl⟩
  have D_sOrder : Df K mg "_law_any_order" sOrder ["_law_source", "_law_things"] (He.ga K "_law_any_order") d_sOrder := ⟨F_sOrder.fun, bind1 F_sOrder.fun fun _ _ _ _ _ _ us hl => match us, hl with | [_, _], _ => rfl, gl 13 rfl⟩
  have D_sRows : Df K mg "_law_rows" sRows ["_law_lots"] (He.ga K "_law_rows") d_sRows := ⟨F_sRows.fun, bind1 F_sRows.fun fun _ _ _ _ _ _ us hl => match us, hl with | [_], _ => rfl, gl 14 rfl⟩
  have D_sDrawRule : Df K mg "_law_draw_rule" sDrawRule ["_law_source", "_law_domains"] (He.ga K "_law_draw_rule") d_sDrawRule := ⟨F_sDrawRule.fun, bind1 F_sDrawRule.fun fun _ _ _ _ _ _ us hl => match us, hl with | [_, _], _ => rfl, gl 15 rfl⟩
  have D_sDrawPuzzle : Df K mg "_law_draw_puzzle" sDrawPuzzle ["_law_source", "_law_most"] (He.ga K "_law_draw_puzzle") d_sDrawPuzzle := ⟨F_sDrawPuzzle.fun, bind1 F_sDrawPuzzle.fun fun _ _ _ _ _ _ us hl => match us, hl with | [_, _], _ => rfl, gl 16 rfl⟩
  have D_sLDrawDeed : Df K mg "_law_draw_deed" sLDrawDeed ["_law_source", "_law_puzzle", "_law_marks"] (He.ga K "_law_draw_deed") d_sLDrawDeed := ⟨F_sLDrawDeed.fun, bind1 F_sLDrawDeed.fun fun _ _ _ _ _ _ us hl => match us, hl with | [_, _, _], _ => rfl, gl 17 rfl⟩
  have D_sLMarked : Df K mg "_law_marked" sLMarked ["_law_marks", "_law_deed"] (He.ga K "_law_marked") d_sLMarked := ⟨F_sLMarked.fun, bind1 F_sLMarked.fun fun _ _ _ _ _ _ us hl => match us, hl with | [_, _], _ => rfl, gl 18 rfl⟩
  have D_sLIsRefused : Df K mg "_law_is_refused" sLIsRefused ["_law_call"] (He.ga K "_law_is_refused") d_sLIsRefused := ⟨F_sLIsRefused.fun, bind1 F_sLIsRefused.fun fun _ _ _ _ _ _ us hl => match us, hl with | [_], _ => rfl, gl 19 rfl⟩
  have D_sLIsOver : Df K mg "_law_is_over" sLIsOver ["_law_call"] (He.ga K "_law_is_over") d_sLIsOver := ⟨F_sLIsOver.fun, bind1 F_sLIsOver.fun fun _ _ _ _ _ _ us hl => match us, hl with | [_], _ => rfl, gl 20 rfl⟩
  have D_sLNoDeeds : Df K mg "_law_no_deeds" sLNoDeeds ["_law_puzzle", "_law_marks"] (He.ga K "_law_no_deeds") d_sLNoDeeds := ⟨F_sLNoDeeds.fun, bind1 F_sLNoDeeds.fun fun _ _ _ _ _ _ us hl => match us, hl with | [_, _], _ => rfl, gl 21 rfl⟩
  have X_BadDeed : ExC K mg "BadDeed" (He.ga K "BadDeed") := exB_ok (He.ba c.more).1 (gl 42 rfl) (He.exm_ok (D.fact 44 rfl))
  have X_NothingDone : ExC K mg "NothingDone" (He.ga K "NothingDone") := exB_ok (He.ba c.more).2 (gl 43 rfl) (He.exm_ok (D.fact 45 rfl))
  have TO : TxtO K mg (He.ga K "_law_open_cells") (He.ga K "_law_pick") d_sOpen d_sPick :=
    { FOpen := D_sOpen.F, bOpen := D_sOpen.b, gOpen := D_sOpen.g, FPick := D_sPick.F, bPick := D_sPick.b, gPick := D_sPick.g, abs := B.abs, int := B.int, len := B.len }
  refine ⟨_, _, rfl, d_sLaw, F_sLaw, bind1 F_sLaw.fun fun _ _ _ _ _ _ us hl => match us, hl with | [_], _ => rfl, fun {P base} tb A outer s H vs Q E hr hA hs => ?_⟩
  have g_sOpen := ok_open (P := P) (w := w) (base := base) TO
  have g_sPick := ok_pick (P := P) (w := w) (base := base) TO
  have g_sIsWhole := ok_wholeD (P := P) (w := w) (base := base) B D_sIsWhole
  have g_sIsCell := ok_isCell (P := P) (w := w) (base := base) B D_sIsCell D_sIsWhole g_sIsWhole
  have g_sBoard := ok_mk (P := P) (w := w) (base := base) D_sBoard
  have g_sNewBoard := ok_new (P := P) (w := w) (base := base) D_sNewBoard D_sBoard g_sBoard
  have g_sCutPuzzle := ok_cutB (P := P) (w := w) (base := base) D_sCutPuzzle
  have g_sCanDone := ok_can (P := P) (w := w) (base := base) D_sCanDone
  have g_sIsDeed := ok_isDeed (P := P) (w := w) (base := base) B D_sIsDeed D_sIsWhole g_sIsWhole D_sIsCell g_sIsCell D_sCanDone g_sCanDone
  have g_sMarked := ok_marked (P := P) (w := w) (base := base) B D_sMarked
  have g_sDone := ok_done (P := P) (w := w) (base := base) X_BadDeed D_sDone D_sIsDeed g_sIsDeed D_sMarked g_sMarked D_sBoard g_sBoard
  have g_sUndone := ok_undone (P := P) (w := w) (base := base) B X_NothingDone D_sUndone D_sMarked g_sMarked D_sBoard g_sBoard
  have g_sRedone := ok_redone (P := P) (w := w) (base := base) B X_NothingDone D_sRedone D_sMarked g_sMarked D_sBoard g_sBoard
  have g_sOrder := ok_order (P := P) (w := w) (base := base) B D_sOrder D_sPick g_sPick
  have g_sRows := ok_rows (P := P) (w := w) (base := base) D_sRows
  have g_sDrawRule := ok_drawRule (P := P) (w := w) (base := base) B D_sDrawRule D_sPick g_sPick D_sOrder g_sOrder D_sRows g_sRows
  have g_sDrawPuzzle := ok_drawPuzzle (P := P) (w := w) (base := base) B D_sDrawPuzzle D_sPick g_sPick D_sDrawRule g_sDrawRule
  have g_sLDrawDeed := ok_drawDeed (P := P) (w := w) (base := base) B D_sLDrawDeed ⟨D_sPick, g_sPick⟩
  have g_sLMarked := ok_lMarked (P := P) (w := w) (base := base) B D_sLMarked
  have g_sLNoDeeds := ok_noDeeds (P := P) (w := w) (base := base) B D_sLNoDeeds
  exact law_body B X_BadDeed X_NothingDone ⟨tb.code, tb.bm, tb.gP⟩ D_sLIsOver D_sLIsRefused ⟨D_sOpen, g_sOpen⟩ ⟨D_sPick, g_sPick⟩ ⟨D_sDrawPuzzle, g_sDrawPuzzle⟩ ⟨D_sNewBoard, g_sNewBoard⟩ ⟨D_sCutPuzzle, g_sCutPuzzle⟩ ⟨D_sIsDeed, g_sIsDeed⟩ ⟨D_sLDrawDeed, g_sLDrawDeed⟩ ⟨D_sLMarked, g_sLMarked⟩ ⟨D_sLNoDeeds, g_sLNoDeeds⟩ ⟨D_sDone, g_sDone⟩ ⟨D_sUndone, g_sUndone⟩ ⟨D_sRedone, g_sRedone⟩ hr hA hs
end G9
open PySem PySem.W PySem.Calls PyProof.Rows
set_option maxHeartbeats 0 in
theorem PySem.Challenge.cw_toldreasons_k25_boards_and_deeds_holds : PySem.Challenge.rw_toldreasons_k25_boards_and_deeds.Holds := by
  w_on; o_law
  refine HandSHeadRun.head_any (r := OpenLaw.row PySem.Challenge.rw_toldreasons_k25_boards_and_deeds) (q := view (OpenLaw.row PySem.Challenge.rw_toldreasons_k25_boards_and_deeds).prog [29]) (H := G9.hk) (ob := G9.ob) (M := 5000) (loose := G9.loN) (d := HandSHeadRun.topDef (OpenLaw.row PySem.Challenge.rw_toldreasons_k25_boards_and_deeds).prog 29) (kwd := []) G9.ob_eq
    (by kernel_rfl) (fun s => by kernel_rfl) G9.run (by kernel_rfl) (by kernel_rfl) (by kernel_rfl) (by rfl) (by first | assumption | decide +kernel) (by decide +kernel) ⟨rfl, rfl, rfl, rfl, rfl, by decide +kernel⟩ ?hw ?hc
  case hw => w_witness2
  case hc =>
    refine Att.attach_callB (l := PySem.Challenge.rw_toldreasons_k25_boards_and_deeds) (n := 63) rfl (by kernel_rfl) fun w s₀ s₁ mg mb fa o pm cd doc a vs ns GG Y ho hd hcd hmg hobj hints hlen hbits hg => ?_
    obtain ⟨K, KX, c⟩ := Y
    have hmg2 : mg ("law" : PySem.Str) = some (.ref fa) := by
      have e : (HandSHeadRun.topDef (OpenLaw.row PySem.Challenge.rw_toldreasons_k25_boards_and_deeds).prog 29).name = ("law" : PySem.Str) := by kernel_rfl
      rw [← e]
      exact hmg
    obtain ⟨pT, cT, ecs, fd, FL, bL, body⟩ := G9.at_head KX GG.T.g hmg2 c
    refine G9.call_end (cs := G9.tf.map (He.cT K)) KX GG.T.g GG.T.b GG.T.builtins GG.T.nolimit hg (fun p hp => ?_) (fun p hp => ?_) (fun p hp => ?_) GG.T.bmain hobj hints hlen (fun H base env tb tE scr => ?_)
    · obtain ⟨q, hq, rfl⟩ := List.mem_map.mp hp
      exact c.empty q hq
    · obtain ⟨q, hq, rfl⟩ := List.mem_map.mp hp
      exact c.out q hq
    · obtain ⟨q, hq, rfl⟩ := List.mem_map.mp hp
      exact PySem.W.codeHd_of_K KX (c.hd q hq)
    · rw [ecs] at tb tE
      have t1 := tb _ (List.mem_cons_self)
      have g1 := tE _ List.mem_cons_self
      refine G9.run_atC (k := 12) (ps := ["_law_script"]) (N := G9.nmLaw) (us := [.ref a]) (vs := [.ref a]) (sp := G9.spLaw K pT) FL G9.scLaw ⟨rfl, by decide, by decide⟩ (fun hr => body t1 callerA [] s₁ H [.ref a] (fun v _ => v = .bl true) L2.E0 hr rfl ⟨a, ns, rfl, scr, hlen, g1, fun _ => rfl⟩) rfl env (bL _ _ ?_ rfl) (.cons rfl .nil)
      exact KX

