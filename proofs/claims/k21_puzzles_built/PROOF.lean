import PyProof.Rows.All
import Wide.All
import OpenK.AllK
import Wide.FinOn
import HandS.ForMost
import HandS.ForExc
import HandS.Deep
import HandS.SetFor
import HandS.Strs
import PyProof.NeData
import HandS.Zip
import HandS.DictComp
import HandS.DictTup
import HandS.TupAny
import KE.GoesEnum
import PyProof.Rows.SumGenD
import HandS.Walk
import HandS.GenOver
import HandS.AnyAll
import HandS.JoinGen
import HandS.Words
import HandS.Style
import KE.GoesZip
import HandS.Conv
import HandS.SortInts
import KE.GoesMore
import HandS.Base
import HandS.Iter
import HandS.Sort
import PyProof.ReprLen
import HandS.IsInst
import HandS.Call
import HandS.TupMul
import HandS.TupSets
import KE.KDictPairs
import HandS.EndBits
import HandS.EndTab
import HandS.Head0
import HandS.Head1
import HandS.Head2
import HandS.HeadHook1
import HandS.HeadHook2
import HandS.HeadHook3
import HandS.HeadHook4
import Lean
import PySem.Challenge.RW_toldreasons_k21_puzzles_built
set_option Elab.async false
set_option linter.all false
set_option maxRecDepth 100000
set_option maxHeartbeats 4000000
/-! rules on data: ==, !=, in; sum, max, set of tuples of ints -/
namespace GX
open PySem PySem.Spec PyProof.Rows L2
/-- what may be compared so -/
def Cmp (d : PyData) : Prop := d.canLay0 = true ∧ d.depth ≤ 40
section
variable {X : Cx}
theorem op_eqDD (hu : X.A.units + 64 < cLine) : OpR X (compareOp .Eq) (fun x y H Q => ∃ d e, Dp X.K H x d ∧ Dp X.K H y e ∧ Cmp d ∧ Cmp e ∧ Q (.bl (PyData.eqv d e)) H) := by
  intro pins s σ H x y v u Q I rx ry h
  obtain ⟨d, e, hd, he, cd, ce, q⟩ := h
  obtain ⟨as, r1⟩ := Dp.reads I d x v hd rx
  obtain ⟨bs, r2⟩ := Dp.reads I e y u he ry
  have := cd.2
  exact SeqAt.compareEq_reads r1 r2 cd.1 ce.1 (by have := Nat.min_le_left d.depth e.depth; omega) ⟨.bl _, H, I, rfl, q⟩
theorem op_neDD (hu : X.A.units + 64 < cLine) : OpR X (compareOp .NotEq) (fun x y H Q => ∃ d e, Dp X.K H x d ∧ Dp X.K H y e ∧ Cmp d ∧ Cmp e ∧ Q (.bl (!PyData.eqv d e)) H) := by
  intro pins s σ H x y v u Q I rx ry h
  obtain ⟨d, e, hd, he, cd, ce, q⟩ := h
  obtain ⟨as, r1⟩ := Dp.reads I d x v hd rx
  obtain ⟨bs, r2⟩ := Dp.reads I e y u he ry
  have := cd.2
  exact SeqAt.compareNe_reads r1 r2 cd.1 ce.1 (by have := Nat.min_le_left d.depth e.depth; omega) ⟨.bl _, H, I, rfl, q⟩
/-- x in a tuple or a list of data -/
theorem op_inDD (hu : X.A.units + 64 < cLine) : OpR X (compareOp .In) (fun x y H Q => ∃ d ds, Dp X.K H x d ∧ (Dp X.K H y (.tuple ds) ∨ Dp X.K H y (.list ds)) ∧ Cmp d ∧ PyData.canLayAll0 ds = true ∧ Q (.bl (ds.any fun z => PyData.eqv z d)) H) := by
  intro pins s σ H x y v u Q I rx ry h
  obtain ⟨d, ds, hd, he, cd, ce, q⟩ := h
  obtain ⟨as, r1⟩ := Dp.reads I d x v hd rx
  have := cd.2
  have room : X.A.units + 1 + min (PyData.depthAll ds) d.depth < cLine := by
    have := Nat.min_le_right (PyData.depthAll ds) d.depth
    omega
  rcases he with he | he
  · obtain ⟨bs, r2⟩ := Dp.reads I _ y u he ry
    exact SeqAt.in_tuple_reads r2 r1 ce cd.1 room ⟨.bl _, H, I, rfl, q⟩
  · obtain ⟨bs, r2⟩ := Dp.reads I _ y u he ry
    exact SeqAt.in_list_reads r2 r1 ce cd.1 room ⟨.bl _, H, I, rfl, q⟩
theorem op_notInDD (hu : X.A.units + 64 < cLine) : OpR X (compareOp .NotIn) (fun x y H Q => ∃ d ds, Dp X.K H x d ∧ (Dp X.K H y (.tuple ds) ∨ Dp X.K H y (.list ds)) ∧ Cmp d ∧ PyData.canLayAll0 ds = true ∧ Q (.bl (!ds.any fun z => PyData.eqv z d)) H) := by
  intro pins s σ H x y v u Q I rx ry h
  obtain ⟨d, ds, hd, he, cd, ce, q⟩ := h
  obtain ⟨as, r1⟩ := Dp.reads I d x v hd rx
  have := cd.2
  have room : X.A.units + 1 + min (PyData.depthAll ds) d.depth < cLine := by
    have := Nat.min_le_right (PyData.depthAll ds) d.depth
    omega
  rcases he with he | he
  · obtain ⟨bs, r2⟩ := Dp.reads I _ y u he ry
    exact SeqAt.notIn_tuple_reads r2 r1 ce cd.1 room ⟨.bl _, H, I, rfl, q⟩
  · obtain ⟨bs, r2⟩ := Dp.reads I _ y u he ry
    exact SeqAt.notIn_list_reads r2 r1 ce cd.1 room ⟨.bl _, H, I, rfl, q⟩
end
end GX

set_option Elab.async false
set_option linter.all false
set_option maxRecDepth 100000
set_option maxHeartbeats 4000000
/-! sum, max, len(set(..)) of a tuple of ints; enumerate of a tuple -/
namespace GX
open PySem PySem.Spec PyProof.Rows L2
section
variable {X : Cx}
theorem vals_at {ns : List Int} {its : List Value} (r : Vals (ns.map V.int) its) {i : Nat} {v : Value} (h : its.toArray[i]? = some v) : ∃ t, v = Value.int (ns.getD i 0) t := by
  have h2 : its[i]? = some v := by simpa using h
  have hl := r.length
  rw [List.length_map] at hl
  have hi : i < its.length := by
    rcases Nat.lt_or_ge i its.length with z | z
    · exact z
    · rw [List.getElem?_eq_none z] at h2
      cases h2
  have hn : ns[i]? = some (ns.getD i 0) := by
    rw [List.getD_eq_getElem?_getD, List.getElem?_eq_getElem (by omega)]
    rfl
  obtain ⟨u, hu, ru⟩ := r.get (i := i) (x := V.int (ns.getD i 0)) (by rw [List.getElem?_map, hn]; rfl)
  rw [hu] at h2
  cases h2
  exact ru
theorem cr_sumT (hc : X.calm = true) : CallR X (.builtin "sum") (fun vs H Q => ∃ (a : Addr) (ns : List Int), vs = [V.ref a] ∧ SqT X.K H a (ns.map V.int) ∧ Q (.int ns.sum) H) := by
  intro pins s σ H vs us Q I r h
  obtain ⟨a, ns, rfl, hs, q⟩ := h
  obtain ⟨its, rv, ht, hz⟩ := I.tuple hs
  obtain ⟨u, rfl, rx⟩ := vals1 r
  cases rx
  have hlt : a < s.heap.objs.size := by
    obtain ⟨_, e, _⟩ := id ht
    exact Heap.lt_size e
  have hlen : its.toArray.size = ns.length := by rw [List.size_toArray, ← rv.length, List.length_map]
  refine call_sum_walkG (wpAny_pyIter_tuple ht ⟨s.heap.objs.size, _, _, _, _, _, fun i => ns.getD i 0, rfl, Walks.tuple (A := X.A.in1) (I.ok.hd hc) s.heap.objs.size a (Nat.ne_of_lt hlt) its.toArray, ⟨⟨_, Heap.get?_push_size _ rfl, rfl, rfl⟩, ht.push _⟩, fun b hb => ?_, fun i v hv => vals_at rv hv, fun h' tk t' hk => ?_⟩)
  · have hsz : (s.heap.push { cls := .type "tuple_iterator", data := .fields #[.ref a, .int 0 0] }).objs.size = s.heap.objs.size + 1 := Heap.size_push ..
    have hb' : b = s.heap.objs.size ∨ b = a := by simpa using hb
    show b < (s.heap.push { cls := .type "tuple_iterator", data := .fields #[.ref a, .int 0 0] }).objs.size
    rw [hsz]
    rcases hb' with z | z
    · rw [z]; exact Nat.lt_succ_self _
    · rw [z]; exact Nat.lt_succ_of_lt hlt
  · refine ⟨.int ns.sum, H, I.kept (t' := tk) fun b o e => hk b o (fun z => ?_) (Heap.get?_push_of_some _ e), ⟨t', ?_⟩, q⟩
    · have z' : b = s.heap.objs.size := by simpa using z
      rw [z'] at e
      exact absurd (Heap.lt_size e) (Nat.lt_irrefl _)
    · rw [hlen, preSum_getD, List.take_length]
theorem cr_maxT (hc : X.calm = true) : CallR X (.builtin "max") (fun vs H Q => ∃ (a : Addr) (ns : List Int), vs = [V.ref a] ∧ SqT X.K H a (ns.map V.int) ∧ 0 < ns.length ∧ ∀ m, m ∈ ns → (∀ y, y ∈ ns → y ≤ m) → Q (.int m) H) := by
  intro pins s σ H vs us Q I r h
  obtain ⟨a, ns, rfl, hs, h0, q⟩ := h
  obtain ⟨its, rv, ht, hz⟩ := I.tuple hs
  obtain ⟨u, rfl, rx⟩ := vals1 r
  cases rx
  have hlt : a < s.heap.objs.size := by
    obtain ⟨_, e, _⟩ := id ht
    exact Heap.lt_size e
  have hlen : its.toArray.size = ns.length := by rw [List.size_toArray, ← rv.length, List.length_map]
  refine call_max_walk (wpAny_pyIter_tuple ht ⟨s.heap.objs.size, _, _, _, _, _, _, rfl, Walks.tuple (A := X.A.in1) (I.ok.hd hc) s.heap.objs.size a (Nat.ne_of_lt hlt) its.toArray, ⟨⟨_, Heap.get?_push_size _ rfl, rfl, rfl⟩, ht.push _⟩, fun b hb => ?_, by omega, CmpOf.ints_gt (fun i => ns.getD i 0) (fun i v hv => vals_at rv hv), fun v h' tk hP hk => ?_⟩)
  · have hsz : (s.heap.push { cls := .type "tuple_iterator", data := .fields #[.ref a, .int 0 0] }).objs.size = s.heap.objs.size + 1 := Heap.size_push ..
    have hb' : b = s.heap.objs.size ∨ b = a := by simpa using hb
    show b < (s.heap.push { cls := .type "tuple_iterator", data := .fields #[.ref a, .int 0 0] }).objs.size
    rw [hsz]
    rcases hb' with z | z
    · rw [z]; exact Nat.lt_succ_self _
    · rw [z]; exact Nat.lt_succ_of_lt hlt
  · obtain ⟨t, rfl⟩ := vals_at rv hP
    obtain ⟨g1, g2⟩ := argBest_gt (fun i => ns.getD i 0) (its.toArray.size - 1)
    refine ⟨.int _, H, I.kept (t' := tk) fun b o e => hk b o (fun z => ?_) (Heap.get?_push_of_some _ e), ⟨t, rfl⟩, q _ (getD_mem (by omega)) fun y hy => ?_⟩
    · have z' : b = s.heap.objs.size := by simpa using z
      rw [z'] at e
      exact absurd (Heap.lt_size e) (Nat.lt_irrefl _)
    · obtain ⟨j, hj, rfl⟩ := mem_getD hy
      exact g2 j (by omega)
/-- the unlike ones -/
def unlikes : List Int → List Int
  | [] => []
  | a :: l => if a ∈ l then unlikes l else a :: unlikes l
theorem mem_unlikes : ∀ {l : List Int} {k : Int}, k ∈ unlikes l ↔ k ∈ l
  | [], _ => Iff.rfl
  | a :: l, k => by
    unfold unlikes
    by_cases e : a ∈ l
    · rw [if_pos e, mem_unlikes, List.mem_cons]
      exact ⟨.inr, fun z => z.elim (fun q => q ▸ e) id⟩
    · rw [if_neg e, List.mem_cons, List.mem_cons, mem_unlikes]
theorem nodup_unlikes : ∀ l : List Int, (unlikes l).Nodup
  | [] => List.nodup_nil
  | a :: l => by
    unfold unlikes
    by_cases e : a ∈ l
    · rw [if_pos e]; exact nodup_unlikes l
    · rw [if_neg e]; exact List.nodup_cons.mpr ⟨fun z => e (mem_unlikes.mp z), nodup_unlikes l⟩
theorem unlikes_of_nodup : ∀ {l : List Int}, l.Nodup → unlikes l = l
  | [], _ => rfl
  | a :: l, h => by
    obtain ⟨h1, h2⟩ := List.nodup_cons.mp h
    unfold unlikes
    rw [if_neg h1, unlikes_of_nodup h2]
theorem unlikes_le : ∀ l : List Int, (unlikes l).length ≤ l.length
  | [] => Nat.le_refl _
  | a :: l => by
    have := unlikes_le l
    unfold unlikes
    by_cases e : a ∈ l
    · rw [if_pos e, List.length_cons]; omega
    · rw [if_neg e, List.length_cons, List.length_cons]; omega
theorem nodup_of_unlikes : ∀ {l : List Int}, (unlikes l).length = l.length → l.Nodup
  | [], _ => List.nodup_nil
  | a :: l, h => by
    have := unlikes_le l
    unfold unlikes at h
    by_cases e : a ∈ l
    · rw [if_pos e, List.length_cons] at h; omega
    · rw [if_neg e, List.length_cons, List.length_cons] at h
      exact List.nodup_cons.mpr ⟨e, nodup_of_unlikes (by omega)⟩
/-- how many unlike ones -/
def distinct (ns : List Int) : Nat := (unlikes ns).length
theorem distinct_of {ns ks : List Int} (nd : ks.Nodup) (h : ∀ k, k ∈ ks ↔ k ∈ ns) : ks.length = distinct ns :=
  ((List.perm_ext_iff_of_nodup nd (nodup_unlikes ns)).mpr fun k => by rw [h k, mem_unlikes]).length_eq
/-- len(set(e)) of a tuple of ints -/
theorem pe_lenSetT {a : Expr} {ta : TE} {p p2 q pos : Pos} (hg : Gl X "len") (hm : X.mg "len" = none) (hg2 : Gl X "set") (hm2 : X.mg "set" = none) (ha : PE X a ta) (hc : X.calm = true := by rfl)
    (na : starEach [a] X.env = (false, eval a X.env) :: starEach [] X.env := by rfl) :
    PE X (.Call (.Name "len" p) [.Call (.Name "set" p2) [a] [] q] [] pos) (fun σ H Q => ta σ H fun x H1 => ∃ (l : Addr) (ns : List Int), x = .ref l ∧ SqT X.K H1 l (ns.map V.int) ∧ ns.length ≤ 4000 ∧ Q (.int (distinct ns : Nat)) H1) := by
  refine ⟨fun pins s σ H Q I h => ?_⟩
  refine Call_ (ld_blt I hg hm PySem.boot_len (PyProof.Rows.callWith_builtin1 (PyProof.Rows.args_cons (Call_ (ld_blt I hg2 hm2 PyProof.Rows.boot_set ?_)) rfl) rfl rfl))
  refine PyProof.Rows.callWith_type1 (PyProof.Rows.args_cons (thn (ha.run pins s σ H _ I h) fun v s1 hx => PyProof.Rows.args_nil ?_) na) na rfl
  obtain ⟨x, H1, I1, r1, l, ns, rfl, hq, hl, q1⟩ := hx
  cases r1
  obtain ⟨its, rv, pt, hz⟩ := I1.tuple hq
  refine call_set_tupI ns (I1.ok.hd hc) (show s1.heap.IsTuple l its.toArray from pt) (by simpa using RZ.intsAre_vals rv) (by unfold scanBound; omega) fun h' tk c hS hcn hk => ?_
  refine PyProof.Rows.args_nil ?_
  obtain ⟨o, es, ep, t, ho, hex, hd, hgood, hnd, hmem, hsz, hf, hn, _⟩ := hS
  have I2 : Inv X pins σ H1 { s1 with heap := h', toks := tk } := I1.kept hk
  have hdis : es.size = distinct ns := by
    have := distinct_of hnd (ns := ns) fun k => by
      rw [← hmem k]
      simp
    rw [List.length_map, Array.length_toList] at this
    exact this
  have hlt : (es.size : Int) < 2 ^ 63 := by
    unfold scanBound at hsz
    omega
  exact call_len_set ho hex hd hf hlt ⟨.int (distinct ns : Nat), H1, I2.tok _, ⟨_, by rw [hdis]⟩, q1⟩
end
end GX

set_option Elab.async false
set_option linter.all false
set_option maxRecDepth 100000
set_option maxHeartbeats 4000000
/-! enumerate of a tuple -/
namespace GX
open PySem PySem.Spec PyProof.Rows L2
set_option maxHeartbeats 1000000 in
theorem meets_enum1 {v : Value} {o : Obj} {G : Heap → Prop} (B : Begins v o G) :
    Meets (Builtin.«enumerate.__new__» ⟨[.type "enumerate", v], []⟩) (fun _ R s => G s.heap ∧
      R (.ok (.ret (.ref (s.heap.push o).objs.size))) { s with heap := (s.heap.push o).push { cls := .type "enumerate", data := .fields #[.none, .bool false, .ref s.heap.objs.size, rawInt 0, .none, .none] } }) :=
  .of_wp fun prog w A R s h => by
    obtain ⟨hp, g, d, tk, os⟩ := s
    obtain ⟨hG, hR⟩ := h
    have sub := sub_enumerate
    have begins : ∀ {A' : Around} {E : Value → Shared → Prop} {Q : Value → Shared → Prop}, Q (.ref hp.objs.size) ⟨hp.push o, g, d, tk, os⟩ → wpAny (model prog w) A' (pyIter v) Q E ⟨hp, g, d, tk, os⟩ :=
      fun hq => B.iter prog w _ _ ⟨hp, g, d, tk, os⟩ _ hG hq
    wp_walk using begins
    refine wpAny_stack_any fun st => wpAny_pure ?_
    split
    · next c _ _ _ _ _ =>
      cases (c == Value.type "enumerate") <;> (wp_walk using begins; exact ⟨_, rfl, hR⟩)
    · wp_walk using begins
      exact ⟨_, rfl, hR⟩
theorem call_enumT {prog : Program} {w : World} {A : Around} {E : Value → Shared → Prop} {s : Shared} {t : Addr} {items : Array Value} {Q : Value → Shared → Prop} (ht : s.heap.IsTuple t items)
    (h : ∀ h', IsEnum h' (s.heap.objs.size + 1) s.heap.objs.size 0 .none → h'.IsTupleIter s.heap.objs.size t 0 → (∀ b o, s.heap.get? b = some o → h'.get? b = some o) → Q (.ref (s.heap.objs.size + 1)) { s with heap := h' }) :
    wpAny (model prog w) A (call (.type "enumerate") [.ref t]) Q E s := by
  refine callType_new F.called_enumerate (by decide) (F.typeCall_enumerate_1 _) (F.newCall_enumerate_1 _) (fun obj => F.args_object_init_2 obj _) F.entry_enumerate_new (meets_enum1 (begins_tuple t items)) ⟨ht, ?_⟩
  generalize ho : ({ cls := .type "tuple_iterator", data := .fields #[.ref t, .int 0 0] } : Obj) = o
  have hz : (s.heap.push o).objs.size = s.heap.objs.size + 1 := Heap.size_push ..
  show _ ∧ _
  rw [hz]
  generalize hx : ({ cls := .type "enumerate", data := .fields #[.none, .bool false, .ref s.heap.objs.size, rawInt 0, .none, .none] } : Obj) = x
  have fx : x.isFreed = false := by rw [← hx]; rfl
  have fo : o.isFreed = false := by rw [← ho]; rfl
  have gx : ((s.heap.push o).push x).get? (s.heap.objs.size + 1) = some x := by
    have := Heap.get?_push_size (s.heap.push o) fx
    rw [hz] at this
    exact this
  have go : ((s.heap.push o).push x).get? s.heap.objs.size = some o := Heap.get?_push_of_some _ (Heap.get?_push_size _ fo)
  have ie : IsEnum ((s.heap.push o).push x) (s.heap.objs.size + 1) s.heap.objs.size 0 .none := by
    show ((s.heap.push o).push x).get? (s.heap.objs.size + 1) = _
    rw [gx, ← hx]
  have ti : ((s.heap.push o).push x).IsTupleIter s.heap.objs.size t 0 := ⟨o, go, by rw [← ho], by rw [← ho]; rfl⟩
  exact ⟨⟨x, gx, by rw [← hx]⟩, h _ ie ti fun b u e => Heap.get?_push_of_some _ (Heap.get?_push_of_some _ e)⟩
/-- the tuple at a, each item in a new pair behind its number -/
def IteT (K : PySem.W.Frag) (a : Addr) : It :=
  ⟨fun i H => ∃ (xs : List V) (x : V), SqT K H a xs ∧ xs[i]? = some x, fun i H v H' => ∃ T x, v = .ref T ∧ H T = none ∧ H' = upd H T (.tup [.int (i : Nat), x]) ∧ ∀ xs, SqT K H a xs → xs[i]? = some x, fun i H => ∃ xs : List V, SqT K H a xs ∧ xs.length ≤ i⟩
theorem walk_enumT {K : PySem.W.Frag} {a : Addr} {xs : List V} : Walk (IteT K a) xs.length (fun H => SqT K H a xs) (YPair (fun i => some (.int (i : Nat))) (fun i => xs[i]?)) where
  goes := fun i H hi hq => ⟨xs, xs[i], hq, List.getElem?_eq_getElem hi⟩
  stops := fun H hq => ⟨xs, hq, Nat.le_refl _⟩
  yields := fun i H x H' hi hq ⟨T, y, e, n, u, z⟩ => ⟨T, _, y, e, n, u, rfl, z xs hq⟩
theorem wpAny_pyNext_enumT_end {prog : Program} {w : World} {A : Around} {E : Value → Shared → Prop} {s : Shared} {e it t : Addr} {n : Nat} {c : Int} {items : Array Value} {old : Value} {Q : Option Value → Shared → Prop} (hh : A.handled = none)
    (he : IsEnum s.heap e it c old) (hit : s.heap.IsTupleIter it t n) (ht : s.heap.IsTuple t items) (hx : items[n]? = none)
    (hQ : ∀ h', Heap.ExtBut it s.heap h' → Q none { s with heap := h' }) : wpAny (model prog w) A (pyNext (.ref e)) Q E s := by
  have hT : s.TypeIs (.ref e) "enumerate" := ⟨_, he, rfl⟩
  unfold pyNext
  refine wpAny_bind (wpAny_attempt (wpAny_callSpecial?_slot (name := Str.ofString "__next__") hT F.slot_enumerate_next (wpAny_call_entry F.slot_enumerate_next hT F.entry_enumerate_next ?_ (F.args_enumerate_next_1 _))))
  show wpAny _ _ (field (.ref e) 2 >>= _) _ _ _
  refine wpAny_bind (wpAny_field he rfl (x := .ref it) rfl (wpAny_bind (wpAny_nextOf_tuple_end (A := A.in1) hh hit ht hx fun h' x ext ⟨o, ho, hc⟩ => ?_)))
  exact wpAny_bind (wpAny_isInstance (T := "StopIteration") (b := true) ⟨o, ho, hc⟩ isSubtype_stop (wpAny_pure (hQ _ ext)))
theorem turn_enumT {P : Program} {w : World} {K : PySem.W.Frag} {elts : List Expr} {kk : Nat} {tpos : Pos} (a e it : Addr) :
    Turn P w K (.Tuple elts kk tpos) (IteT K a) [e, it] e (fun i h => (∃ old, IsEnum h e it ((i : Nat) : Int) old) ∧ h.IsTupleIter it a i ∧ e ≠ it ∧ a ≠ it) where
  mem := List.mem_cons_self ..
  obj := fun i h st b hb => by
    obtain ⟨⟨old, he⟩, ⟨o, ho, hc, hd⟩, _⟩ := st
    rcases List.mem_cons.mp hb with rfl | hb
    · exact ⟨_, he, fun v q => nomatch q⟩
    · rw [List.mem_singleton.mp hb]
      exact ⟨o, ho, fun v q => by rw [hd] at q; cases q⟩
  keep := fun i h h' st k => let ⟨⟨old, he⟩, hi, hne⟩ := st; ⟨⟨old, k e (by simp) _ he⟩, hi.at fun o q => k it (by simp) o q, hne⟩
  item := by
    intro X hP hw hK hc i pins s σ H E I hf st hg
    subst hP hw hK
    obtain ⟨⟨old, he⟩, hit, hne, hna⟩ := st
    obtain ⟨xs, x, hq, hx⟩ := hg
    obtain ⟨its, rv, pt, hz⟩ := I.tuple hq
    have hT0 : s.heap.IsTuple a its.toArray := pt
    obtain ⟨u, hu, ru⟩ := rv.get hx
    have hel : e < s.heap.objs.size := Heap.lt_size he
    have hil : it < s.heap.objs.size := by obtain ⟨_, q, _⟩ := id hit; exact Heap.lt_size q
    have hea : e ≠ a := fun z => by
      obtain ⟨_, q, hc, n, hd⟩ := id hT0
      rw [← z] at q
      have q' := q.symm.trans he
      obtain rfl := Option.some.inj q'
      exact absurd (Value.type.inj hc) (by decide)
    have isz : i < its.toArray.size := by
      rw [List.size_toArray]
      rcases Nat.lt_or_ge i its.length with z | z
      · exact z
      · rw [List.getElem?_eq_none z] at hu
        cases hu
    refine wpAny_pyNext_enum_itemD (Draws.tuple (A := X.A.in1) (I.ok.hd hc) it a hna its.toArray) he ⟨hit, hT0⟩ isz hne (by simp [hne, hea]) fun x' h' tk hx' ho hst' hT hsz hk => ?_
    have hxu : x' = u := by
      have z : its[i]? = some x' := by simpa using hx'
      rw [hu] at z
      exact (Option.some.inj z).symm
    subst hxu
    refine ⟨_, rfl, wpAny_letOwnedTupleGo_enum (s := { s with heap := h', toks := tk + 1 }) ho fun h'' he' sb => ?_⟩
    have hT2 : h''.get? s.heap.objs.size = some { cls := .type "tuple", data := .seq #[.int i tk, x'] } := (sb.2 _ (Nat.ne_of_gt hel)).trans hT
    have new : ObjOk X.prog X.w (upd H s.heap.objs.size (.tup [.int (i : Nat), x])) h'' s.heap.objs.size (.tup [.int (i : Nat), x]) :=
      ⟨by show 2 ≤ sizeLine; decide, [.int i tk, x'], .cons ⟨_, rfl⟩ (.cons ru .nil), ⟨_, hT2, rfl, _, rfl⟩⟩
    have I1 : Inv X pins σ (upd H s.heap.objs.size (.tup [.int (i : Nat), x])) { s with heap := h'', toks := tk + 1 } :=
      I.turnedNew (ch := [e, it]) (fun b ob hb q => (sb.2 b (fun z => hb (by simp [z]))).trans (hk b ob (fun z => hb (by simp [z])) (fun z => hb (by simp [z])) q)) hf (Nat.le_refl _) new
    refine ⟨.ref s.heap.objs.size, _, I1, rfl, ⟨_, x, rfl, I.hok.fresh (Nat.le_refl _), rfl, fun ys hy => ?_⟩, ⟨⟨x', ?_⟩, hst'.1.at fun o q => (sb.2 it (Ne.symm hne)).trans q, hne, hna⟩, fun b hb => ?_⟩
    · rw [I.tuple_inj hy hq]
      exact hx
    · have e1 : ((i + 1 : Nat) : Int) = (i : Int) + 1 := by omega
      rw [e1]
      exact he'
    · have hb' : b < s.heap.objs.size := by
        rcases List.mem_cons.mp hb with z | z
        · rw [z]; exact hel
        · rw [List.mem_singleton.mp z]; exact hil
      rw [upd_ne (Nat.ne_of_lt hb')]
      exact (hf b hb).1
  done := by
    intro X hP hw hK hc i pins s σ H E I hf st hg
    subst hP hw hK
    obtain ⟨⟨old, he⟩, hit, hne, hna⟩ := st
    obtain ⟨xs, hq, hx⟩ := hg
    obtain ⟨its, rv, pt, hz⟩ := I.tuple hq
    obtain ⟨f0, f1, f2, f3, f4, f5⟩ := hf it (by simp)
    have hl := rv.length
    have hT0 : s.heap.IsTuple a its.toArray := pt
    have hend : i = its.toArray.size ∨ its.toArray.size < i := by
      have z : its.toArray.size ≤ i := by rw [List.size_toArray]; omega
      omega
    have he' := he
    refine wpAny_pyNext_enumT_end (I.ok.hd hc) he hit hT0 (by simp; omega) fun h' eb => ⟨rfl, I.turned (t' := s.toks) (fun b o hb q => eb b o hb q) f0 f1 f3 f4 f5⟩
  self := fun A i s Q E st h => let ⟨⟨_, he⟩, _⟩ := st; wpAny_pyIter_enum he h
def iEnumT (K : PySem.W.Frag) (ta : TA) : TI := fun σ H R => ta σ H fun vs H1 => ∃ a xs, vs = [.ref a] ∧ SqT K H1 a xs ∧ R (IteT K a) H1
theorem pi_enumT {X : Cx} {e : Expr} {ta : TA} {p pos tpos : Pos} {elts : List Expr} {kk : Nat} (hg : Gl X "enumerate") (hm : X.mg "enumerate" = none) (ha : PA X [e] ta) (hs : starEach [e] X.env = [(false, eval e X.env)] := by rfl) :
    PI X (.Tuple elts kk tpos) (.Call (.Name "enumerate" p) [e] [] pos) (iEnumT X.K ta) := by
  refine ⟨fun pins s σ H R I h => Call_ (ld_blt I hg hm boot_enumerate (PyProof.Rows.callWith_type1 (thn (ha.run pos pins s σ H _ I h) fun us s1 hx => ?_) hs rfl))⟩
  obtain ⟨vs, H1, I1, r1, a, xs, rfl, hq, q⟩ := hx
  obtain ⟨u, rfl, rx⟩ := vals1 r1
  cases rx
  obtain ⟨its, rv, pt, hz⟩ := I1.tuple hq
  have hT0 : s1.heap.IsTuple a its.toArray := pt
  have alt : a < s1.heap.objs.size := by
    obtain ⟨_, z, _⟩ := id hT0
    exact Heap.lt_size z
  refine call_enumT hT0 fun h' he hit hk => wpAny_pyIter_enum he ?_
  refine ⟨s1.heap.objs.size + 1, [s1.heap.objs.size + 1, s1.heap.objs.size], _, _, H1, rfl, I1.kept (t' := s1.toks) hk, turn_enumT a (s1.heap.objs.size + 1) s1.heap.objs.size, ⟨⟨.none, he⟩, hit, Nat.succ_ne_self _, Nat.ne_of_lt alt⟩, fun b hb => ?_, q⟩
  have hle : s1.heap.objs.size ≤ b := by
    rcases List.mem_cons.mp hb with z | z
    · rw [z]; exact Nat.le_add_right _ _
    · rw [List.mem_singleton.mp z]; exact Nat.le_refl _
  exact I1.fpOk hle (I1.hok.fresh hle)
end GX

set_option Elab.async false
set_option linter.all false
set_option maxRecDepth 100000
set_option maxHeartbeats 4000000
/-! {k: v for t in i if ..}, the keys new tuples -/
namespace GX
open PySem PySem.Spec PyProof.Rows L2
section
variable {X : Cx} {pins : List (Addr × Obj)} {σ : L2.St} {H : Hp} {s : Shared}
theorem dictSet_t {E : Value → Shared → Prop} {D b : Addr} {kvs : List (List L2.Key × V)} {k : List L2.Key} {v : V} {r : Value} {Q : Unit → Shared → Prop} (hu : X.A.units < cLine) (I : L2.Inv X pins σ H s) (hD : H D = some (.dT kvs)) (hb : H b = some (.tup (k.map kV)))
    (hz : kvs.length < sizeLine) (rv : L2.RelV v r) (fin : ∀ s', L2.Inv X pins σ (upd H D (.dT (putK kvs k v))) s' → Q () s') : wpAny (model X.prog X.w) X.A (dictSet D (.ref b) r) Q E s := by
  obtain ⟨z, low, xs, rel, dd⟩ := dt_of I.hok hD
  have lxs : xs.length ≤ sizeLine := Nat.le_trans (Nat.le_of_eq (Paired.length rel).symm) z
  have lput : (putK kvs k v).length ≤ sizeLine := Nat.le_trans (length_putK kvs k v) hz
  refine wpAny_dictSet_heap (knd := tupleKind (mixKind X.prog X.w)) (hsz := lxs) hu (key_of I.hok hb) dd fun h' dd' same => fin _ ?_
  obtain ⟨q, es, ep, hq, g2, g3, g4, _, g5⟩ := dd'
  have stays : KT (upd H D (.dT (putK kvs k v))) (putK kvs k v) (storedH xs k b r) := (rel.put k hb rv).keeps fun c ys ec => (upd_ne (ne_of ec hD fun z => nomatch z)).trans ec
  exact d_write I (by rw [hD]; trivial) same ⟨q, hq⟩ ⟨lput, low, _, stays, q, es, ep, hq, g2, g3, g4, g5⟩
end
/-- the reading -/
def tDcT (wi : TI) (g : TG) (tt : TT) (tk tv : TE) (vs : List Nat) : TE := fun σ H Q => wi σ H fun J H1 => ∀ D, H1 D = none → ∃ W : Nat → Nat → Hp → Prop, (∃ m, W 0 m (upd H1 D (.dT []))) ∧ ∀ i m H, W i m H →
  (J.stop i H ∧ Q (.ref D) H) ∨ (J.go i H ∧ ∃ Nx : Hp → Prop, (∀ H', Nx H' → ∃ m', m' < m ∧ W (i + 1) m' H') ∧ ∀ x H', J.yld i H x H' → g x (wipe σ vs) H' fun σ2 H2 => wipe σ2 vs = wipe σ vs ∧ tt σ2 H2 fun b H3 =>
    if b = true then tk σ2 H3 fun y H4 => tv σ2 H4 fun z H5 => ∃ kvs k b, y = .ref b ∧ H5 b = some (.tup (k.map kV)) ∧ H5 D = some (.dT kvs) ∧ kvs.length < sizeLine ∧ Nx (upd H5 D (.dT (putK kvs k z))) else Nx H3)
section
variable {X : Cx} {kx vx tg iter : Expr} {ifs : List Expr} {scope : Scope} {own : List (Str × Nat)} {pos : Pos} {wi : TI} {g : TG} {tt : TT} {tk tv : TE}
theorem pe_dcT (hu : X.A.units < cLine) (hc : X.calm = true) (hN : X.N.Nodup) (hi : PI X tg iter wi) (ok : BlkOk X.N X.env.scope scope own)
    (hg : ∀ s H C cl fp, PG (X.blk s H scope (compEnvC scope cl C X.env) fp) tg g) (ht : ∀ s H C cl fp, PTs (X.blk s H scope (compEnvC scope cl C X.env) fp) ifs tt)
    (hk : ∀ s H C cl fp, PE (X.blk s H scope (compEnvC scope cl C X.env) fp) kx tk) (he : ∀ s H C cl fp, PE (X.blk s H scope (compEnvC scope cl C X.env) fp) vx tv) (hs : ∀ x, foldedSetIterable iter X.env x = pure x := by intro _; rfl) :
    PE X (.DictComp kx vx [⟨tg, iter, ifs, 0⟩] scope pos) (tDcT wi g tt tk tv (own.map (·.2))) := by
  refine ⟨fun pins s σ H Q I h => ?_⟩
  rw [arm_eval_DictComp]
  have cellsOf : ∀ y ∈ scope.names, y.2 = .free → ∃ c, X.env.cells.lookup y.1 = some c := fun y hy e => (ok.free y hy e).elim (fun k => I.ok.has _ (.inl k)) fun k => I.ok.has _ (.inr k)
  refine wpAny_comprehension_free (use := none) rfl hs (closure_ok cellsOf) ok.kind (fun y hy e => (ok.uniq y hy).trans (congrArg some e)) (thn (hi.run pins s σ H _ I h) fun xv s1 hx => thn hx fun itv s2 z2 => ?_)
  obtain ⟨it, fp, tn, J, H2, rfl, I2, T, at2, free2, spec⟩ := z2
  refine wpAny_newObj_type (newEnv_comp ?_)
  generalize eD : s2.heap.objs.size = D
  have freshD : H2 D = none := I2.hok.fresh (Nat.le_of_eq eD)
  obtain ⟨W, ⟨m0, w0⟩, turn⟩ := spec D freshD
  generalize es3 : ({ s2 with heap := s2.heap.push { cls := .type "dict", data := .dict #[] } } : Shared) = s3
  have hp3 : s3.heap = s2.heap.push { cls := .type "dict", data := .dict #[] } := by rw [← es3]
  have keep3 : ∀ b o, s2.heap.get? b = some o → s3.heap.get? b = some o := fun b o e => by
    rw [hp3]
    exact Heap.get?_push_of_some _ e
  generalize eH3 : upd H2 D (.dT []) = H3 at w0
  have I3 : L2.Inv X pins σ H3 s3 := by
    rw [← eH3, ← es3]
    refine I2.laid (t' := s2.toks) (fun b o e => Heap.get?_push_of_some _ e) (Nat.le_of_eq eD) ?_
    rw [← eD]
    exact dt_empty s2.heap I2.big
  have low : ∀ b ∈ fp, b < s2.heap.objs.size := fun b hb => let ⟨_, e, _⟩ := T.obj _ _ at2 b hb; Heap.lt_size e
  have free3 : ∀ b ∈ fp, FpOk X pins H3 b ∧ b < s3.heap.objs.size := fun b hb => by
    refine ⟨⟨?_, (free2 b hb).2⟩, ?_⟩
    · rw [← eH3, upd_ne (fun z => Nat.lt_irrefl _ (Nat.lt_of_lt_of_le (low b hb) (Nat.le_of_eq (eD.trans z.symm))))]
      exact (free2 b hb).1
    · rw [hp3, Heap.size_push]
      exact Nat.lt_succ_of_lt (low b hb)
  have at3 : tn 0 s3.heap := T.keep _ _ _ at2 fun b _ o e => keep3 b o e
  have I4 := block_start I3 ok hN free3
  show codeAny (model X.prog X.w) X.A (.compStart (.DictComp kx vx [⟨tg, iter, ifs, 0⟩] scope pos) 0 (.ref it) (.ref D) (compEnvC scope (cellsFrom (s3.heap.objs.size + 1) scope.names (cloFrom X.env.cells scope.names [])) s3.heap.objs.size X.env)) (compPost (model X.prog X.w) X.A X.xe none (EP X pins σ Q) (.ref D) s3.heap.objs.size)
    { s3 with heap := pushCells (s3.heap.push { cls := .type "dict", data := .dict #[] }) scope.names }
  generalize eC : s3.heap.objs.size = C at I4 ⊢
  generalize ecl : cellsFrom (C + 1) scope.names (cloFrom X.env.cells scope.names []) = cl at I4 ⊢
  have gg := hg s3 H3 C cl fp
  have gt := ht s3 H3 C cl fp
  have gk := hk s3 H3 C cl fp
  have ge := he s3 H3 C cl fp
  generalize ece : compEnvC scope cl C X.env = ce at I4 gg gt gk ge ⊢
  have loc : ce.locals = C := by rw [← ece]; rfl
  generalize es4 : ({ s3 with heap := pushCells (s3.heap.push { cls := .type "dict", data := .dict #[] }) scope.names } : Shared) = s4 at I4 ⊢
  have at4 : tn 0 s4.heap := T.keep _ _ _ at3 fun b _ o e => by
    rw [← es4]
    exact pushCells_keeps _ _ _ _ (Heap.get?_push_of_some _ e)
  generalize eY : X.blk s3 H3 scope ce fp = Y at I4 gg gt gk ge
  have apart : ∀ {σ' : L2.St} {H' : Hp} {s' : Shared}, L2.Inv Y [] σ' H' s' → (∀ b ∈ fp, H' b = none) → ∀ b ∈ fp, FpOk Y [] H' b := by
    subst eY
    exact fun I' nn b hb => ⟨nn b hb, (I'.ok.exf b hb).1, I'.ok.exfs b hb, .inl hb, fun x c e => (I'.ok.exf b hb).2 x c e, fun p hp => absurd hp (by simp)⟩
  have back : ∀ {σ' : L2.St} {H' : Hp} {s' : Shared}, L2.Inv Y [] σ' H' s' → L2.Inv X pins σ H' s' := by
    subst eY
    exact fun I' => I3.call' (ch := fp) I'.os I'.base I'.hok I'.bare fun b hb => ⟨(free3 b hb).1.2.2.2.1, (free3 b hb).1.2.1, (free3 b hb).1.2.2.2.2.1, (free3 b hb).1.2.2.2.2.2⟩
  have yp : Y.prog = X.prog ∧ Y.w = X.w ∧ Y.K = X.K ∧ Y.calm = true ∧ Y.A = X.A ∧ Y.env = ce := by
    subst eY
    exact ⟨rfl, rfl, rfl, hc, rfl, rfl⟩
  have yx : Y.xe = fun _ _ => False := by
    subst eY
    rfl
  obtain ⟨y1, y2, y3, y4, y5, y6⟩ := yp
  have loop : codeAny (model X.prog X.w) X.A (.compLoop (.DictComp kx vx [⟨tg, iter, ifs, 0⟩] scope pos) 0 (.ref it) (.ref D) ce) (compPost (model X.prog X.w) X.A X.xe none (EP X pins σ Q) (.ref D) C) s4 := by
    refine compLoop_anyD (fun n s' => ∃ i H', L2.Inv Y [] (wipe σ (own.map (·.2))) H' s' ∧ tn i s'.heap ∧ (∀ b ∈ fp, H' b = none) ∧ W i n H') (fun n s5 hI5 => ?_) m0 ⟨0, H3, I4, at4, fun b hb => (free3 b hb).1.1, w0⟩
    obtain ⟨i, H5, I5, at5, nn5, w5⟩ := hI5
    rcases turn i n H5 w5 with ⟨stop, fin⟩ | ⟨go, Nx, less, step⟩
    · have z := T.done Y y1 y2 y3 y4 i [] s5 _ H5 (fun _ _ => False) I5 (apart I5 nn5) at5 stop
      rw [y5] at z
      refine thnF z fun r s6 ⟨er, I6⟩ => ?_
      subst er
      have noC : H5 C = none := by
        have q := I6.free
        rw [y6, loc] at q
        exact q
      obtain ⟨m, hn, _⟩ := I6.loc
      rw [y6, loc] at hn
      have IX := back I6
      obtain ⟨f0, f1, f2, f3, f4, f5⟩ := I3.fpOk (b := C) (H' := H5) (Nat.le_of_eq eC) noC
      exact ⟨m, hn, fun h'' sb => ⟨.ref D, H5, IX.turned (t' := s6.toks) (fun b o hb e => (sb.2 b hb).trans e) f0 f1 f3 f4 f5, rfl, fin⟩⟩
    · have z := T.item Y y1 y2 y3 y4 i [] s5 _ H5 (fun _ _ => False) I5 (apart I5 nn5) at5 go
      rw [y5] at z
      refine thnF z fun r s6 ⟨u, er, h6⟩ => ?_
      subst er
      refine thnF h6 fun _ s7 ⟨x, H7, I7, r7, yl, at7, nn7⟩ => ?_
      have P7 := I7.pinned (apart I7 nn7) (T.obj _ _ at7)
      have zg := gg.run _ s7 _ H7 x u _ P7 r7 (step x H7 yl)
      rw [y1, y2, y5, y6, yx] at zg
      refine thnF zg fun _ s8 ⟨σ8, H8, I8, hw8, q8⟩ => ?_
      have zt := gt.run _ s8 σ8 H8 _ I8 q8
      rw [y1, y2, y5, y6, yx] at zt
      refine thnF zt fun b s9 ⟨H9, I9, q9⟩ => ?_
      have fin : ∀ {s' : Shared} {H' : Hp}, L2.Inv Y ([] ++ pinsAt fp s7.heap) σ8 H' s' → Nx H' → ∃ m, m < n ∧ ∃ i H', L2.Inv Y [] (wipe σ (own.map (·.2))) H' s' ∧ tn i s'.heap ∧ (∀ b ∈ fp, H' b = none) ∧ W i m H' := fun {s' H'} I' nx => by
        obtain ⟨m', lt, w'⟩ := less H' nx
        have stay : ∀ b ∈ fp, ∀ o, s7.heap.get? b = some o → s'.heap.get? b = some o ∧ H' b = none := fun b hb o e => by
          have z := I'.pin (b, o) (List.mem_append_right _ (List.mem_append_right _ (mem_pinsAt hb e)))
          exact ⟨z.1, z.2.1⟩
        have len8 : (wipe σ (own.map (·.2))).length = σ8.length := (congrArg List.length hw8).symm.trans (wipe_length ..)
        refine ⟨m', lt, i + 1, H', (I'.unpinned (pins := [])).weak len8 (fun j v e => ?_), T.keep _ _ _ at7 fun b hb o e => (stay b hb o e).1, fun b hb => ?_, w'⟩
        · exact (wipe_some (hw8 ▸ e)).1
        · obtain ⟨o, e, _⟩ := T.obj _ _ at7 b hb
          exact (stay b hb o e).2
      cases b with
      | true =>
        simp only [if_true] at q9 ⊢
        have zk := gk.run _ s9 σ8 H9 _ I9 q9
        rw [y1, y2, y5, y6, yx] at zk
        refine thnF zk fun u1 s10 ⟨yk, H10, I10, r10, q10⟩ => ?_
        have ze := ge.run _ s10 σ8 H10 _ I10 q10
        rw [y1, y2, y5, y6, yx] at ze
        refine thnF ze fun u2 s11 ⟨yv, H11, I11, r11, kvs, k, kb, ek, hkb, hD11, hz11, nx⟩ => ?_
        subst ek
        cases r10
        have zd := dictSet_t (X := Y) (E := fun _ _ => False) (Q := fun _ s' => ∃ m, m < n ∧ ∃ i H', L2.Inv Y [] (wipe σ (own.map (·.2))) H' s' ∧ tn i s'.heap ∧ (∀ b ∈ fp, H' b = none) ∧ W i m H') (by rw [y5]; exact hu) I11 hD11 hkb hz11 r11 fun s12 I12 => fin I12 nx
        rw [y1, y2, y5] at zd
        exact thnF zd fun _ _ q => q
      | false =>
        simp only [Bool.false_eq_true, if_false] at q9 ⊢
        exact fin I9 q9
  exact codeAny_compStart_dict loop (T.self X.A 0 _ _ _ at4 loop)
end
end GX

set_option Elab.async false
set_option linter.all false
set_option maxRecDepth 100000
set_option maxHeartbeats 4000000
/-! generator expressions whose element may call: the frame's run, turn by turn -/
namespace GX
open PySem PySem.Spec PyProof.Rows L2
/-- what stands ahead of turn i -/
structure GAt (X : Cx) (pl : List (Addr × Obj)) (fp : List Addr) (tn : Nat → Heap → Prop) (W : Nat → L2.St → Hp → Prop) (gz : Nat) (i : Nat) (s : Shared) : Prop where
  ex : ∃ σ H, Inv X pl σ H s ∧ tn i s.heap ∧ (∀ b ∈ fp, FpOk X pl H b) ∧ W i σ H
  gs : gz < s.gens.size
/-- what is told where an item is handed out -/
def GYp (X : Cx) (pl : List (Addr × Obj)) (fp : List Addr) (tn : Nat → Heap → Prop) (W : Nat → L2.St → Hp → Prop) (gz n : Nat) (F : Nat → V → Prop) : Protocol := fun m s₀ v s kap =>
  ∃ (i : Nat) (x : V), m + 1 + i = n ∧ RelV x v ∧ F i x ∧ GAt X pl fp tn W gz (i + 1) s ∧ ∀ s'', GAt X pl fp tn W gz (i + 1) s'' → kap (.send .none) s''
def GEnd (X : Cx) (pl : List (Addr × Obj)) (W : Nat → L2.St → Hp → Prop) (gz n : Nat) (s : Shared) : Prop := (∃ σ H, Inv X pl σ H s ∧ W n σ H) ∧ gz < s.gens.size
abbrev loopC (target elt iter : Expr) (scope : Scope) (pos : Pos) (it : Addr) (env : Env) : Code := .compLoop (.GeneratorExp elt [⟨target, iter, [], 0⟩] scope pos) 0 (.ref it) .none env
section
variable {X : Cx} {pl : List (Addr × Obj)} {A : Around} {target elt iter : Expr} {scope : Scope} {pos : Pos} {it : Addr} {fp : List Addr} {tn : Nat → Heap → Prop} {J : It} {g : TG} {te : TE} {n gz : Nat} {W : Nat → L2.St → Hp → Prop} {F : Nat → V → Prop}
theorem gen_loop (hX : X.A = A.over (loopC target elt iter scope pos it X.env) []) (hc : X.calm = true) (hco : X.env.scope.isCoroutine = false) (hxe : ∀ e s, X.xe e s → False)
    (T : Turn X.prog X.w X.K target J fp it tn) (hg : PG X target g) (he : PE X elt te)
    (step : ∀ i σ H, i < n → W i σ H → J.go i H ∧ ∀ x H', J.yld i H x H' → g x σ H' fun σ2 H2 => te σ2 H2 fun v H3 => F i v ∧ W (i + 1) σ2 H3) (stop : ∀ σ H, W n σ H → J.stop n H) :
    ∀ (k i : Nat) (s₀ s : Shared), n - i = k → i ≤ n → GAt X pl fp tn W gz i s →
      Seg (model X.prog X.w) A (fun m _ r s₁ => r = .ok .next ∧ (m = 0 ∧ GEnd X pl W gz n s₁)) (GYp X pl fp tn W gz n F) k s₀ (loopC target elt iter scope pos it X.env) ((model X.prog X.w).den (loopC target elt iter scope pos it X.env)) [] s := by
  intro k
  induction k with
  | zero =>
    intro i s₀ s hk hi ⟨⟨σ, H, I, st, fr, w⟩, hgs⟩
    have e : i = n := by omega
    subst e
    show Seg _ A _ _ _ s₀ _ ((compTurn (.GeneratorExp elt [⟨target, iter, [], 0⟩] scope pos) 0 (.ref it) .none X.env).onRaise (leaving X.env)) [] s
    rw [compTurn_gen, Sem.onRaise_eq_wrap]
    refine seg_bind_wrap (wpAny_standAt (seg_bind_wrap ?_))
    rw [← hX]
    refine GenW.wpAny_gsz (n := gz + 1) hgs (wpAny_mono (T.done X rfl rfl rfl hc i pl s σ H (fun _ _ => False) I fr st (stop σ H w)) (fun r s1 ⟨hr, I1⟩ hz => ?_) fun _ _ z => z.elim)
    subst hr
    exact seg_end (.ok .next) ⟨rfl, rfl, ⟨σ, H, I1, w⟩, hz⟩
  | succ k ih =>
    intro i s₀ s hk hi ⟨⟨σ, H, I, st, fr, w⟩, hgs⟩
    have lt : i < n := by omega
    obtain ⟨go, turn⟩ := step i σ H lt w
    have stat : ∀ {H' : Hp}, (∀ b ∈ fp, H' b = none) → ∀ b ∈ fp, FpOk X pl H' b := fun hn b hb => ⟨hn b hb, (fr b hb).2⟩
    show Seg _ A _ _ _ s₀ _ ((compTurn (.GeneratorExp elt [⟨target, iter, [], 0⟩] scope pos) 0 (.ref it) .none X.env).onRaise (leaving X.env)) [] s
    rw [compTurn_gen, Sem.onRaise_eq_wrap]
    refine seg_bind_wrap (wpAny_standAt (seg_bind_wrap ?_))
    rw [← hX]
    refine GenW.wpAny_gsz (n := gz + 1) hgs (wpAny_mono (T.item X rfl rfl rfl hc i pl s σ H (fun _ _ => False) I fr st go) (fun r s1 ⟨u, hr, h1⟩ z1 => ?_) fun _ _ z => z.elim)
    subst hr
    refine seg_bind_wrap ?_
    rw [← hX]
    refine GenW.wpAny_gsz (n := gz + 1) z1 (wpAny_mono h1 (fun _ s2 ⟨x, H2, I2, r2, y2, st2, fr2⟩ z2 => ?_) fun _ _ z => z.elim)
    have I2' := I2.pinned (stat fr2) (T.obj _ _ st2)
    refine seg_bind_wrap ?_
    rw [← hX]
    refine GenW.wpAny_gsz (n := gz + 1) z2 (wpAny_mono (hg.run _ s2 σ H2 x u _ I2' r2 (turn x H2 y2)) (fun _ s3 ⟨σ3, H3, I3, q3⟩ z3 => ?_) fun e s' z => (hxe e s' z).elim)
    refine seg_bind_wrap ?_
    rw [← hX]
    simp only [List.forIn_nil]
    refine wpAny_pure ?_
    simp only [if_true]
    have hy : ∀ v, yieldOut X.env v = yieldValue v := fun v => by simp only [yieldOut, hco, Bool.false_eq_true, if_false]
    simp only [hy]
    rw [Sem.bind_eq_wrap', Sem.bind_eq_wrap', Sem.wrap_wrap, Sem.wrap_wrap]
    refine seg_wrap ?_
    rw [← hX]
    refine GenW.wpAny_gsz (n := gz + 1) z3 (wpAny_mono (he.run _ s3 σ3 H3 _ I3 q3) (fun y s4 ⟨v, H4, I4, r4, hF, w4⟩ z4 => ?_) fun e s' z => (hxe e s' z).elim)
    have same : ∀ b ∈ fp, ∀ o, s2.heap.get? b = some o → s4.heap.get? b = some o ∧ H4 b = none := fun b hb o e => by
      have q := I4.pin (b, o) (List.mem_append_right _ (List.mem_append_right _ (mem_pinsAt hb e)))
      exact ⟨q.1, q.2.1⟩
    have at4 : GAt X pl fp tn W gz (i + 1) s4 := ⟨⟨σ3, H4, I4.unpinned, T.keep _ _ _ st2 fun b hb o e => (same b hb o e).1, stat fun b hb => by
      obtain ⟨o, e, _⟩ := T.obj _ _ st2 b hb
      exact (same b hb o e).2, w4⟩, z4⟩
    refine seg_at (seg_yield rfl rfl rfl ⟨i, v, by omega, r4, hF, at4, fun s5 at5 => ?_⟩)
    exact seg_again rfl (ih (i + 1) s5 s5 (by omega) (by omega) at5)
abbrev startC (target elt iter : Expr) (scope : Scope) (pos : Pos) (it : Addr) (env : Env) : Code := .compStart (.GeneratorExp elt [⟨target, iter, [], 0⟩] scope pos) 0 (.ref it) .none env
theorem gen_start (hX : X.A = A.over (loopC target elt iter scope pos it X.env) []) (hc : X.calm = true) (hco : X.env.scope.isCoroutine = false) (hxe : ∀ e s, X.xe e s → False)
    (T : Turn X.prog X.w X.K target J fp it tn) (hg : PG X target g) (he : PE X elt te)
    (step : ∀ i σ H, i < n → W i σ H → J.go i H ∧ ∀ x H', J.yld i H x H' → g x σ H' fun σ2 H2 => te σ2 H2 fun v H3 => F i v ∧ W (i + 1) σ2 H3) (stop : ∀ σ H, W n σ H → J.stop n H)
    (s₀ s : Shared) (h : GAt X pl fp tn W gz 0 s) :
    Seg (model X.prog X.w) A (fun m _ r s₁ => r = .ok .next ∧ (m = 0 ∧ GEnd X pl W gz n s₁)) (GYp X pl fp tn W gz n F) n s₀ (startC target elt iter scope pos it X.env) ((model X.prog X.w).den (startC target elt iter scope pos it X.env)) [] s := by
  have loop : Seg (model X.prog X.w) A (fun m _ r s₁ => r = .ok .next ∧ (m = 0 ∧ GEnd X pl W gz n s₁)) (GYp X pl fp tn W gz n F) n s₀ (loopC target elt iter scope pos it X.env) ((model X.prog X.w).den (loopC target elt iter scope pos it X.env)) [] s :=
    gen_loop hX hc hco hxe T hg he step stop n 0 s₀ s (Nat.sub_zero n) (Nat.zero_le n) h
  obtain ⟨σ, H, I, st, fr, w⟩ := h.ex
  show Seg _ A _ _ _ s₀ _ ((compStart (.GeneratorExp elt [⟨target, iter, [], 0⟩] scope pos) 0 (.ref it) .none X.env).onRaise (leaving X.env)) [] s
  unfold compStart
  rw [Sem.onRaise_eq_wrap]
  refine seg_bind_wrap (m := ask) (wpAny_askSetting ?_)
  split
  · exact seg_again rfl loop
  · refine seg_bind_wrap (wpAny_rule ?_)
    refine seg_bind_wrap (wpAny_standAt ?_)
    refine seg_bind_wrap (T.self _ 0 s _ _ st ?_)
    exact seg_again rfl loop
end
end GX

set_option Elab.async false
set_option linter.all false
set_option maxRecDepth 100000
set_option maxHeartbeats 4000000
/-! what walks such a generator: next, all, any -/
namespace GX
open PySem PySem.Spec PyProof.Rows L2
theorem bare_set {gens : Array GenState} {g : Nat} {x : GenState} (h : AllBare gens) (hx : x.bare = true) : AllBare (gens.setIfInBounds g x) := fun y hy => by
  obtain ⟨i, hi, e⟩ := Array.mem_iff_getElem.mp hy
  rw [← e, Array.getElem_setIfInBounds (by simpa using hi)]
  split
  · exact hx
  · exact h _ (Array.getElem_mem _)
theorem inv_gens {X : Cx} {pl : List (Addr × Obj)} {σ : L2.St} {H : Hp} {s : Shared} (I : Inv X pl σ H s) {gens : Array GenState} (hb : AllBare gens) : Inv X pl σ H { s with gens := gens } :=
  ⟨I.ok, I.os, hb, I.base, I.loc, I.cell, I.free, I.freeC, I.pin, I.hok, I.len⟩
section
variable {X : Cx} {pl : List (Addr × Obj)} {A : Around} {fp : List Addr} {tn : Nat → Heap → Prop} {n gz : Nat} {W : Nat → L2.St → Hp → Prop} {F : Nat → V → Prop}
theorem GAt.set {i : Nat} {s : Shared} (h : GAt X pl fp tn W gz i s) {x : GenState} (hx : x.bare = true) : GAt X pl fp tn W gz i (s.setGen gz x) := by
  obtain ⟨⟨σ, H, I, st, fr, w⟩, hg⟩ := h
  refine ⟨⟨σ, H, inv_gens I (bare_set I.bare hx), st, fr, w⟩, ?_⟩
  show gz < (s.gens.setIfInBounds gz x).size
  rw [Array.size_setIfInBounds]
  exact hg
/-- the generator at a stands ahead of turn j -/
structure GRun (X : Cx) (pl : List (Addr × Obj)) (A : Around) (fp : List Addr) (tn : Nat → Heap → Prop) (n gz : Nat) (W : Nat → L2.St → Hp → Prop) (F : Nat → V → Prop) (j : Nat) (s : Shared) : Prop where
  at_ : GAt X pl fp tn W gz j s
  run : ∃ gs, s.gens[gz]? = some gs ∧ ∀ s'', GAt X pl fp tn W gz j s'' →
    gs.Goes (model X.prog X.w) A.in1 (fun m _ r s₁ => r = .ok .next ∧ (m = 0 ∧ GEnd X pl W gz n s₁)) (GYp X pl fp tn W gz n F) (n - j) (.send .none) s''
theorem GAt.limit {i : Nat} {s : Shared} (h : GAt X pl fp tn W gz i s) : s.heap.NoLimit := by
  obtain ⟨⟨σ, H, I, _⟩, _⟩ := h
  exact I.nolimit
theorem GAt.gen {i : Nat} {s : Shared} {a : Addr} {oa : Obj} (h : GAt X pl fp tn W gz i s) (hm : (a, oa) ∈ pl) : s.heap.get? a = some oa := by
  obtain ⟨⟨σ, H, I, _⟩, _⟩ := h
  exact (I.pin (a, oa) (List.mem_append_right _ hm)).1
theorem next_item {a : Addr} {j : Nat} {s : Shared} {Q : Option Value → Shared → Prop} {E : Value → Shared → Prop} (hh : A.handled = none) (hroom : A.depth < recursionLimit) (hgen : ∀ i s, GAt X pl fp tn W gz i s → s.heap.IsGen a gz) (hj : j < n)
    (h : GRun X pl A fp tn n gz W F j s) (hQ : ∀ x v s', RelV x v → F j x → GRun X pl A fp tn n gz W F (j + 1) s' → Q (some v) s') : wpAny (model X.prog X.w) A (pyNext (.ref a)) Q E s := by
  obtain ⟨at_, gs, hgs, hgo⟩ := h
  obtain ⟨m, hm⟩ : ∃ m, n - j = m + 1 := ⟨n - j - 1, by omega⟩
  rw [hm] at hgo
  refine wpAny_pyNext_genexpQ (P := fun m _ s₁ => m = 0 ∧ GEnd X pl W gz n s₁) hh at_.limit hroom (hgen _ _ at_) hgs (hgo _ (at_.set rfl)) (fun v s₁ gs' hb hv => ?_) (fun s₁ hp h' hk => ?_)
  · obtain ⟨i, x, hi, rv, hF, a1, kap⟩ := hv
    have e : i = j := by omega
    subst e
    refine hQ x v _ rv hF ⟨a1.set hb, gs', ?_, fun s'' hs => ?_⟩
    · show (s₁.gens.setIfInBounds gz gs')[gz]? = some gs'
      rw [Array.getElem?_setIfInBounds_self, if_pos a1.gs]
    · have e2 : n - (i + 1) = m := by omega
      rw [e2]
      exact kap s'' hs
  · exact absurd hp.1 (Nat.succ_ne_zero m)
theorem next_done {a : Addr} {s : Shared} {Q : Option Value → Shared → Prop} {E : Value → Shared → Prop} (hh : A.handled = none) (hroom : A.depth < recursionLimit) (hgen : ∀ i s, GAt X pl fp tn W gz i s → s.heap.IsGen a gz)
    (h : GRun X pl A fp tn n gz W F n s) (hQ : ∀ σ H s', Inv X pl σ H s' → W n σ H → Q none s') : wpAny (model X.prog X.w) A (pyNext (.ref a)) Q E s := by
  obtain ⟨at_, gs, hgs, hgo⟩ := h
  rw [Nat.sub_self] at hgo
  refine wpAny_pyNext_genexpQ (P := fun m _ s₁ => m = 0 ∧ GEnd X pl W gz n s₁) hh at_.limit hroom (hgen _ _ at_) hgs (hgo _ (at_.set rfl)) (fun v s₁ gs' hb hv => ?_) (fun s₁ hp h' hk => ?_)
  · obtain ⟨i, x, hi, rv, hF, a1, kap⟩ := hv
    exact (kap s₁ a1).elim
  · obtain ⟨_, ⟨σ, H, I, w⟩, _⟩ := hp
    exact hQ σ H _ ((inv_gens I (bare_set I.bare rfl)).kept (h' := h') (t' := s₁.toks) hk) w
/-- all: the walk of a generator -/
theorem all_loop {a : Addr} (hh : A.handled = none) (hroom : A.depth < recursionLimit) (hgen : ∀ i s, GAt X pl fp tn W gz i s → s.heap.IsGen a gz) (tr : Nat → Bool) {R : Result → Shared → Prop}
    (hF : ∀ i x, i < n → F i x → x = .bl (tr i)) (hR : ∀ i σ H s', i ≤ n → Inv X pl σ H s' → W i σ H → R (.ok (.ret (.bool ((List.range n).all tr)))) s') :
    ∀ (k j : Nat) (s : Shared), n - j = k → j ≤ n → (∀ i, i < j → tr i = true) → GRun X pl A.in1 fp tn n gz W F j s → codeAny (model X.prog X.w) A (.builtin "all.loop" ⟨[.ref a], []⟩) R s := by
  intro k
  induction k with
  | zero =>
    intro j s hk hj hb h
    have e : j = n := by omega
    subst e
    refine codeAny_builtin PySem.F.entry_all_loop ?_
    rw [Around.under_plainId PySem.F.plain_all_loop _]
    refine wpAny_bind (m := pyNext (.ref a)) (next_done hh hroom hgen h fun σ H s' I w => ?_)
    refine wpAny_bind (wpAny_rule (wpAny_pure ?_))
    have q := hR j σ H s' (Nat.le_refl j) I w
    have e2 : (List.range j).all tr = true := List.all_eq_true.mpr fun i hi => hb i (List.mem_range.mp hi)
    rw [e2] at q
    exact q
  | succ k ih =>
    intro j s hk hj hb h
    have lt : j < n := by omega
    refine codeAny_builtin PySem.F.entry_all_loop ?_
    rw [Around.under_plainId PySem.F.plain_all_loop _]
    refine wpAny_bind (m := pyNext (.ref a)) (next_item hh hroom hgen lt h fun x v s' rv hx h' => ?_)
    have ex := hF j x lt hx
    subst ex
    have ev : v = Value.bool (tr j) := rv
    subst ev
    refine wpAny_bind (wpAny_holding (wpAny_truthy_bool (wpAny_bind (wpAny_letGo ?_))))
    cases q : tr j with
    | true =>
      refine wpAny_pure ⟨plainId_quiet PySem.F.plain_all_loop _, ih (j + 1) _ (by omega) lt (fun i hi => ?_) h'⟩
      by_cases c : i = j
      · rw [c, q]
      · exact hb i (by omega)
    | false =>
      refine wpAny_bind (wpAny_rule (wpAny_pure ?_))
      obtain ⟨⟨σ, H, I, _, _, w⟩, _⟩ := h'.at_
      have z := hR (j + 1) σ H s' lt I w
      have e2 : (List.range n).all tr = false := by
        rw [Bool.eq_false_iff]
        intro e
        have := List.all_eq_true.mp e j (List.mem_range.mpr lt)
        rw [q] at this
        cases this
      rw [e2] at z
      exact z
/-- any: likewise -/
theorem any_loop {a : Addr} (hh : A.handled = none) (hroom : A.depth < recursionLimit) (hgen : ∀ i s, GAt X pl fp tn W gz i s → s.heap.IsGen a gz) (tr : Nat → Bool) {R : Result → Shared → Prop}
    (hF : ∀ i x, i < n → F i x → x = .bl (tr i)) (hR : ∀ i σ H s', i ≤ n → Inv X pl σ H s' → W i σ H → R (.ok (.ret (.bool ((List.range n).any tr)))) s') :
    ∀ (k j : Nat) (s : Shared), n - j = k → j ≤ n → (∀ i, i < j → tr i = false) → GRun X pl A.in1 fp tn n gz W F j s → codeAny (model X.prog X.w) A (.builtin "any.loop" ⟨[.ref a], []⟩) R s := by
  intro k
  induction k with
  | zero =>
    intro j s hk hj hb h
    have e : j = n := by omega
    subst e
    refine codeAny_builtin PySem.F.entry_any_loop ?_
    rw [Around.under_plainId PySem.F.plain_any_loop _]
    refine wpAny_bind (m := pyNext (.ref a)) (next_done hh hroom hgen h fun σ H s' I w => ?_)
    refine wpAny_bind (wpAny_rule (wpAny_pure ?_))
    have q := hR j σ H s' (Nat.le_refl j) I w
    have e2 : (List.range j).any tr = false := by
      rw [Bool.eq_false_iff]
      intro e
      obtain ⟨i, hi, z⟩ := List.any_eq_true.mp e
      rw [hb i (List.mem_range.mp hi)] at z
      cases z
    rw [e2] at q
    exact q
  | succ k ih =>
    intro j s hk hj hb h
    have lt : j < n := by omega
    refine codeAny_builtin PySem.F.entry_any_loop ?_
    rw [Around.under_plainId PySem.F.plain_any_loop _]
    refine wpAny_bind (m := pyNext (.ref a)) (next_item hh hroom hgen lt h fun x v s' rv hx h' => ?_)
    have ex := hF j x lt hx
    subst ex
    have ev : v = Value.bool (tr j) := rv
    subst ev
    refine wpAny_bind (wpAny_holding (wpAny_truthy_bool (wpAny_bind (wpAny_letGo ?_))))
    cases q : tr j with
    | false =>
      refine wpAny_pure ⟨plainId_quiet PySem.F.plain_any_loop _, ih (j + 1) _ (by omega) lt (fun i hi => ?_) h'⟩
      by_cases c : i = j
      · rw [c, q]
      · exact hb i (by omega)
    | true =>
      refine wpAny_bind (wpAny_rule (wpAny_pure ?_))
      obtain ⟨⟨σ, H, I, _, _, w⟩, _⟩ := h'.at_
      have z := hR (j + 1) σ H s' lt I w
      have e2 : (List.range n).any tr = true := List.any_eq_true.mpr ⟨j, List.mem_range.mpr lt, q⟩
      rw [e2] at z
      exact z
end
end GX

set_option Elab.async false
set_option linter.all false
set_option maxRecDepth 100000
set_option maxHeartbeats 4000000
/-! such a generator is made -/
namespace GX
open PySem PySem.Spec PyProof.Rows L2
/-- the frame's context -/
def gcx (X : Cx) (s4 : Shared) (H4 : Hp) (cenv : Env) (N : List Str) (ex : List Addr) (A' : Around) : Cx where
  prog := X.prog
  w := X.w
  K := X.K
  mg := X.mg
  base := X.base
  A := A'
  N := N
  s_0 := s4
  H_0 := H4
  env := cenv
  outer := X.stack
  stack := cenv :: X.stack
  ex := ex
  fn := fun _ => false
  calm := true
  pn := []
  xe := fun _ _ => False
/-- a generator expression's scope within the def that runs -/
structure GSc (env : Env) (scope : Scope) : Prop where
  kind : scope.kind = .function
  co : scope.isCoroutine = false
  cell : ∀ y ∈ scope.names, y.2 ≠ .cell
  dot : scope.names.lookup (".0" : Str) = some NameKind.local
  free : ∀ y ∈ scope.names, y.2 = .free → ∃ c, env.cells.lookup y.1 = some c
theorem clo_some {cells : List (Str × Addr)} {names : List (Str × NameKind)} (hf : ∀ y ∈ names, y.2 = .free → ∃ c, cells.lookup y.1 = some c) {x : Str} {c : Addr} (h : (cloFrom cells names []).lookup x = some c) : cells.lookup x = some c := by
  rcases cloFrom_mem (PySem.mem_of_lookup h) with z | ⟨z, e⟩
  · cases z
  · obtain ⟨d, hd⟩ := hf _ z rfl
    rw [hd] at e
    rw [e, hd]
    rfl
theorem clo_has {cells : List (Str × Addr)} {names : List (Str × NameKind)} {x : Str} (h : names.lookup x = some .free) : ∃ c, (cloFrom cells names []).lookup x = some c := by
  have z := cloFrom_has (cells := cells) (acc := []) (PySem.mem_of_lookup h)
  cases q : (cloFrom cells names []).lookup x with
  | some c => exact ⟨c, rfl⟩
  | none =>
    have := List.lookup_eq_none_iff.mp q _ z
    simp at this
section
variable {X : Cx} {pins : List (Addr × Obj)} {σ σg : L2.St} {H : Hp} {s : Shared} {scope : Scope} {N : List Str} {fp : List Addr}
theorem gcx_inv (I : Inv X pins σ H s) (S : GSc X.env scope) (hf : ∀ b ∈ fp, FpOk X pins H b) (hthere : ∀ b ∈ fp, ∃ o, s.heap.get? b = some o) {A' : Around} {code : Value} (hA : A'.handled = none) (hA2 : A'.frames = some (genEnv scope (cloFrom X.env.cells scope.names []) s.heap.objs.size code builtinsNs X.env :: X.stack))
    (hcap : ∀ (i : Nat) (x : Str) (v : V), N[i]? = some x → σg[i]? = some (some v) → scope.names.lookup x = some .free ∧ (X.env.kindOf x = some .cell ∨ X.env.kindOf x = some .free) ∧ ∃ k : Nat, X.N[k]? = some x ∧ σ[k]? = some (some v)) (hlen : σg.length = N.length)
    {h5 : Heap} {gens : Array GenState} {tk : Nat} {m : Str → Option Value} {a : Addr} {oa : Obj} (hb : AllBare gens) (keep : ∀ b o, s.heap.get? b = some o → h5.get? b = some o) (hn : h5.Ns s.heap.objs.size m) (ha : h5.get? a = some oa) (hsz : s.heap.objs.size < a) (hd : ∀ v, oa.data ≠ .cell v) :
    Inv (gcx X s H (genEnv scope (cloFrom X.env.cells scope.names []) s.heap.objs.size code builtinsNs X.env) N fp A') [(a, oa)] σg H { s with heap := h5, gens := gens, toks := tk } := by
  have sub : ∀ {x : Str} {c : Addr}, (cloFrom X.env.cells scope.names []).lookup x = some c → X.env.cells.lookup x = some c := fun h => clo_some S.free h
  have isfree : ∀ {x : Str}, scope.names.lookup x = some .cell ∨ scope.names.lookup x = some .free → scope.names.lookup x = some .free := fun {x} h => by
    rcases h with h | h
    · exact absurd rfl (S.cell _ (PySem.mem_of_lookup h))
    · exact h
  have stk : ∀ {b : Addr} {o : Obj}, b ∈ frs X.stack → b < s.heap.objs.size := fun {b o} hb => by
    rcases List.mem_cons.mp (I.stkSub b hb) with e | e
    · rw [e]
      exact I.lt
    · obtain ⟨_, o, ho, _⟩ := I.ok.funs.mem e
      exact Nat.lt_of_lt_of_le (Heap.lt_size ho) I.sz
  refine ⟨⟨I.ok.mod, S.kind, I.ok.glob, rfl, Nat.le_refl _, fun x y c h1 h2 => I.ok.inj x y c (sub h1) (sub h2), fun x h => clo_has (isfree h), (fun x c h _ => nomatch h), fun _ => hA, hA2, .inr ⟨rfl, rfl⟩, fun b hb => ⟨fun e => ?_, fun x c h => (hf b hb).2.2.2.2.1 x c (sub h)⟩, I.bs, Nat.le_trans I.ok.bsz I.sz, fun b o e hb => ?_, fun b hb hs => ?_, I.stack, I.stkFree⟩,
    rfl, hb, Un.kept keep, ⟨m, hn, fun i x v h1 h2 h3 => ?_⟩, fun x c h => ?_, I.hok.fresh (Nat.le_refl _), fun x c h => I.freeC x c (sub h), fun p hp => ?_, I.hok.kept keep, hlen⟩
  · obtain ⟨o, e2⟩ := hthere b hb
    have := Heap.lt_size e2
    rw [e] at this
    exact Nat.lt_irrefl _ this
  · rcases (hf b hb).2.2.2.1 with z | z
    · exact I.ok.noex b o e z
    · exact absurd (Nat.lt_of_lt_of_le (Heap.lt_size (I.ok.bs b o e).1) z) (Nat.lt_irrefl _)
  · rcases List.mem_cons.mp (I.stkSub b hs) with e | e
    · exact (hf b hb).2.1 e
    · exact (hf b hb).2.2.1 e
  · obtain ⟨k1, k2, j, k3, k4⟩ := hcap i x v h1 h2
    obtain ⟨mX, _, hl⟩ := I.loc
    have vis : Vis X.env.scope x := .inr k2
    obtain ⟨u, ru, lk⟩ := hl j x v k3 k4 vis
    rcases lk with ⟨z, _⟩ | ⟨_, c, hc, ic⟩
    · rcases k2 with k2 | k2
      · rw [z] at k2
        cases k2
      · rw [z] at k2
        cases k2
    · obtain ⟨c2, hc2⟩ := clo_has (cells := X.env.cells) k1
      have e := sub hc2
      rw [hc] at e
      refine ⟨u, ru, .inr ⟨.inr k1, c2, hc2, ?_⟩⟩
      rw [← Option.some.inj e]
      obtain ⟨o, ho, r⟩ := ic
      exact ⟨o, keep _ o ho, r⟩
  · obtain ⟨v, o, ho, r⟩ := I.cell x c (sub h)
    exact ⟨v, o, keep _ o ho, r⟩
  · have e : p = (a, oa) := List.mem_singleton.mp (show p ∈ ([(a, oa)] : List (Addr × Obj)) from hp)
    subst e
    refine ⟨ha, I.hok.fresh (Nat.le_of_lt hsz), Nat.ne_of_gt hsz, fun z => ?_, hd⟩
    exact Nat.lt_irrefl _ (Nat.lt_trans hsz (stk (o := oa) z))
/-- behind the generator's life the consumer goes on -/
theorem gcx_back (I : Inv X pins σ H s) (hf : ∀ b ∈ fp, FpOk X pins H b) {cenv : Env} {A' : Around} {pl : List (Addr × Obj)} {H' : Hp} {s' : Shared} (J : Inv (gcx X s H cenv N fp A') pl σg H' s') : Inv X pins σ H' s' :=
  I.call' (ch := fp) J.os J.base J.hok J.bare fun b hb => ⟨(hf b hb).2.2.2.1, (hf b hb).2.1, (hf b hb).2.2.2.2.1, (hf b hb).2.2.2.2.2⟩
end
end GX

set_option Elab.async false
set_option linter.all false
set_option maxRecDepth 100000
set_option maxHeartbeats 4000000
/-! such a generator is made and walked -/
namespace GX
open PySem PySem.Spec PyProof.Rows L2
abbrev cenvOf (X : Cx) (scope : Scope) (s4 : Shared) (code : Value) : Env := genEnv scope (cloFrom X.env.cells scope.names []) s4.heap.objs.size code builtinsNs X.env
abbrev gA (X : Cx) (target elt iter : Expr) (scope : Scope) (pos : Pos) (it : Addr) (cenv : Env) : Around := X.A.in1.in1.over (loopC target elt iter scope pos it cenv) []
/-- the context of the expression's frame, as it runs for all, any -/
abbrev gX (X : Cx) (target elt iter : Expr) (scope : Scope) (pos : Pos) (N : List Str) (s4 : Shared) (H4 : Hp) (code : Value) (fp : List Addr) (it : Addr) : Cx :=
  gcx X s4 H4 (cenvOf X scope s4 code) N fp (gA X target elt iter scope pos it (cenvOf X scope s4 code))
theorem gA_frames {X : Cx} {target elt iter : Expr} {scope : Scope} {pos : Pos} {it : Addr} {cenv : Env} (h : X.A.frames = some X.stack) : (gA X target elt iter scope pos it cenv).frames = some (cenv :: X.stack) := by
  have e : (gA X target elt iter scope pos it cenv).frames = X.A.frames.map (cenv :: ·) := by
    unfold gA Around.over Around.in1
    cases X.A.frames <;> rfl
  rw [e, h]
  rfl
theorem gA_room {X : Cx} {target elt iter : Expr} {scope : Scope} {pos : Pos} {it : Addr} {cenv : Env} {k : Nat} (h : Room (k + 1) X.A) : Room k (gA X target elt iter scope pos it cenv) := by
  refine ⟨h.hd, ?_, ?_⟩
  · have := h.dp
    show X.A.depth + 1 + 3 * k + 5 < _
    omega
  · have := h.un
    show X.A.units + 1 + 1 + 3 + 16 * k + 200 < _
    omega
/-- the captured names' slots -/
def gsl (caps : List (Option Nat)) (σ : L2.St) : L2.St := caps.map fun o => match o with
  | some k => (σ[k]?).getD none
  | none => none
structure Caps (X : Cx) (scope : Scope) (N : List Str) (caps : List (Option Nat)) : Prop where
  len : caps.length = N.length
  ok : ∀ (i k : Nat) (x : Str), caps[i]? = some (some k) → N[i]? = some x → scope.names.lookup x = some .free ∧ (X.env.kindOf x = some .cell ∨ X.env.kindOf x = some .free) ∧ X.N[k]? = some x
section
variable {X : Cx} {pins : List (Addr × Obj)} {σ : L2.St} {H : Hp} {s : Shared} {c P : Addr}
/-- the expression's code object, out of the def's table -/
theorem code_step (I : Inv X pins σ H s) (TB : GxR.TabB X.base X.mg c P) (hcode : X.env.code = .ref c) (hP : GxR.TabG H P) {pos : Pos} {q : Str} {scope : Scope} {Q : Value → Shared → Prop} {E : Value → Shared → Prop}
    (hQ : ∀ (code : Value) (s3 : Shared) (H3 : Hp), Inv X pins σ H3 s3 → GxR.Tabbed P H H3 → (∀ b o, b ≠ P → s.heap.get? b = some o → s3.heap.get? b = some o) → Q code s3) : wpAny (model X.prog X.w) X.A (genexprCode X.env pos q scope) Q E s := by
  obtain ⟨ps, hp, ht⟩ := hP
  have hget : s.heap.get? P = some { cls := .none, data := .fields ps } := I.hok P _ hp
  have cd : PySem.W.CodeHd s.heap c P := TB.code.keeps I.bk
  cases hf : codeAmong pos ps.toList with
  | some cv => exact wpAny_genexprCode_hit hcode (cd.code hget ht) hf (hQ cv s H I ⟨⟨ps, hp, ht⟩, fun _ _ => rfl⟩ fun _ _ _ e => e)
  | none =>
    refine wpAny_genexprCodeX hcode (cd.code hget ht) (cd.tab hget) hf fun c' h' tk hx hge hlt hco _ htab _ => ?_
    obtain ⟨_, _, _, _, _, _, _, _, _, _, _, _, _, _, _, _, _, _, _, htr, _⟩ := hco
    refine hQ (.ref c') { s with heap := h', toks := tk } _ (GxR.inv_tab (more := #[rawInt pos.line, rawInt pos.col, Value.ref c']) (g' := s.gens) (d' := s.drawn) I hp (fun b u hb e => hx b u hb e) htab.2 I.bare) ⟨⟨_, upd_same, htr⟩, fun b hb => upd_ne hb⟩ fun b o hb e => hx b o hb e
theorem blt_step (I : Inv X pins σ H s) (TB : GxR.TabB X.base X.mg c P) {Q : Addr → Shared → Prop} {E : Value → Shared → Prop} (hQ : Q builtinsNs s) : wpAny (model X.prog X.w) X.A (builtinsFor X.env.globals X.env.builtins) Q E s := by
  obtain ⟨m, ob, e1, e2, e3, e4, e5, e6, e7, e8⟩ := TB.bm
  exact wpAny_builtinsFor (m := X.mg) (by rw [I.ok.glob]; exact I.mod.glob.keeps I.bk) e1 e2 (I.bk _ _ e5) e6 e7 e8 hQ
/-- a generator that is ready to be walked by all, any: what is handed out at turn i is told by F, what holds ahead of it by W -/
def Made (X : Cx) (pins : List (Addr × Obj)) (σ : L2.St) (n : Nat) (W : Nat → L2.St → Hp → Prop) (F : Nat → V → Prop) (a : Addr) (s5 : Shared) : Prop :=
  ∃ (Y : Cx) (pl : List (Addr × Obj)) (fp : List Addr) (tn : Nat → Heap → Prop) (gz : Nat), Y.prog = X.prog ∧ Y.w = X.w ∧ (∀ σ' H' s', Inv Y pl σ' H' s' → Inv X pins σ H' s') ∧
    (∀ i s, GAt Y pl fp tn W gz i s → s.heap.IsGen a gz) ∧ GRun Y pl X.A.in1 fp tn n gz W F 0 s5
theorem gsl_at {caps : List (Option Nat)} {σ : L2.St} {i : Nat} {v : V} (h : (gsl caps σ)[i]? = some (some v)) : ∃ k, caps[i]? = some (some k) ∧ σ[k]? = some (some v) := by
  unfold gsl at h
  rw [List.getElem?_map] at h
  cases e : caps[i]? with
  | none =>
    rw [e] at h
    cases h
  | some o =>
    rw [e] at h
    cases o with
    | none => cases Option.some.inj h
    | some k =>
      have h2 : (σ[k]?).getD none = some v := Option.some.inj h
      refine ⟨k, rfl, ?_⟩
      cases e2 : σ[k]? with
      | none =>
        rw [e2] at h2
        cases h2
      | some u =>
        rw [e2] at h2
        have h3 : u = some v := h2
        rw [h3]
theorem gen_made {target elt iter : Expr} {scope : Scope} {gpos : Pos} {N : List Str} {caps : List (Option Nat)} {wi : TI} {g : TG} {te : TE} {k : Nat} {Q' : Value → Shared → Prop}
    (hr : Room (k + 1) X.A) (TB : GxR.TabB X.base X.mg c P) (hcode : X.env.code = .ref c) (S : GSc X.env scope) (CP : Caps X scope N caps) (hi : PI X target iter wi) (hs : ∀ v, genFold iter X.env v = pure v)
    (hg : ∀ s4 H4 code fp it, PG (gX X target elt iter scope gpos N s4 H4 code fp it) target g) (he : ∀ s4 H4 code fp it, PE (gX X target elt iter scope gpos N s4 H4 code fp it) elt te) (I : Inv X pins σ H s)
    {Rw : It → Hp → Prop} (h : wi σ H Rw) (hR : ∀ J H2, Rw J H2 → GxR.TabG H2 P ∧ ∀ H3, GxR.Tabbed P H2 H3 → ∃ (n : Nat) (W : Nat → L2.St → Hp → Prop) (F : Nat → V → Prop), W 0 (gsl caps σ) H3 ∧
      (∀ i σ' H', i < n → W i σ' H' → J.go i H' ∧ ∀ x H'', J.yld i H' x H'' → g x σ' H'' fun σ2 H4 => te σ2 H4 fun v H5 => F i v ∧ W (i + 1) σ2 H5) ∧ (∀ σ' H', W n σ' H' → J.stop n H') ∧
      ∀ a s5, Made X pins σ n W F a s5 → Q' (.ref a) s5) :
    wpAny (model X.prog X.w) X.A (eval (.GeneratorExp elt [⟨target, iter, [], 0⟩] scope gpos) X.env) Q' X.xe s := by
  refine wpAny_GeneratorExp_make S.co (closure_ok S.free) S.cell S.dot S.kind (by have := hr.dp; omega) ?_ hs
  refine wpAny_mono (hi.run pins s σ H _ I h) (fun xv s1 h1 => wpAny_mono h1 (fun itv s2 h2 => ?_) fun _ _ z => z) fun _ _ z => z
  obtain ⟨it, fp, tn, J, H2, rfl, I2, T, st2, f2, rJ⟩ := h2
  obtain ⟨hP, spec⟩ := hR J H2 rJ
  refine ⟨I2.nolimit, code_step I2 TB hcode hP fun code s3 H3 I3 tb keep3 => blt_step I3 TB fun h' hn' hs' => ?_⟩
  obtain ⟨n, W, F, w0, step, stop, hQ⟩ := spec H3 tb
  -- what is walked stands as it stood
  have nP : ∀ b ∈ fp, b ≠ P := fun b hb z => by
    obtain ⟨ps, hp, _⟩ := hP
    have := (f2 b hb).1
    rw [z, hp] at this
    cases this
  have st3 : tn 0 s3.heap := T.keep _ _ _ st2 fun b hb o e => keep3 b o (nP b hb) e
  have f3 : ∀ b ∈ fp, FpOk X pins H3 b := fun b hb => ⟨(tb.2 b (nP b hb)).trans (f2 b hb).1, (f2 b hb).2⟩
  have there : ∀ b ∈ fp, ∃ o, s3.heap.get? b = some o := fun b hb => by
    obtain ⟨o, e, _⟩ := T.obj _ _ st3 b hb
    exact ⟨o, e⟩
  have hsz : h'.objs.size = s3.heap.objs.size + 1 := by rw [hs'.1, Heap.size_push]
  have keep' : ∀ b o, s3.heap.get? b = some o → h'.get? b = some o := fun b o e => hs'.extBut b o (Nat.ne_of_lt (Heap.lt_size e)) (Heap.get?_push_of_some _ e)
  generalize hoa : ({ cls := .type "generator", data := .fields #[.int s3.gens.size 0, .str "<genexpr>" (s3.toks + 1), .str (X.env.qual ++ "<genexpr>") (s3.toks + 1 + 1)] } : Obj) = oa
  have nc : ∀ v, oa.data ≠ .cell v := fun v z => by
    rw [← hoa] at z
    cases z
  have fr : oa.isFreed = false := by
    rw [← hoa]
    rfl
  have J5 : Inv (gX X target elt iter scope gpos N s3 H3 code fp it) [(h'.objs.size, oa)] (gsl caps σ) H3 { s3 with heap := h'.push oa, gens := s3.gens.push (.fresh (startC target elt iter scope gpos it (cenvOf X scope s3 code))), toks := s3.toks + 1 + 1 + 1 } := by
    refine gcx_inv (A' := gA X target elt iter scope gpos it (cenvOf X scope s3 code)) (code := code) (N := N) I3 S f3 there hr.hd (gA_frames I3.ok.frames) (fun i x v hN hv => ?_) ?_ (by exact I3.bare.push rfl) (fun b o e => Heap.get?_push_of_some _ (keep' b o e)) (hn'.push _) (Heap.get?_push_size _ fr) (by omega) nc
    · obtain ⟨k, h1, h2⟩ := gsl_at hv
      obtain ⟨k1, k2, k3⟩ := CP.ok i k x h1 hN
      exact ⟨k1, k2, k, k3, h2⟩
    · unfold gsl
      rw [List.length_map]
      exact CP.len
  have at5 : GAt (gX X target elt iter scope gpos N s3 H3 code fp it) [(h'.objs.size, oa)] fp tn W s3.gens.size 0 { s3 with heap := h'.push oa, gens := s3.gens.push (.fresh (startC target elt iter scope gpos it (cenvOf X scope s3 code))), toks := s3.toks + 1 + 1 + 1 } := by
    refine ⟨⟨gsl caps σ, H3, J5, T.keep _ _ _ st3 fun b hb o e => Heap.get?_push_of_some _ (keep' b o e), fun b hb => ?_, w0⟩, ?_⟩
    · have fb := f3 b hb
      obtain ⟨ob, e⟩ := there b hb
      have lt := Heap.lt_size e
      refine ⟨fb.1, Nat.ne_of_lt lt, J5.ok.exfs b hb, .inl hb, (J5.ok.exf b hb).2, fun p hp => ?_⟩
      have ep : p = (h'.objs.size, oa) := List.mem_singleton.mp (show p ∈ ([(h'.objs.size, oa)] : List (Addr × Obj)) from hp)
      rw [ep]
      exact Nat.ne_of_gt (show b < h'.objs.size by rw [hsz]; exact Nat.lt_succ_of_lt lt)
    · show s3.gens.size < (s3.gens.push _).size
      rw [Array.size_push]
      omega
  refine hQ h'.objs.size _ ⟨gX X target elt iter scope gpos N s3 H3 code fp it, [(h'.objs.size, oa)], fp, tn, s3.gens.size, rfl, rfl, fun σ' H' s' J' => gcx_back I3 f3 J', fun i s' ha => ?_, at5, ⟨_, Array.getElem?_push_size .., fun s'' h'' => ⟨rfl, ?_⟩⟩⟩
  · have e := ha.gen (a := h'.objs.size) (oa := oa) List.mem_cons_self
    rw [← hoa] at e
    exact ⟨_, _, _, e, rfl, rfl, rfl⟩
  · exact gen_start (X := gX X target elt iter scope gpos N s3 H3 code fp it) (A := X.A.in1.in1) rfl rfl S.co (fun _ _ z => z) T (hg _ _ _ _ _) (he _ _ _ _ _) step stop s'' s'' h''
end
end GX

set_option Elab.async false
set_option linter.all false
set_option maxRecDepth 100000
set_option maxHeartbeats 4000000
/-! all(e for t in i), any(e for t in i) -/
namespace GX
open PySem PySem.Spec PyProof.Rows L2
/-- the reading: n turns, W ahead of each, tr what each element is -/
def tGen (P : Addr) (caps : List (Option Nat)) (wi : TI) (g : TG) (te : TE) (out : List Bool → Bool) : TE := fun σ H Q => wi σ H fun J H2 => GxR.TabG H2 P ∧ ∀ H3, GxR.Tabbed P H2 H3 → ∃ (n : Nat) (W : Nat → L2.St → Hp → Prop) (tr : Nat → Bool), W 0 (gsl caps σ) H3 ∧
  (∀ i σ' H', i < n → W i σ' H' → J.go i H' ∧ ∀ x H'', J.yld i H' x H'' → g x σ' H'' fun σ2 H4 => te σ2 H4 fun v H5 => v = .bl (tr i) ∧ W (i + 1) σ2 H5) ∧ (∀ σ' H', W n σ' H' → J.stop n H') ∧
  ∀ i σ' H', i ≤ n → W i σ' H' → Q (.bl (out ((List.range n).map tr))) H'
abbrev tAllG (P : Addr) (caps : List (Option Nat)) (wi : TI) (g : TG) (te : TE) : TE := tGen P caps wi g te fun l => l.all id
abbrev tAnyG (P : Addr) (caps : List (Option Nat)) (wi : TI) (g : TG) (te : TE) : TE := tGen P caps wi g te fun l => l.any id
section
variable {X : Cx} {c P : Addr} {target elt iter : Expr} {scope : Scope} {gpos p pos : Pos} {N : List Str} {caps : List (Option Nat)} {wi : TI} {g : TG} {te : TE} {k : Nat}
theorem pe_allG (hr : Room (k + 1) X.A) (hgl : Gl X "all") (hm : X.mg "all" = none) (TB : GxR.TabB X.base X.mg c P) (hcode : X.env.code = .ref c) (S : GSc X.env scope) (CP : Caps X scope N caps) (hi : PI X target iter wi)
    (hg : ∀ s4 H4 code fp it, PG (gX X target elt iter scope gpos N s4 H4 code fp it) target g) (he : ∀ s4 H4 code fp it, PE (gX X target elt iter scope gpos N s4 H4 code fp it) elt te)
    (hs : ∀ v, genFold iter X.env v = pure v := by intro _; rfl)
    (hst : starEach [.GeneratorExp elt [⟨target, iter, [], 0⟩] scope gpos] X.env = (false, eval (.GeneratorExp elt [⟨target, iter, [], 0⟩] scope gpos) X.env) :: starEach [] X.env := by rfl) :
    PE X (.Call (.Name "all" p) [.GeneratorExp elt [⟨target, iter, [], 0⟩] scope gpos] [] pos) (tAllG P caps wi g te) := by
  refine ⟨fun pins s σ H Q I h => wpAny_Call_Name_kw (ld_blt I hgl hm PyProof.Rows.boot_all (PyProof.Rows.callWith_builtin1 ?_ hst (by rfl)))⟩
  rw [hst]
  show wpAny _ _ (spliced ((false, eval (.GeneratorExp elt [⟨target, iter, [], 0⟩] scope gpos) X.env) :: backTo pos (starEach [] X.env))) _ _ s
  refine Calls.spliced_cons (gen_made hr TB hcode S CP hi hs hg he I h fun J H2 ⟨hP, spec⟩ => ⟨hP, fun H3 tb => ?_⟩)
  obtain ⟨n, W, tr, w0, step, stop, hQ⟩ := spec H3 tb
  refine ⟨n, W, fun i v => v = .bl (tr i), w0, step, stop, fun a s5 ⟨Y, pl, fp, tn, gz, e1, e2, back, isg, run⟩ => ?_⟩
  refine Calls.spliced_nil ?_
  refine call_function_tree PySem.F.kind_all PySem.F.plain_all PySem.F.entry_all (PySem.F.args_all1 _) ?_
  unfold Builtin.«all»
  refine wpAny_bind (m := oneArg "all" _) (wpAny_pure ?_)
  refine wpAny_bind (wpAny_pyIter_gen (isg 0 s5 run.at_) (wpAny_pure ⟨plainId_quiet PySem.F.plain_all_loop _, ?_⟩))
  rw [← e1, ← e2]
  refine all_loop hr.hd (by have := hr.dp; show X.A.depth < _; omega) isg tr (fun i x _ hx => hx) (fun i σ' H' s' hi' I' w' => ?_) n 0 s5 (Nat.sub_zero n) (Nat.zero_le n) (fun i hi' => absurd hi' (Nat.not_lt_zero i)) run
  refine ⟨.bl ((List.range n).all tr), H', back σ' H' s' I', rfl, ?_⟩
  have q : Q (.bl (((List.range n).map tr).all id)) H' := hQ i σ' H' hi' w'
  have e : ((List.range n).map tr).all id = (List.range n).all tr := by
    rw [List.all_map]
    rfl
  rw [e] at q
  exact q
theorem pe_anyG (hr : Room (k + 1) X.A) (hgl : Gl X "any") (hm : X.mg "any" = none) (TB : GxR.TabB X.base X.mg c P) (hcode : X.env.code = .ref c) (S : GSc X.env scope) (CP : Caps X scope N caps) (hi : PI X target iter wi)
    (hg : ∀ s4 H4 code fp it, PG (gX X target elt iter scope gpos N s4 H4 code fp it) target g) (he : ∀ s4 H4 code fp it, PE (gX X target elt iter scope gpos N s4 H4 code fp it) elt te)
    (hs : ∀ v, genFold iter X.env v = pure v := by intro _; rfl)
    (hst : starEach [.GeneratorExp elt [⟨target, iter, [], 0⟩] scope gpos] X.env = (false, eval (.GeneratorExp elt [⟨target, iter, [], 0⟩] scope gpos) X.env) :: starEach [] X.env := by rfl) :
    PE X (.Call (.Name "any" p) [.GeneratorExp elt [⟨target, iter, [], 0⟩] scope gpos] [] pos) (tAnyG P caps wi g te) := by
  refine ⟨fun pins s σ H Q I h => wpAny_Call_Name_kw (ld_blt I hgl hm PyProof.Rows.boot_any (PyProof.Rows.callWith_builtin1 ?_ hst (by rfl)))⟩
  rw [hst]
  show wpAny _ _ (spliced ((false, eval (.GeneratorExp elt [⟨target, iter, [], 0⟩] scope gpos) X.env) :: backTo pos (starEach [] X.env))) _ _ s
  refine Calls.spliced_cons (gen_made hr TB hcode S CP hi hs hg he I h fun J H2 ⟨hP, spec⟩ => ⟨hP, fun H3 tb => ?_⟩)
  obtain ⟨n, W, tr, w0, step, stop, hQ⟩ := spec H3 tb
  refine ⟨n, W, fun i v => v = .bl (tr i), w0, step, stop, fun a s5 ⟨Y, pl, fp, tn, gz, e1, e2, back, isg, run⟩ => ?_⟩
  refine Calls.spliced_nil ?_
  refine call_function_tree PySem.F.kind_any PySem.F.plain_any PySem.F.entry_any (PySem.F.args_any1 _) ?_
  unfold Builtin.«any»
  refine wpAny_bind (m := oneArg "any" _) (wpAny_pure ?_)
  refine wpAny_bind (wpAny_pyIter_gen (isg 0 s5 run.at_) (wpAny_pure ⟨plainId_quiet PySem.F.plain_any_loop _, ?_⟩))
  rw [← e1, ← e2]
  refine any_loop hr.hd (by have := hr.dp; show X.A.depth < _; omega) isg tr (fun i x _ hx => hx) (fun i σ' H' s' hi' I' w' => ?_) n 0 s5 (Nat.sub_zero n) (Nat.zero_le n) (fun i hi' => absurd hi' (Nat.not_lt_zero i)) run
  refine ⟨.bl ((List.range n).any tr), H', back σ' H' s' I', rfl, ?_⟩
  have q : Q (.bl (((List.range n).map tr).any id)) H' := hQ i σ' H' hi' w'
  have e : ((List.range n).map tr).any id = (List.range n).any tr := by
    rw [List.any_map]
    rfl
  rw [e] at q
  exact q
end
end GX

set_option Elab.async false
set_option linter.all false
set_option maxRecDepth 100000
set_option maxHeartbeats 4000000
/-! data of puzzles on the heap: tuples of ints, rows, rules, puzzles; what keeps them; list comprehensions by walks -/
namespace GX
open PySem PySem.Spec PyProof.Rows L2
/-- all tuples stay -/
def Kt (H H' : Hp) : Prop := ∀ b xs, H b = some (.tup xs) → H' b = some (.tup xs)
/-- all but tables of codes stays -/
def Kb (H H' : Hp) : Prop := (∀ b o, (∀ ps, o ≠ .tbl ps) → H b = some o → H' b = some o) ∧ ∀ P, GxR.TabG H P → GxR.TabG H' P
theorem Kt.refl (H : Hp) : Kt H H := fun _ _ e => e
theorem Kt.trans {A B C : Hp} (h : Kt A B) (g : Kt B C) : Kt A C := fun b xs e => g b xs (h b xs e)
theorem kt_same {H H' : Hp} (h : Same H H') : Kt H H' := fun b xs e => h b _ e
theorem kt_kb {H H' : Hp} (h : Kb H H') : Kt H H' := fun b xs e => h.1 b _ (fun ps z => by cases z) e
theorem kb_same {H H' : Hp} (h : Same H H') : Kb H H' := ⟨fun b o _ e => h b o e, fun P ⟨ps, e, t⟩ => ⟨ps, h _ _ e, t⟩⟩
theorem Kb.refl (H : Hp) : Kb H H := ⟨fun _ _ _ e => e, fun _ e => e⟩
theorem Kb.trans {A B C : Hp} (h : Kb A B) (g : Kb B C) : Kb A C := ⟨fun b o n e => g.1 b o n (h.1 b o n e), fun P e => g.2 P (h.2 P e)⟩
theorem kb_tab {P : Addr} {H H' : Hp} (hT : GxR.TabG H P) (h : GxR.Tabbed P H H') : Kb H H' := by
  obtain ⟨ps, e, t⟩ := hT
  refine ⟨fun b o n eb => ?_, fun R hR => ?_⟩
  · by_cases z : b = P
    · subst z
      rw [e] at eb
      cases eb
      exact absurd rfl (n ps)
    · rw [h.2 b z]
      exact eb
  · by_cases z : R = P
    · subst z
      exact h.1
    · obtain ⟨qs, e2, t2⟩ := hR
      exact ⟨qs, by rw [h.2 R z]; exact e2, t2⟩
theorem same_new {H : Hp} {p : Addr} {o : HO} (h : H p = none) : Same H (upd H p o) := fun b o' e => by
  rw [upd_ne (fun z => by rw [z, h] at e; cases e)]
  exact e
theorem Same.tr {A B C : Hp} (h : Same A B) (g : Same B C) : Same A C := fun b o e => g b o (h b o e)
/-- a tuple of ints -/
def IH (H : Hp) (v : V) (ns : List Int) : Prop := ∃ a, v = .ref a ∧ H a = some (.tup (ns.map V.int))
/-- a tuple of such tuples -/
def RowsH (H : Hp) (v : V) (rows : List (List Int)) : Prop := ∃ a vs, v = .ref a ∧ H a = some (.tup vs) ∧ Paired (IH H) vs rows
/-- a tie as a row -/
def tie2 (p : Int × Int) : List Int := [p.1, p.2]
inductive Rul
  | table (cs : List Int) (rows : List (List Int))
  | unlike (cs : List Int)
  | sum (cs : List Int) (lo hi : Int)
  | count (cs vs : List Int) (lo hi : Int)
  | below (a b : Int)
  | runs (cs ls : List Int)
  | joined (cs : List Int) (ties : List (Int × Int)) (vs : List Int)
structure Puz where
  doms : List (List Int)
  rules : List Rul
/-- a rule -/
def RuH (H : Hp) (v : V) : Rul → Prop
  | .table cs rows => ∃ a x y, v = .ref a ∧ H a = some (.tup [.str "table", x, y]) ∧ IH H x cs ∧ RowsH H y rows
  | .unlike cs => ∃ a x, v = .ref a ∧ H a = some (.tup [.str "unlike", x]) ∧ IH H x cs
  | .sum cs lo hi => ∃ a x, v = .ref a ∧ H a = some (.tup [.str "sum", x, .int lo, .int hi]) ∧ IH H x cs
  | .count cs vs lo hi => ∃ a x y, v = .ref a ∧ H a = some (.tup [.str "count", x, y, .int lo, .int hi]) ∧ IH H x cs ∧ IH H y vs
  | .below i j => ∃ a, v = .ref a ∧ H a = some (.tup [.str "below", .int i, .int j])
  | .runs cs ls => ∃ a x y, v = .ref a ∧ H a = some (.tup [.str "runs", x, y]) ∧ IH H x cs ∧ IH H y ls
  | .joined cs ties vs => ∃ a x y z, v = .ref a ∧ H a = some (.tup [.str "joined", x, y, z]) ∧ IH H x cs ∧ RowsH H y (ties.map tie2) ∧ IH H z vs
def RusH (H : Hp) (v : V) (rs : List Rul) : Prop := ∃ a vs, v = .ref a ∧ H a = some (.tup vs) ∧ Paired (RuH H) vs rs
def PzH (H : Hp) (v : V) (p : Puz) : Prop := ∃ a x y, v = .ref a ∧ H a = some (.tup [x, y]) ∧ RowsH H x p.doms ∧ RusH H y p.rules
theorem IH.kt {H H' : Hp} (k : Kt H H') {v : V} {ns : List Int} (h : IH H v ns) : IH H' v ns := let ⟨a, e, q⟩ := h; ⟨a, e, k _ _ q⟩
theorem paired_mono {α β : Type} {R S : α → β → Prop} (h : ∀ a b, R a b → S a b) : ∀ {xs : List α} {ys : List β}, Paired R xs ys → Paired S xs ys
  | _, _, .nil => .nil
  | _, _, .cons a r => .cons (h _ _ a) (paired_mono h r)
theorem RowsH.kt {H H' : Hp} (k : Kt H H') {v : V} {rows : List (List Int)} (h : RowsH H v rows) : RowsH H' v rows := let ⟨a, vs, e, q, p⟩ := h; ⟨a, vs, e, k _ _ q, paired_mono (fun _ _ => IH.kt k) p⟩
theorem RuH.kt {H H' : Hp} (k : Kt H H') {v : V} : ∀ {r : Rul}, RuH H v r → RuH H' v r
  | .table _ _, ⟨a, x, y, e, q, i, j⟩ => ⟨a, x, y, e, k _ _ q, i.kt k, j.kt k⟩
  | .unlike _, ⟨a, x, e, q, i⟩ => ⟨a, x, e, k _ _ q, i.kt k⟩
  | .sum _ _ _, ⟨a, x, e, q, i⟩ => ⟨a, x, e, k _ _ q, i.kt k⟩
  | .count _ _ _ _, ⟨a, x, y, e, q, i, j⟩ => ⟨a, x, y, e, k _ _ q, i.kt k, j.kt k⟩
  | .below _ _, ⟨a, e, q⟩ => ⟨a, e, k _ _ q⟩
  | .runs _ _, ⟨a, x, y, e, q, i, j⟩ => ⟨a, x, y, e, k _ _ q, i.kt k, j.kt k⟩
  | .joined _ _ _, ⟨a, x, y, z, e, q, i, j, l⟩ => ⟨a, x, y, z, e, k _ _ q, i.kt k, j.kt k, l.kt k⟩
theorem RusH.kt {H H' : Hp} (k : Kt H H') {v : V} {rs : List Rul} (h : RusH H v rs) : RusH H' v rs := let ⟨a, vs, e, q, p⟩ := h; ⟨a, vs, e, k _ _ q, paired_mono (fun _ _ => RuH.kt k) p⟩
theorem PzH.kt {H H' : Hp} (k : Kt H H') {v : V} {p : Puz} (h : PzH H v p) : PzH H' v p := let ⟨a, x, y, e, q, i, j⟩ := h; ⟨a, x, y, e, k _ _ q, i.kt k, j.kt k⟩
theorem sqt {K : PySem.W.Frag} {H : Hp} {a : Addr} {xs : List V} (h : H a = some (.tup xs)) : SqT K H a xs := .inl (.inl h)
theorem sql {K : PySem.W.Frag} {H : Hp} {a : Addr} {xs : List V} (h : H a = some (.lst xs)) : SqL K H a xs := .inl (.inl h)
/-! as data -/
def dI (ns : List Int) : PyData := .tuple (ns.map .int)
theorem dpAll_ints {K : PySem.W.Frag} {H : Hp} : ∀ ns : List Int, DpAll K H (ns.map V.int) (ns.map PyData.int)
  | [] => .nil
  | n :: ns => .cons (.int n) (dpAll_ints ns)
theorem IH.dp {K : PySem.W.Frag} {H : Hp} {v : V} {ns : List Int} (h : IH H v ns) : Dp K H v (dI ns) := by
  obtain ⟨a, rfl, q⟩ := h
  exact .tup (sqt q) (dpAll_ints ns)
theorem dpAll_rows {K : PySem.W.Frag} {H : Hp} : ∀ {vs : List V} {rows : List (List Int)}, Paired (IH H) vs rows → DpAll K H vs (rows.map dI)
  | _, _, .nil => .nil
  | _, _, .cons a r => .cons a.dp (dpAll_rows r)
def dRows (rows : List (List Int)) : PyData := .tuple (rows.map dI)
theorem RowsH.dp {K : PySem.W.Frag} {H : Hp} {v : V} {rows : List (List Int)} (h : RowsH H v rows) : Dp K H v (dRows rows) := by
  obtain ⟨a, vs, rfl, q, p⟩ := h
  exact .tup (sqt q) (dpAll_rows p)
theorem cmp_int (i : Int) : Cmp (.int i) := ⟨rfl, by show PyData.depth (.int i) ≤ 40; unfold PyData.depth; omega⟩
theorem canAll_ints : ∀ ns : List Int, PyData.canLayAll0 (ns.map PyData.int) = true
  | [] => by simp [PyData.canLayAll0]
  | n :: ns => by
    simp only [List.map_cons, PyData.canLayAll0, PyData.canLay0, canAll_ints ns, Bool.and_true, Bool.true_and]
theorem can_dI (ns : List Int) : (dI ns).canLay0 = true := by
  unfold dI PyData.canLay0
  exact canAll_ints ns
theorem canAll_rows : ∀ rows : List (List Int), PyData.canLayAll0 (rows.map dI) = true
  | [] => by simp [PyData.canLayAll0]
  | r :: rows => by
    simp only [List.map_cons, PyData.canLayAll0, can_dI, canAll_rows rows, Bool.and_true]
theorem depth_ints : ∀ ns : List Int, PyData.depthAll (ns.map PyData.int) = 0
  | [] => by simp [PyData.depthAll]
  | n :: ns => by simp only [List.map_cons, PyData.depthAll, PyData.depth, depth_ints ns, Nat.max_self]
theorem depth_dI (ns : List Int) : (dI ns).depth = 1 := by
  unfold dI PyData.depth
  rw [depth_ints]
theorem depth_rows : ∀ rows : List (List Int), PyData.depthAll (rows.map dI) ≤ 1
  | [] => by simp [PyData.depthAll]
  | r :: rows => by
    simp only [List.map_cons, PyData.depthAll, depth_dI]
    exact Nat.max_le.mpr ⟨Nat.le_refl _, depth_rows rows⟩
theorem cmp_dI (ns : List Int) : Cmp (dI ns) := ⟨can_dI ns, by rw [depth_dI]; decide⟩
theorem cmp_rows (rows : List (List Int)) : Cmp (dRows rows) := by
  refine ⟨by unfold dRows PyData.canLay0; exact canAll_rows rows, ?_⟩
  have := depth_rows rows
  unfold dRows PyData.depth
  omega
theorem cmp_lrows (rows : List (List Int)) : Cmp (.list (rows.map dI)) := by
  refine ⟨by unfold PyData.canLay0; exact canAll_rows rows, ?_⟩
  have := depth_rows rows
  unfold PyData.depth
  omega
theorem cmp_lints (ns : List Int) : Cmp (.list (ns.map .int)) := by
  refine ⟨by unfold PyData.canLay0; exact canAll_ints ns, ?_⟩
  unfold PyData.depth
  rw [depth_ints]
  decide
theorem eqvAll_ints : ∀ a b : List Int, PyData.eqvAll (a.map .int) (b.map .int) = decide (a = b)
  | [], [] => by simp [PyData.eqvAll]
  | [], _ :: _ => by simp [PyData.eqvAll]
  | _ :: _, [] => by simp [PyData.eqvAll]
  | x :: a, y :: b => by
    simp only [List.map_cons, PyData.eqvAll, PyData.eqv, eqvAll_ints a b, List.cons.injEq, Bool.decide_and]
    by_cases e : x = y <;> simp [e]
theorem eqv_dI (a b : List Int) : PyData.eqv (dI a) (dI b) = decide (a = b) := by
  unfold dI PyData.eqv
  exact eqvAll_ints a b
theorem eqvAll_rows : ∀ a b : List (List Int), PyData.eqvAll (a.map dI) (b.map dI) = decide (a = b)
  | [], [] => by simp [PyData.eqvAll]
  | [], _ :: _ => by simp [PyData.eqvAll]
  | _ :: _, [] => by simp [PyData.eqvAll]
  | x :: a, y :: b => by
    simp only [List.map_cons, PyData.eqvAll, eqv_dI, eqvAll_rows a b, List.cons.injEq, Bool.decide_and]
theorem eqv_rows (a b : List (List Int)) : PyData.eqv (dRows a) (dRows b) = decide (a = b) := by
  unfold dRows PyData.eqv
  exact eqvAll_rows a b
theorem eqv_lrows (a b : List (List Int)) : PyData.eqv (.list (a.map dI)) (.list (b.map dI)) = decide (a = b) := by
  unfold PyData.eqv
  exact eqvAll_rows a b
theorem eqv_lints (a b : List Int) : PyData.eqv (.list (a.map .int)) (.list (b.map .int)) = decide (a = b) := by
  unfold PyData.eqv
  exact eqvAll_ints a b
theorem any_rows (rows : List (List Int)) (r : List Int) : (rows.map dI).any (fun z => PyData.eqv z (dI r)) = decide (r ∈ rows) := by
  rw [List.any_map]
  by_cases h : r ∈ rows
  · rw [decide_eq_true h, List.any_eq_true]
    exact ⟨r, h, by show PyData.eqv (dI r) (dI r) = true; rw [eqv_dI]; exact decide_eq_true rfl⟩
  · rw [decide_eq_false h, List.any_eq_false]
    intro x hx
    show ¬ PyData.eqv (dI x) (dI r) = true
    rw [eqv_dI]
    simp only [decide_eq_true_eq]
    exact fun z => h (z ▸ hx)
theorem any_ints (ns : List Int) (n : Int) : (ns.map PyData.int).any (fun z => PyData.eqv z (.int n)) = decide (n ∈ ns) := by
  rw [List.any_map]
  by_cases h : n ∈ ns
  · rw [decide_eq_true h, List.any_eq_true]
    exact ⟨n, h, by show PyData.eqv (.int n) (.int n) = true; unfold PyData.eqv; simp⟩
  · rw [decide_eq_false h, List.any_eq_false]
    intro x hx
    show ¬ PyData.eqv (.int x) (.int n) = true
    unfold PyData.eqv
    simp only [beq_iff_eq]
    exact fun z => h (z ▸ hx)
theorem cmp_str (x : Str) (h : (PyData.str x).canLay0 = true) : Cmp (.str x) := ⟨h, by unfold PyData.depth; omega⟩
theorem cmp_nil : Cmp (dI []) := cmp_dI []
/-! comprehensions by walks -/
section
variable {J J1 : It} {n : Nat} {G : Hp → Prop} {Y : Nat → Hp → V → Hp → Prop} {g g1 : TG} {tt tt1 : TT} {te tk tv : TE} {wi1 : TI} {vs vs1 : List Nat} {σ : L2.St} {H1 : Hp} {D : Addr} {Qd : Hp → Prop}
theorem dcTW (w : Walk J n G Y) (Pv : Nat → Hp → Prop) (h0 : Pv 0 (upd H1 D (.dT []))) (hG : ∀ i H, i ≤ n → Pv i H → G H)
    (hs : ∀ i x H H', i < n → Pv i H → Y i H x H' → g x (wipe σ vs) H' fun σ2 H2 => wipe σ2 vs = wipe σ vs ∧ tt σ2 H2 fun b H3 =>
      if b = true then tk σ2 H3 fun y H4 => tv σ2 H4 fun z H5 => ∃ es ky kb, y = .ref kb ∧ H5 kb = some (.tup (ky.map kV)) ∧ H5 D = some (.dT es) ∧ es.length < sizeLine ∧ Pv (i + 1) (upd H5 D (.dT (putK es ky z))) else Pv (i + 1) H3) (hd : ∀ H, Pv n H → Qd H) :
    ∃ W : Nat → Nat → Hp → Prop, (∃ m, W 0 m (upd H1 D (.dT []))) ∧ ∀ i m H, W i m H →
      (J.stop i H ∧ Qd H) ∨ (J.go i H ∧ ∃ Nx : Hp → Prop, (∀ H', Nx H' → ∃ m', m' < m ∧ W (i + 1) m' H') ∧ ∀ x H', J.yld i H x H' → g x (wipe σ vs) H' fun σ2 H2 => wipe σ2 vs = wipe σ vs ∧ tt σ2 H2 fun b H3 =>
        if b = true then tk σ2 H3 fun y H4 => tv σ2 H4 fun z H5 => ∃ es ky kb, y = .ref kb ∧ H5 kb = some (.tup (ky.map kV)) ∧ H5 D = some (.dT es) ∧ es.length < sizeLine ∧ Nx (upd H5 D (.dT (putK es ky z))) else Nx H3) := by
  refine ⟨fun i m H => m = n - i ∧ i ≤ n ∧ Pv i H, ⟨n, rfl, Nat.zero_le _, h0⟩, fun i m H ⟨em, hi, p⟩ => ?_⟩
  subst em
  by_cases hlt : i < n
  · exact .inr ⟨w.goes i H hlt (hG i H hi p), Pv (i + 1), fun H' p' => ⟨n - (i + 1), by omega, rfl, hlt, p'⟩, fun x H' y => hs i x H H' hlt p (w.yields i H x H' hlt (hG i H hi p) y)⟩
  · have e : i = n := by omega
    subst e
    exact .inl ⟨w.stops H (hG i H hi p), hd H p⟩
end
theorem walk_zipT {K : PySem.W.Frag} {a b : Addr} {xs ys : List V} {n : Nat} (hn : n = min xs.length ys.length) : Walk (RZ.ItzT K a b) n (fun H => SqT K H a xs ∧ SqT K H b ys) (YPair (fun i => xs[i]?) (fun i => ys[i]?)) where
  goes := fun i H hi hq => ⟨xs, ys, xs[i]'(by omega), ys[i]'(by omega), hq.1, hq.2, List.getElem?_eq_getElem _, List.getElem?_eq_getElem _⟩
  stops := fun H hq => ⟨xs, ys, hq.1, hq.2, by omega⟩
  yields := fun i H x H' hi hq ⟨T, u, v, e, nn, w, z1, z2⟩ => ⟨T, u, v, e, nn, w, z1 xs hq.1, z2 ys hq.2⟩
/-! heap steps -/
theorem upd_at {H : Hp} {p b : Addr} {o o' : HO} (hp : H p = none) (e : H b = some o') : upd H p o b = some o' := by
  rw [upd_ne (fun z => by rw [z, hp] at e; cases e)]
  exact e
theorem paired_at {α β : Type} {R : α → β → Prop} : ∀ {xs : List α} {ys : List β} {i : Nat} {x : α}, Paired R xs ys → xs[i]? = some x → ∃ y, ys[i]? = some y ∧ R x y
  | _, _, i, x, .nil, h => by simp at h
  | _, _, 0, x, .cons a r, h => by
    simp only [List.getElem?_cons_zero, Option.some.injEq] at h
    subst h
    exact ⟨_, rfl, a⟩
  | _, _, i + 1, x, .cons a r, h => by
    simp only [List.getElem?_cons_succ] at h
    obtain ⟨y, e, q⟩ := paired_at r h
    exact ⟨y, by simpa using e, q⟩
theorem paired_at' {α β : Type} {R : α → β → Prop} : ∀ {xs : List α} {ys : List β} {i : Nat} {y : β}, Paired R xs ys → ys[i]? = some y → ∃ x, xs[i]? = some x ∧ R x y
  | _, _, i, y, .nil, h => by simp at h
  | _, _, 0, y, .cons a r, h => by
    simp only [List.getElem?_cons_zero, Option.some.injEq] at h
    subst h
    exact ⟨_, rfl, a⟩
  | _, _, i + 1, y, .cons a r, h => by
    simp only [List.getElem?_cons_succ] at h
    obtain ⟨x, e, q⟩ := paired_at' r h
    exact ⟨x, by simpa using e, q⟩
theorem paired_app {α β : Type} {R : α → β → Prop} : ∀ {xs us : List α} {ys ws : List β}, Paired R xs ys → Paired R us ws → Paired R (xs ++ us) (ys ++ ws)
  | _, _, _, _, .nil, h => h
  | _, _, _, _, .cons a r, h => .cons a (paired_app r h)
theorem paired_one {α β : Type} {R : α → β → Prop} {x : α} {y : β} (h : R x y) : Paired R [x] [y] := .cons h .nil
theorem at_ints {ns : List Int} {i : Nat} {x : V} (h : (ns.map V.int)[i]? = some x) : ∃ z, ns[i]? = some z ∧ x = V.int z := by
  rw [List.getElem?_map] at h
  cases e : ns[i]? with
  | none =>
    rw [e] at h
    cases h
  | some z =>
    rw [e] at h
    exact ⟨z, rfl, (Option.some.inj h).symm⟩
/-! rules with the known frame told apart from the context (for comprehensions) -/
section
variable {X : Cx}
theorem ixT (K : PySem.W.Frag) (h : X.K = K := by rfl) : IxR X (rIxT K) := h ▸ ix_tup
theorem ixL (K : PySem.W.Frag) (h : X.K = K := by rfl) : IxR X (rIxL K) := h ▸ ix_list
theorem catA (K : PySem.W.Frag) (h : X.K = K := by rfl) : OpR X (binaryOp .Add) (rCatA K) := h ▸ op_catA
theorem tupleOf (K : PySem.W.Frag) (h : X.K = K := by rfl) : CallR X (.type "tuple") (fun xs H Q => ∃ p ys, xs = [.ref p] ∧ ((SqL K H p ys ∧ ∀ l, H l = none → Q (.ref l) (upd H l (.tup ys))) ∨ (SqT K H p ys ∧ Q (.ref p) H))) := h ▸ call_tuple_of
theorem eqDD (K : PySem.W.Frag) (hu : X.A.units + 64 < cLine) (h : X.K = K := by rfl) : OpR X (compareOp .Eq) (fun x y H Q => ∃ d e, Dp K H x d ∧ Dp K H y e ∧ Cmp d ∧ Cmp e ∧ Q (.bl (PyData.eqv d e)) H) := h ▸ op_eqDD hu
theorem neDD (K : PySem.W.Frag) (hu : X.A.units + 64 < cLine) (h : X.K = K := by rfl) : OpR X (compareOp .NotEq) (fun x y H Q => ∃ d e, Dp K H x d ∧ Dp K H y e ∧ Cmp d ∧ Cmp e ∧ Q (.bl (!PyData.eqv d e)) H) := h ▸ op_neDD hu
theorem inDD (K : PySem.W.Frag) (hu : X.A.units + 64 < cLine) (h : X.K = K := by rfl) : OpR X (compareOp .In) (fun x y H Q => ∃ d ds, Dp K H x d ∧ (Dp K H y (.tuple ds) ∨ Dp K H y (.list ds)) ∧ Cmp d ∧ PyData.canLayAll0 ds = true ∧ Q (.bl (ds.any fun z => PyData.eqv z d)) H) := h ▸ op_inDD hu
theorem notInDD (K : PySem.W.Frag) (hu : X.A.units + 64 < cLine) (h : X.K = K := by rfl) : OpR X (compareOp .NotIn) (fun x y H Q => ∃ d ds, Dp K H x d ∧ (Dp K H y (.tuple ds) ∨ Dp K H y (.list ds)) ∧ Cmp d ∧ PyData.canLayAll0 ds = true ∧ Q (.bl (!ds.any fun z => PyData.eqv z d)) H) := h ▸ op_notInDD hu
theorem piT (K : PySem.W.Frag) {tg l : Expr} {tl : TE} (he : PE X l tl) (h : X.K = K := by rfl) : PI X tg l (iTup K tl) := h ▸ pi_tup he
theorem pg_tupK (K : PySem.W.Frag) {es : List Expr} {kk n : Nat} {t : TGs} {pos : Pos} (hc : X.calm = true) (h : PGs X es t) (hn : (assignEach es X.env).length = n := by rfl) (hst : (assignEach es X.env).findIdx? (·.1) = none := by rfl) (e : X.K = K := by rfl) : PG X (.Tuple es kk pos) (gTup K n t) := e ▸ pg_tup hc h hn hst
theorem piL (K : PySem.W.Frag) {tg l : Expr} {tl : TE} (he : PE X l tl) (h : X.K = K := by rfl) : PI X tg l (iList K tl) := h ▸ pi_list he
end
theorem IH.rd {K : PySem.W.Frag} {H : Hp} {v : V} {ns : List Int} (h : IH H v ns) : ∃ a, v = .ref a ∧ SqT K H a (ns.map V.int) := let ⟨a, e, q⟩ := h; ⟨a, e, sqt q⟩
end GX
namespace GX
open PySem PySem.Spec PyProof.Rows L2
/-- xs[-1] -/
theorem pget_last {X : Cx} : PGet X (fun o i H Q => ∃ p xs v, o = .ref p ∧ i = .int (-1) ∧ SqL X.K H p xs ∧ xs[xs.length - 1]? = some v ∧ Q v H) := by
  intro pins s σ H o i ov iv Q I ro ri h
  obtain ⟨p, xs, v, rfl, rfl, hq, hv, q⟩ := h
  cases ro
  obtain ⟨t, rfl⟩ := ri
  obtain ⟨its, r, pl, hz⟩ := I.list hq
  obtain ⟨w, ew, rw'⟩ := r.get hv
  have hl := r.length
  have hlt : xs.length - 1 < xs.length := (List.getElem?_eq_some_iff.mp hv).1
  have e : ((-1 : Int) + (its.toArray.size : Int)).toNat = xs.length - 1 := by
    rw [List.size_toArray, ← hl]
    omega
  have hs : its.toArray.size = xs.length := by rw [List.size_toArray, hl]
  have hn := line63
  exact wpAny_getItem_list_neg pl.isList (by omega) (by omega) (by omega) (by rw [e]; simpa using ew) ⟨v, H, I, rw', q⟩
end GX

set_option Elab.async false
set_option linter.all false
set_option maxRecDepth 100000
set_option maxHeartbeats 4000000
/-! y = {k: v for t in i}, y a local name -/
namespace GX
open PySem PySem.Spec PyProof.Rows L2
theorem swapD {kx vx : Expr} {gs : List Comprehension} {scope : Scope} {pos py : Pos} {y : Str} {l : Nat} {env : Env} (hk : env.scope.kind = .function) (hy : env.scope.names.lookup y = some .local) (hl : (py.line == pos.line) = true)
    (ha : (scope.names.any fun p => p.1 == y && (p.2 == .local || p.2 == .cell)) = false) : swapsWith (.DictComp kx vx gs scope pos) (some (.Name y py)) l env = pure true := by
  have kind : env.kindOf y = some .local := hy
  have block : env.blockKind = .function := by
    unfold Env.blockKind
    rw [hk]
    rfl
  have ha' : (scope.names.any fun (n, k) => n == y && (k == .local || k == .cell)) = false := ha
  unfold swapsWith
  simp only [block, kind, ha', Expr.pos, hl]
  rfl
theorem ps_setDc {X : Cx} {i : Nat} {y : Str} {py : Pos} {kx vx tg iter : Expr} {ifs : List Expr} {scope : Scope} {own : List (Str × Nat)} {pos spos : Pos} {wi : TI} {g : TG} {tt : TT} {tk tv : TE} (hc : X.calm = true) (hN : X.N.Nodup) (hy : X.N[i]? = some y) (loc : X.env.scope.names.lookup y = some .local)
    (sw : swapsWith (.DictComp kx vx [⟨tg, iter, ifs, 0⟩] scope pos) (some (.Name y py)) spos.line X.env = pure true) (hi : PI X tg iter wi) (ok : BlkOk X.N X.env.scope scope own)
    (hg : ∀ s H C cl fp, PG (X.blk s H scope (compEnvC scope cl C X.env) fp) tg g) (ht : ∀ s H C cl fp, PTs (X.blk s H scope (compEnvC scope cl C X.env) fp) ifs tt)
    (hk : ∀ s H C cl fp, PE (X.blk s H scope (compEnvC scope cl C X.env) fp) kx tk) (hv : ∀ s H C cl fp, PE (X.blk s H scope (compEnvC scope cl C X.env) fp) vx tv) (hs : ∀ x, foldedSetIterable iter X.env x = pure x := by intro _; rfl) :
    PS X (.Assign [.Name y py] (.DictComp kx vx [⟨tg, iter, ifs, 0⟩] scope pos) spos) (tAsg (tDc wi g tt tk tv (own.map (·.2))) (gName i)) := by
  refine ⟨fun pins s σ H D I h => ?_⟩
  rw [exec_Assign_Name_used _ _ _ _ sw]
  have reading : tDc wi g tt tk tv (own.map (·.2)) σ H (fun x H1 => gName i x σ H1 D.nx) := h
  refine wpAny_bind (wpAny_standAt (wpAny_bind ?_))
  show wpAny _ X.A (comprehension (.DictComp kx vx [⟨tg, iter, ifs, 0⟩] scope pos) scope X.env (firstIterPos [⟨tg, iter, ifs, 0⟩] pos) newDict false (eval iter X.env) (some (assign (.Name y py) X.env)) >>= _) _ _ s
  refine wpAny_bind (thn (dc_core (Qf := fun _ s' => SP X pins D .next s') hc hN I hi ok hg ht hk hv hs reading fun L C s' m H' I' q hn f => ?_) fun _ s' hq => wpAny_pure (wpAny_pure hq))
  show wpAny _ _ (assign (.Name y py) X.env (.ref L)) _ _ _
  obtain ⟨f0, f1, f2, f3, f4, f5⟩ := f
  refine wpAny_assign_Name (store_ok2 (v := V.ref L) I' hN hy (.inl loc) rfl (fun s2 I2 ⟨a, sb, ha⟩ => ?_) (.inr loc))
  have apart : C ≠ a := ha.elim (fun z => z ▸ f1) fun z e => f4 y a z e.symm
  exact ⟨m, hn.sameBut sb apart, fun h3 sb3 => ⟨_, H', I2.turned (t' := s2.toks) (fun b o hb e => (sb3.2 b hb).trans e) f0 f1 f3 f4 f5, q⟩⟩
theorem dcW {J : It} {n : Nat} {G : Hp → Prop} {Y : Nat → Hp → V → Hp → Prop} {g : TG} {tt : TT} {tk tv : TE} {vs : List Nat} {σ : L2.St} {H1 : Hp} {D : Addr} {Qd : Hp → Prop} (w : Walk J n G Y) (Pv : Nat → Hp → Prop) (begin0 : Pv 0 (upd H1 D (.dK []))) (hG : ∀ i H, i ≤ n → Pv i H → G H)
    (turn : ∀ i x H H', i < n → Pv i H → Y i H x H' → g x (wipe σ vs) H' fun σ2 H2 => wipe σ2 vs = wipe σ vs ∧ tt σ2 H2 fun b H3 =>
      if b = true then tk σ2 H3 fun y H4 => tv σ2 H4 fun z H5 => ∃ es ky, y = kV ky ∧ H5 D = some (.dK es) ∧ es.length < sizeLine ∧ Pv (i + 1) (upd H5 D (.dK (putK es ky z))) else Pv (i + 1) H3) (fin : ∀ H, Pv n H → Qd H) :
    ∃ W : Nat → Nat → Hp → Prop, (∃ m, W 0 m (upd H1 D (.dK []))) ∧ ∀ i m H, W i m H →
      (J.stop i H ∧ Qd H) ∨ (J.go i H ∧ ∃ Nx : Hp → Prop, (∀ H', Nx H' → ∃ m', m' < m ∧ W (i + 1) m' H') ∧ ∀ x H', J.yld i H x H' → g x (wipe σ vs) H' fun σ2 H2 => wipe σ2 vs = wipe σ vs ∧ tt σ2 H2 fun b H3 =>
        if b = true then tk σ2 H3 fun y H4 => tv σ2 H4 fun z H5 => ∃ es ky, y = kV ky ∧ H5 D = some (.dK es) ∧ es.length < sizeLine ∧ Nx (upd H5 D (.dK (putK es ky z))) else Nx H3) := by
  refine ⟨fun i m H => m = n - i ∧ i ≤ n ∧ Pv i H, ⟨n, rfl, Nat.zero_le _, begin0⟩, fun i m H ⟨em, hi, p⟩ => ?_⟩
  subst em
  by_cases hlt : i < n
  · exact .inr ⟨w.goes i H hlt (hG i H hi p), Pv (i + 1), fun H' p' => ⟨n - (i + 1), by omega, rfl, hlt, p'⟩, fun x H' y => turn i x H H' hlt p (w.yields i H x H' hlt (hG i H hi p) y)⟩
  · have e : i = n := by omega
    subst e
    exact .inl ⟨w.stops H (hG i H hi p), fin H p⟩
end GX

set_option Elab.async false
set_option linter.all false
set_option maxRecDepth 100000
set_option maxHeartbeats 4000000
/-! zip of a tuple and a list -/
namespace GX
open PySem PySem.Spec PyProof.Rows L2
def ItzM (K : PySem.W.Frag) (a b : Addr) : It where
  go i H := ∃ xs ys x y, SqT K H a xs ∧ SqL K H b ys ∧ xs[i]? = some x ∧ ys[i]? = some y
  yld i H v H' := ∃ T x y, v = .ref T ∧ H T = none ∧ H' = upd H T (.tup [x, y]) ∧ (∀ xs, SqT K H a xs → xs[i]? = some x) ∧ ∀ ys, SqL K H b ys → ys[i]? = some y
  stop i H := ∃ xs ys, SqT K H a xs ∧ SqL K H b ys ∧ min xs.length ys.length = i
theorem walk_zipM {K : PySem.W.Frag} {a b : Addr} {xs ys : List V} {n : Nat} (hn : n = min xs.length ys.length) : Walk (ItzM K a b) n (fun H => SqT K H a xs ∧ SqL K H b ys) (YPair (fun i => xs[i]?) (fun i => ys[i]?)) where
  goes := fun i H hi hq => ⟨xs, ys, xs[i]'(by omega), ys[i]'(by omega), hq.1, hq.2, List.getElem?_eq_getElem _, List.getElem?_eq_getElem _⟩
  stops := fun H hq => ⟨xs, ys, hq.1, hq.2, hn.symm⟩
  yields := fun i H x H' hi hq ⟨T, u, v, e, nn, w, z1, z2⟩ => ⟨T, u, v, e, nn, w, z1 xs hq.1, z2 ys hq.2⟩
theorem turn_zipM {P : Program} {w : World} {K : PySem.W.Frag} {elts : List Expr} {kk : Nat} {tpos : Pos} {a b z TI TO i1 i2 : Addr} (S : ZipSep2 z TI TO i1 i2 [i1, a] [i2, b]) (na : a ≠ i1) (nb : b ≠ i2) :
    Turn P w K (.Tuple elts kk tpos) (ItzM K a b) [z, TI, TO, i1, i2] z (fun i h => IsZip h z TI TO .none ∧ IsTupOf2 h TI (.ref i1) (.ref i2) ∧ (∃ u v, IsTupOf2 h TO u v) ∧ h.IsTupleIter i1 a i ∧ h.IsListIter i2 b i) where
  mem := List.mem_cons_self ..
  obj := fun i h st c hc => by
    obtain ⟨hz, hTI, ⟨x, y, hTO⟩, ⟨o1, e1, _, d1⟩, ⟨o2, e2, _, d2⟩⟩ := st
    simp only [List.mem_cons, List.not_mem_nil, or_false] at hc
    rcases hc with rfl | rfl | rfl | rfl | rfl
    · exact ⟨_, hz, fun v q => nomatch q⟩
    · exact ⟨_, hTI, fun v q => nomatch q⟩
    · exact ⟨_, hTO, fun v q => nomatch q⟩
    · exact ⟨o1, e1, fun v q => by rw [d1] at q; cases q⟩
    · exact ⟨o2, e2, fun v q => by rw [d2] at q; cases q⟩
  keep := fun i h h' st k => by
    obtain ⟨hz, hTI, ⟨x, y, hTO⟩, h1, h2⟩ := st
    exact ⟨k z (by simp) _ hz, k TI (by simp) _ hTI, ⟨x, y, k TO (by simp) _ hTO⟩, h1.at fun o q => k i1 (by simp) o q, h2.at fun o q => k i2 (by simp) o q⟩
  item := by
    intro X hP hw hK hc i pins s σ H E I hf st hg
    subst hP hw hK
    obtain ⟨hz, hTI, hTO, h1, h2⟩ := st
    obtain ⟨xs, ys, x, y, hqx, hqy, hx, hy⟩ := hg
    obtain ⟨its, rv, p, _⟩ := I.tuple hqx
    obtain ⟨its2, rv2, p2, _⟩ := I.list hqy
    have t1 : s.heap.IsTuple a its.toArray := p
    obtain ⟨u, hu, ru⟩ := rv.get hx
    obtain ⟨u2, hu2, ru2⟩ := rv2.get hy
    have hd := I.ok.hd hc
    have W := WalksT.zipD2 (A := X.A) (prog := X.prog) (w := X.w) S (Draws.tuple (A := X.A.in1) hd i1 a na its.toArray) (Draws.list (A := X.A.in1) hd i2 b nb its2.toArray)
    have lt1 : i < its.length := by
      rcases Nat.lt_or_ge i its.length with q | q
      · exact q
      · rw [List.getElem?_eq_none q] at hu
        cases hu
    have lt2 : i < its2.length := by
      rcases Nat.lt_or_ge i its2.length with q | q
      · exact q
      · rw [List.getElem?_eq_none q] at hu2
        cases hu2
    refine W.item i s _ E (by simp; omega) ⟨hz, hTI, hTO, ⟨h1, t1⟩, h2, p2.isList⟩ fun T vals h' tk hv hle hT mid hk => ⟨.ref T, rfl, ?_⟩
    refine W.go elts kk tpos i T { s with heap := h', toks := tk } _ E mid fun h'' st'' hk2 => ?_
    obtain ⟨v1, v2, e1, e2, rfl⟩ := hv
    have q1 : v1 = u := by
      have q : its[i]? = some v1 := by simpa using e1
      rw [hu] at q
      exact (Option.some.inj q).symm
    have q2 : v2 = u2 := by
      have q : its2[i]? = some v2 := by simpa using e2
      rw [hu2] at q
      exact (Option.some.inj q).symm
    subst q1 q2
    obtain ⟨oT, eT, cT, nT, dT⟩ := hT
    have TnW := W.apart i T h' mid
    have eT2 : h''.get? T = some oT := hk2 T oT TnW eT
    have new : ObjOk X.prog X.w (upd H T (.tup [x, y])) h'' T (.tup [x, y]) := ⟨by show 2 ≤ sizeLine; decide, [v1, v2], .cons ru (.cons ru2 .nil), ⟨oT, eT2, cT, nT, dT⟩⟩
    have sub : ∀ c, c ∉ [z, TI, TO, i1, i2] → c ∉ [z, TO, i1, i2] := fun c hn q => hn (by simp at q ⊢; rcases q with q | q | q | q <;> simp [q])
    have I1 : Inv X pins σ (upd H T (.tup [x, y])) { s with heap := h'', toks := tk } :=
      I.turnedNew (t' := tk) (ch := [z, TI, TO, i1, i2]) (fun c o hb q => hk2 c o (sub c hb) (hk c o (sub c hb) q)) hf hle new
    have hTn : H T = none := I.hok.fresh hle
    obtain ⟨z'', TI'', TO'', ⟨i1'', _⟩, i2'', _⟩ := st''
    refine ⟨.ref T, _, I1, rfl, ⟨T, x, y, rfl, hTn, rfl, fun l hl => by rw [I.tuple_inj hl hqx]; exact hx, fun l hl => by rw [I.list_inj hl hqy]; exact hy⟩, ⟨z'', TI'', TO'', i1'', i2''⟩, fun c hcm => ?_⟩
    have hlt : c < s.heap.objs.size := by
      obtain ⟨u0, v0, hTO⟩ := hTO
      simp only [List.mem_cons, List.not_mem_nil, or_false] at hcm
      rcases hcm with rfl | rfl | rfl | rfl | rfl
      · exact Heap.lt_size hz
      · exact Heap.lt_size hTI
      · exact Heap.lt_size hTO
      · obtain ⟨_, e1, _⟩ := h1; exact Heap.lt_size e1
      · obtain ⟨_, e2, _⟩ := h2; exact Heap.lt_size e2
    rw [upd_ne (Nat.ne_of_lt (Nat.lt_of_lt_of_le hlt hle))]
    exact (hf c hcm).1
  done := by
    intro X hP hw hK hc i pins s σ H E I hf st hg
    subst hP hw hK
    obtain ⟨hz, hTI, hTO, h1, h2⟩ := st
    obtain ⟨xs, ys, hqx, hqy, hend⟩ := hg
    obtain ⟨its, rv, p, _⟩ := I.tuple hqx
    obtain ⟨its2, rv2, p2, _⟩ := I.list hqy
    have t1 : s.heap.IsTuple a its.toArray := p
    have hd := I.ok.hd hc
    have l1 := rv.length
    have l2 := rv2.length
    have W := WalksT.zipD2 (A := X.A) (prog := X.prog) (w := X.w) S (Draws.tuple (A := X.A.in1) hd i1 a na its.toArray) (Draws.list (A := X.A.in1) hd i2 b nb its2.toArray)
    have en : min its.toArray.size its2.toArray.size = i := by
      rw [List.size_toArray, List.size_toArray]
      omega
    rw [en] at W
    have sub : ∀ c, c ∉ [z, TI, TO, i1, i2] → c ∉ [z, TO, i1, i2] := fun c hn q => hn (by simp at q ⊢; rcases q with q | q | q | q <;> simp [q])
    exact W.done s _ E ⟨hz, hTI, hTO, ⟨h1, t1⟩, h2, p2.isList⟩ fun h' tk hk => ⟨rfl, I.turnedL (t' := tk) (ch := [z, TI, TO, i1, i2]) (fun c o hb q => hk c o (sub c hb) q) hf⟩
  self := fun A i s Q E st h => wpAny_pyIter_zip st.1 h
theorem notin2 {x u v : Nat} (h1 : x ≠ u) (h2 : x ≠ v) : x ∉ [u, v] := fun h => (List.mem_cons.mp h).elim h1 fun q => h2 (List.mem_singleton.mp q)
theorem zsep (n a b : Nat) (la : a < n) (lb : b < n) : ZipSep2 (n + 4) (n + 2) (n + 3) n (n + 1) [n, a] [n + 1, b] where
  TIz := Nat.ne_of_lt (by omega : n + 2 < n + 4)
  TOz := Nat.ne_of_lt (by omega : n + 3 < n + 4)
  TITO := Nat.ne_of_lt (by omega : n + 2 < n + 3)
  TIi1 := Nat.ne_of_gt (by omega : n < n + 2)
  mem1 := List.mem_cons_self ..
  zf1 := notin2 (by omega) (by omega)
  Tf1 := notin2 (by omega) (by omega)
  TIi2 := Nat.ne_of_gt (by omega : n + 1 < n + 2)
  mem2 := List.mem_cons_self ..
  zf2 := notin2 (by omega) (by omega)
  Tf2 := notin2 (by omega) (by omega)
  sep1_2 := notin2 (by omega) (by omega)
  sep2_1 := notin2 (by omega) (by omega)
def iZipM (K : PySem.W.Frag) (ta : TA) : TI := fun σ H R => ta σ H fun vs H1 => ∃ a b xs ys, vs = [.ref a, .ref b] ∧ SqT K H1 a xs ∧ SqL K H1 b ys ∧ R (ItzM K a b) H1
theorem pi_zipM {X : Cx} {e e2 : Expr} {ta : TA} {p pos tpos : Pos} {elts : List Expr} {kk : Nat} (hg : Gl X "zip") (hm : X.mg "zip" = none) (ha : PA X [e, e2] ta)
    (hs : starEach [e, e2] X.env = (false, eval e X.env) :: starEach [e2] X.env := by rfl) (hpl : (backTo pos (starEach [e2] X.env)).any (·.1) = false := by rfl) :
    PI X (.Tuple elts kk tpos) (.Call (.Name "zip" p) [e, e2] [] pos) (iZipM X.K ta) := by
  refine ⟨fun pins s σ H R I h => Call_ (ld_blt I hg hm PyProof.Rows.boot_zip (PyProof.Rows.callWith_type1 (thn (ha.run pos pins s σ H _ I h) fun us s1 hx => ?_) hs hpl))⟩
  obtain ⟨vs, H1, I1, r1, a, b, xs, ys, rfl, hqx, hqy, q⟩ := hx
  cases r1 with
  | cons r rr =>
    cases rr with
    | cons r' rr =>
      cases rr
      cases r
      cases r'
      obtain ⟨its, rv, p1, _⟩ := I1.tuple hqx
      obtain ⟨its2, rv2, p2, _⟩ := I1.list hqy
      have t1 : s1.heap.IsTuple a its.toArray := p1
      have la : a < s1.heap.objs.size := by obtain ⟨_, e, _⟩ := id t1; exact Heap.lt_size e
      have lb : b < s1.heap.objs.size := by obtain ⟨_, e, _⟩ := id p2.isList; exact Heap.lt_size e
      refine zip_begins2 (begins_tuple a its.toArray) (begins_list b its2.toArray) t1 p2.isList fun h' hz hTI hTO h1 h2 hsz hk => wpAny_pyIter_zip hz ?_
      have I2 : Inv X pins σ H1 { s1 with heap := h' } := I1.kept (t' := s1.toks) hk
      refine ⟨s1.heap.objs.size + 4, [s1.heap.objs.size + 4, s1.heap.objs.size + 2, s1.heap.objs.size + 3, s1.heap.objs.size, s1.heap.objs.size + 1], _, _, H1, rfl, I2, turn_zipM (zsep _ a b la lb) (Nat.ne_of_lt la) (Nat.ne_of_lt (Nat.lt_succ_of_lt lb)), ⟨hz, hTI, ⟨_, _, hTO⟩, ⟨_, h1, rfl, rfl⟩, ⟨_, h2, rfl, rfl⟩⟩, fun c hcm => ?_, q⟩
      have hle : s1.heap.objs.size ≤ c := by
        simp only [List.mem_cons, List.not_mem_nil, or_false] at hcm
        rcases hcm with rfl | rfl | rfl | rfl | rfl
        · exact Nat.le_add_right _ _
        · exact Nat.le_add_right _ _
        · exact Nat.le_add_right _ _
        · exact Nat.le_refl _
        · exact Nat.le_add_right _ _
      exact I1.fpOk hle (I1.hok.fresh hle)
end GX
namespace GX
open PySem PySem.Spec PyProof.Rows L2
section
variable {X : Cx}
theorem listK (K : PySem.W.Frag) (h : X.K = K := by rfl) : CallR X (.type "list") (fun xs H Q => ∃ p ys, xs = [.ref p] ∧ (SqL K H p ys ∨ SqT K H p ys) ∧ ∀ l, H l = none → Q (.ref l) (upd H l (.lst ys))) := h ▸ call_list_of
theorem lcountK (K : PySem.W.Frag) (h : X.K = K := by rfl) : MtR X "list.count" (rCntI K) := h ▸ mt_lcount
end
end GX
namespace GX
open PySem PySem.Spec PyProof.Rows L2
/-- over a tuple or a list -/
def iBoth (K : PySem.W.Frag) (tl : TE) : TI := fun σ H R => iTup K tl σ H R ∨ iList K tl σ H R
theorem pi_both {X : Cx} {tg l : Expr} {tl : TE} (he : PE X l tl) : PI X tg l (iBoth X.K tl) := ⟨fun pins s σ H R I h => h.elim ((pi_tup he).run pins s σ H R I) ((pi_list he).run pins s σ H R I)⟩
theorem piB (K : PySem.W.Frag) {X : Cx} {tg l : Expr} {tl : TE} (he : PE X l tl) (h : X.K = K := by rfl) : PI X tg l (iBoth K tl) := h ▸ pi_both he
theorem slA (K : PySem.W.Frag) {X : Cx} (h : X.K = K := by rfl) : SlR X (rSlA K) := h ▸ sl_tupA
/-- a list of rows -/
def LRows (H : Hp) (v : V) (rows : List (List Int)) : Prop := ∃ a vs, v = .ref a ∧ H a = some (.lst vs) ∧ Paired (IH H) vs rows
theorem LRows.dp {K : PySem.W.Frag} {H : Hp} {v : V} {rows : List (List Int)} (h : LRows H v rows) : Dp K H v (.list (rows.map dI)) := by
  obtain ⟨a, vs, rfl, q, p⟩ := h
  exact .lst (sql q) (dpAll_rows p)
theorem LRows.same {H H' : Hp} (k : Same H H') {v : V} {rows : List (List Int)} (h : LRows H v rows) : LRows H' v rows := let ⟨a, vs, e, q, p⟩ := h; ⟨a, vs, e, k _ _ q, paired_mono (fun _ _ => IH.kt (kt_same k)) p⟩
theorem LRows.kb {H H' : Hp} (k : Kb H H') {v : V} {rows : List (List Int)} (h : LRows H v rows) : LRows H' v rows := let ⟨a, vs, e, q, p⟩ := h; ⟨a, vs, e, k.1 _ _ (fun ps z => by cases z) q, paired_mono (fun _ _ => IH.kt (kt_kb k)) p⟩
end GX

set_option Elab.async false
set_option linter.all false
set_option maxRecDepth 100000
set_option maxHeartbeats 2000000
/-! the defs, their scopes -/
namespace G9
open PySem PySem.Spec PyProof.Rows L2
def top (i : Nat) : Stmt := PySem.Challenge.pw_toldreasons_k21_puzzles_built.main.body.getD i (.Pass ⟨0, 0, 0, 0⟩)
abbrev sCellAt : Stmt := top 1
abbrev sPlaceOf : Stmt := top 2
abbrev sRowCells : Stmt := top 3
abbrev sColumnCells : Stmt := top 4
abbrev sCellsWithin : Stmt := top 5
abbrev sBoxLots : Stmt := top 6
abbrev sAllCells : Stmt := top 7
abbrev sGaps : Stmt := top 8
abbrev sSideTies : Stmt := top 9
abbrev sCellsAbout : Stmt := top 10
abbrev sRowLots : Stmt := top 11
abbrev sColumnLots : Stmt := top 12
abbrev sSameDomains : Stmt := top 13
abbrev sSquares : Stmt := top 14
abbrev sBoxed : Stmt := top 15
abbrev sSigned : Stmt := top 16
abbrev sSummed : Stmt := top 17
abbrev sPainted : Stmt := top 18
abbrev sMined : Stmt := top 19
abbrev sRoaded : Stmt := top 20
abbrev sOpen : Stmt := top 22
abbrev sPick : Stmt := top 23
abbrev sOrder : Stmt := top 24
abbrev sLLines : Stmt := top 25
abbrev sLNear : Stmt := top 26
abbrev sLTies : Stmt := top 27
abbrev sLDrawGrid : Stmt := top 28
abbrev sLPlacesRight : Stmt := top 29
abbrev sLBoxes : Stmt := top 30
abbrev sLUnlike : Stmt := top 31
abbrev sLaw : Stmt := top 32
theorem scCellAt : FnScope ["grid", "r", "c"] ["grid", "r", "c"] (defScope sCellAt) := ⟨rfl, rfl, rfl, by decide +kernel, rfl, by decide +kernel, by decide +kernel⟩
theorem scPlaceOf : FnScope ["grid", "cell"] ["grid", "cell"] (defScope sPlaceOf) := ⟨rfl, rfl, rfl, by decide +kernel, rfl, by decide +kernel, by decide +kernel⟩
theorem scRowCells : FnScope ["grid", "r", "c"] ["grid", "r"] (defScope sRowCells) := ⟨rfl, rfl, rfl, by decide +kernel, rfl, by decide +kernel, by decide +kernel⟩
theorem scColumnCells : FnScope ["grid", "c", "r"] ["grid", "c"] (defScope sColumnCells) := ⟨rfl, rfl, rfl, by decide +kernel, rfl, by decide +kernel, by decide +kernel⟩
theorem scCellsWithin : FnScope ["grid", "rows", "columns", "r", "c"] ["grid", "rows", "columns"] (defScope sCellsWithin) := ⟨rfl, rfl, rfl, by decide +kernel, rfl, by decide +kernel, by decide +kernel⟩
theorem scBoxLots : FnScope ["grid", "tall", "wide", "height", "width", "corners", "r", "c"] ["grid", "tall", "wide"] (defScope sBoxLots) := ⟨rfl, rfl, rfl, by decide +kernel, rfl, by decide +kernel, by decide +kernel⟩
theorem scAllCells : FnScope ["grid"] ["grid"] (defScope sAllCells) := ⟨rfl, rfl, rfl, by decide +kernel, rfl, by decide +kernel, by decide +kernel⟩
theorem scGaps : FnScope ["grid", "one", "other", "r", "c", "row", "column"] ["grid", "one", "other"] (defScope sGaps) := ⟨rfl, rfl, rfl, by decide +kernel, rfl, by decide +kernel, by decide +kernel⟩
theorem scSideTies : FnScope ["grid", "cells", "i", "j"] ["grid"] (defScope sSideTies) := ⟨rfl, rfl, rfl, by decide +kernel, rfl, by decide +kernel, by decide +kernel⟩
theorem scCellsAbout : FnScope ["grid", "cell", "other"] ["grid", "cell"] (defScope sCellsAbout) := ⟨rfl, rfl, rfl, by decide +kernel, rfl, by decide +kernel, by decide +kernel⟩
theorem scRowLots : FnScope ["grid", "r"] ["grid"] (defScope sRowLots) := ⟨rfl, rfl, rfl, by decide +kernel, rfl, by decide +kernel, by decide +kernel⟩
theorem scColumnLots : FnScope ["grid", "c"] ["grid"] (defScope sColumnLots) := ⟨rfl, rfl, rfl, by decide +kernel, rfl, by decide +kernel, by decide +kernel⟩
theorem scSameDomains : FnScope ["grid", "low", "high", "_"] ["grid", "low", "high"] (defScope sSameDomains) := ⟨rfl, rfl, rfl, by decide +kernel, rfl, by decide +kernel, by decide +kernel⟩
theorem scSquares : FnScope ["size", "grid", "rules", "cells"] ["size"] (defScope sSquares) := ⟨rfl, rfl, rfl, by decide +kernel, rfl, by decide +kernel, by decide +kernel⟩
theorem scBoxed : FnScope ["tall", "wide", "size", "domains", "rules", "cells"] ["tall", "wide"] (defScope sBoxed) := ⟨rfl, rfl, rfl, by decide +kernel, rfl, by decide +kernel, by decide +kernel⟩
theorem scSigned : FnScope ["size", "pairs", "domains", "rules", "i", "j"] ["size", "pairs"] (defScope sSigned) := ⟨rfl, rfl, rfl, by decide +kernel, rfl, by decide +kernel, by decide +kernel⟩
theorem scSummed : FnScope ["grid", "most", "lots", "rules", "cells", "total"] ["grid", "most", "lots"] (defScope sSummed) := ⟨rfl, rfl, rfl, by decide +kernel, rfl, by decide +kernel, by decide +kernel⟩
theorem scPainted : FnScope ["grid", "rows", "columns", "lots", "rules", "cells", "lengths"] ["grid", "rows", "columns"] (defScope sPainted) := ⟨rfl, rfl, rfl, by decide +kernel, rfl, by decide +kernel, by decide +kernel⟩
theorem scMined : FnScope ["grid", "told", "free", "cell", "_", "domains", "lots", "number", "rules", "cells"] ["grid", "told"] (defScope sMined) := ⟨rfl, rfl, rfl, by decide +kernel, rfl, by decide +kernel, by decide +kernel⟩
theorem scRoaded : FnScope ["grid", "rows", "columns", "lots", "counts", "cells", "number", "joined"] ["grid", "rows", "columns"] (defScope sRoaded) := ⟨rfl, rfl, rfl, by decide +kernel, rfl, by decide +kernel, by decide +kernel⟩
theorem scOpen : FnScope ["_law_script", "_law_stirred", "_law_cell", "_law_cells"] ["_law_script"] (defScope sOpen) := ⟨rfl, rfl, rfl, by decide +kernel, rfl, by decide +kernel, by decide +kernel⟩
theorem scPick : FnScope ["_law_source", "_law_most", "_law_cells", "_law_others", "_law_lap", "_law_stirred"] ["_law_source", "_law_most"] (defScope sPick) := ⟨rfl, rfl, rfl, by decide +kernel, rfl, by decide +kernel, by decide +kernel⟩
theorem scOrder : FnScope ["_law_source", "_law_things", "_law_others", "_law_lap"] ["_law_source", "_law_things"] (defScope sOrder) := ⟨rfl, rfl, rfl, by decide +kernel, rfl, by decide +kernel, by decide +kernel⟩
theorem scLLines : FnScope ["_law_grid", "_law_tall", "_law_wide", "_law_rows", "_law_c", "_law_r"] ["_law_grid"] (defScope sLLines) := ⟨rfl, rfl, rfl, by decide +kernel, rfl, by decide +kernel, by decide +kernel⟩
theorem scLNear : FnScope ["_law_grid", "_law_cell", "_law_is_corner", "_law_wide", "_law_found", "_law_other", "_law_down", "_law_on"] ["_law_grid", "_law_cell", "_law_is_corner"] (defScope sLNear) := ⟨rfl, rfl, rfl, by decide +kernel, rfl, by decide +kernel, by decide +kernel⟩
theorem scLTies : FnScope ["_law_grid", "_law_found", "_law_cell", "_law_other"] ["_law_grid"] (defScope sLTies) := ⟨rfl, rfl, rfl, by decide +kernel, rfl, by decide +kernel, by decide +kernel⟩
theorem scLDrawGrid : FnScope ["_law_source", "_law_most", "_law_tall"] ["_law_source", "_law_most"] (defScope sLDrawGrid) := ⟨rfl, rfl, rfl, by decide +kernel, rfl, by decide +kernel, by decide +kernel⟩
theorem scLPlacesRight : FnScope ["_law_grid", "_law_tall", "_law_wide", "_law_rows", "_law_columns", "_law_r", "_law_c", "_law_cell"] ["_law_grid"] (defScope sLPlacesRight) := ⟨rfl, rfl, rfl, by decide +kernel, rfl, by decide +kernel, by decide +kernel⟩
theorem scLBoxes : FnScope ["_law_grid", "_law_tall", "_law_wide", "_law_lots", "_law_cell", "_law_place"] ["_law_grid", "_law_tall", "_law_wide"] (defScope sLBoxes) := ⟨rfl, rfl, rfl, by decide +kernel, rfl, by decide +kernel, by decide +kernel⟩
theorem scLUnlike : FnScope ["_law_lots", "_law_lot"] ["_law_lots"] (defScope sLUnlike) := ⟨rfl, rfl, rfl, by decide +kernel, rfl, by decide +kernel, by decide +kernel⟩
theorem scLaw : FnScope ((["_law_script", "_law_source", "_law_grid", "_law_tall", "_law_wide", "_law_down", "_law_d", "_law_on", "_law_size", "_law_rows", "_law_columns", "_law_square", "_law_pairs", "_law_many", "_law_lap", "_law_pair"] : List Str) ++ (["_law_rules", "_law_i", "_law_j", "_law_whole", "_law_due", "_law_cells", "_law_most", "_law_lots", "_law_lot", "_law_total", "_law_lengths", "_law_turn", "_law_line", "_law_numbers", "_law_plain", "_law_k"] : List Str) ++ (["_law_told", "_law_cell", "_law_known", "_law_number", "_law_about"] : List Str)) ["_law_script"] (defScope sLaw) := ⟨rfl, rfl, rfl, by decide +kernel, rfl, by decide +kernel, by decide +kernel⟩
/-- a def as it stands around -/
structure Df (K : PySem.W.Frag) (mg : Str → Option Value) (x : Str) (st : Stmt) (ps : List Str) (f : Addr) (fd : FuncData) : Prop where
  F : Fun K x x st f fd
  b : Binds K fd ps []
  g : mg x = some (.ref f)
/-- the builtins' names are free -/
structure Bl (mg : Str → Option Value) : Prop where
  len : mg "len" = none
  all : mg "all" = none
  any : mg "any" = none
  enumerate : mg "enumerate" = none
  tuple : mg "tuple" = none
  list : mg "list" = none
  sset : mg "set" = none
  sum : mg "sum" = none
  max : mg "max" = none
  min : mg "min" = none
  sorted : mg "sorted" = none
  range : mg "range" = none
  zip : mg "zip" = none
  int : mg "int" = none
  abs : mg "abs" = none
  repr : mg "repr" = none
  isi : mg "isinstance" = none
  dict : mg "dict" = none
  bool : mg "bool" = none
end G9

set_option Elab.async false
set_option linter.all false
set_option maxRecDepth 100000
set_option maxHeartbeats 4000000
/-! cells_of, values_under, _stretches, _partners -/
namespace G9
open PySem PySem.Spec PyProof.Rows L2 GX
def Rul.cells : Rul → List Int
  | .table cs _ | .unlike cs | .sum cs _ _ | .count cs _ _ _ | .runs cs _ | .joined cs _ _ => cs
  | .below a b => [a, b]
theorem ifT {c : Bool} {A B : Prop} (hc : c = true) (h : A) : if c = true then A else B := by
  rw [if_pos hc]
  exact h
theorem ifF {c : Bool} {A B : Prop} (hc : c = false) (h : B) : if c = true then A else B := by
  rw [hc, if_neg Bool.false_ne_true]
  exact h
theorem none_under {H : Hp} {p b : Addr} {o : HO} (h : upd H p o b = none) : H b = none := by
  rw [upd_ne (ne_of_none upd_same h).symm] at h
  exact h
theorem same_refl (H : Hp) : Same H H := fun _ _ e => e
def spCellsOf : Sp := fun vs H Q _ => ∃ v r, vs = [v] ∧ RuH H v r ∧ ∀ w H', Same H H' → IH H' w (Rul.cells r) → Q w H'
section
variable {P : Program} {w : World} {K : PySem.W.Frag} {mg : Str → Option Value} {base : Heap} {f : Addr} {fd : FuncData}
/-- of a row the values at some cells -/
def pick (vals cs : List Int) : List Int := cs.map fun c => vals.getD c.toNat 0
theorem pick_at {vals cs : List Int} (hc : ∀ c ∈ cs, 0 ≤ c ∧ c < vals.length) {c : Int} (h : c ∈ cs) : atI (vals.map V.int) c = some (V.int (vals.getD c.toNat 0)) := by
  obtain ⟨h0, h1⟩ := hc c h
  have e : ((c.toNat : Nat) : Int) = c := Int.toNat_of_nonneg h0
  have hlt : c.toNat < vals.length := by omega
  rw [← e]
  refine L2.atI_nat ?_
  rw [List.getElem?_map, List.getD_eq_getElem?_getD, Int.toNat_natCast, List.getElem?_eq_getElem hlt]
  rfl
def spUnder : Sp := fun vs H Q _ => ∃ v r u vals, vs = [v, u] ∧ RuH H v r ∧ IH H u vals ∧ (∀ c ∈ Rul.cells r, 0 ≤ c ∧ c < vals.length) ∧ (Rul.cells r).length ≤ 1000 ∧ ∀ w H', Same H H' → IH H' w (pick vals (Rul.cells r)) → Q w H'
end
end G9

set_option Elab.async false
set_option linter.all false
set_option maxRecDepth 100000
set_option maxHeartbeats 4000000
/-! _stretches and the law's own -/
namespace G9
open PySem PySem.Spec PyProof.Rows L2 GX
def stepR (p : List Int × Int) (v : Int) : List Int × Int := if v ≠ 0 then (p.1, p.2 + 1) else if 0 < p.2 then (p.1 ++ [p.2], 0) else p
def endR (p : List Int × Int) : List Int := p.1 ++ if 0 < p.2 then [p.2] else []
def foldR (vs : List Int) : List Int × Int := vs.foldl stepR ([], 0)
def runsOf (vs : List Int) : List Int := endR (foldR vs)
theorem foldR_snoc (vs : List Int) (v : Int) : foldR (vs ++ [v]) = stepR (foldR vs) v := by
  unfold foldR
  rw [List.foldl_append]
  rfl
theorem step_len (p : List Int × Int) (v : Int) : (stepR p v).1.length ≤ p.1.length + 1 ∧ (0 ≤ p.2 → 0 ≤ (stepR p v).2) := by
  unfold stepR
  split
  · exact ⟨by show p.1.length ≤ _; omega, fun h => by show 0 ≤ p.2 + 1; omega⟩
  · split
    · exact ⟨by simp, fun h => Int.le_refl _⟩
    · exact ⟨by omega, fun h => h⟩
theorem foldR_len (vs : List Int) : (foldR vs).1.length ≤ vs.length ∧ 0 ≤ (foldR vs).2 := by
  suffices h : ∀ (l : List Int) (p : List Int × Int), 0 ≤ p.2 → (l.foldl stepR p).1.length ≤ p.1.length + l.length ∧ 0 ≤ (l.foldl stepR p).2 by
    have := h vs ([], 0) (Int.le_refl _)
    exact ⟨by have := this.1; rw [List.length_nil, Nat.zero_add] at this; exact this, this.2⟩
  intro l
  induction l with
  | nil => exact fun p h => ⟨Nat.le_refl _, h⟩
  | cons a l ih =>
    intro p h
    have := step_len p a
    have z := ih (stepR p a) (this.2 h)
    exact ⟨by rw [List.length_cons]; have := z.1; show (l.foldl stepR (stepR p a)).1.length ≤ _; omega, z.2⟩
def spStretch : Sp := fun vs H Q _ => ∃ v vals, vs = [v] ∧ IH H v vals ∧ vals.length ≤ 1000 ∧ ∀ w H', Same H H' → IH H' w (runsOf vals) → Q w H'
section
variable {P : Program} {w : World} {K : PySem.W.Frag} {mg : Str → Option Value} {base : Heap} {f : Addr} {fd : FuncData}
end
end G9

set_option Elab.async false
set_option linter.all false
set_option maxRecDepth 100000
set_option maxHeartbeats 4000000
/-! the law's own lengths of stretches; _partners -/
namespace G9
open PySem PySem.Spec PyProof.Rows L2 GX
/-- a list of ints -/
def IL (H : Hp) (v : V) (ns : List Int) : Prop := ∃ a, v = .ref a ∧ H a = some (.lst (ns.map V.int))
def spRuns : Sp := fun vs H Q _ => ∃ v vals, vs = [v] ∧ IL H v vals ∧ vals.length ≤ 1000 ∧ ∀ w H', Same H H' → IH H' w (runsOf vals) → Q w H'
section
variable {P : Program} {w : World} {K : PySem.W.Frag} {mg : Str → Option Value} {base : Heap} {f : Addr} {fd : FuncData}
/-- the cells that ties join to a cell -/
def partnersOf (ties : List (Int × Int)) (c : Int) : List Int := (ties.filter fun p => decide (p.1 = c)).map (·.2) ++ (ties.filter fun p => decide (p.2 = c)).map (·.1)
def spPartners : Sp := fun vs H Q _ => ∃ t ties c, vs = [t, .int c] ∧ RowsH H t (ties.map tie2) ∧ ties.length ≤ 1000 ∧ ∀ l H', Same H H' → H l = none → H' l = some (.lst ((partnersOf ties c).map V.int)) → Q (.ref l) H'
end
end G9

set_option Elab.async false
set_option linter.all false
set_option maxRecDepth 100000
set_option maxHeartbeats 4000000
/-! joined cells: what a search finds -/
namespace G9
open PySem PySem.Spec PyProof.Rows L2 GX
def Adj (T : List (Int × Int)) (x y : Int) : Prop := (x, y) ∈ T ∨ (y, x) ∈ T
inductive Conn (M : List Int) (T : List (Int × Int)) (s : Int) : Int → Prop
  | start : s ∈ M → Conn M T s s
  | step {x y : Int} : Conn M T s x → y ∈ M → Adj T x y → Conn M T s y
/-- marked cells are joined -/
def Joined (M : List Int) (T : List (Int × Int)) : Prop := ∀ s r, M = s :: r → ∀ m ∈ M, Conn M T s m
noncomputable def joinedB (M : List Int) (T : List (Int × Int)) : Bool := @decide (Joined M T) (Classical.propDecidable _)
theorem joinedB_yes {M : List Int} {T : List (Int × Int)} (h : Joined M T) : joinedB M T = true := @decide_eq_true _ (Classical.propDecidable _) h
theorem joinedB_no {M : List Int} {T : List (Int × Int)} (h : ¬ Joined M T) : joinedB M T = false := @decide_eq_false _ (Classical.propDecidable _) h
theorem nodup_le : ∀ {l m : List Int}, l.Nodup → (∀ x ∈ l, x ∈ m) → l.length ≤ m.length
  | [], _, _, _ => Nat.zero_le _
  | a :: l, m, nd, sub => by
    obtain ⟨h1, h2⟩ := List.nodup_cons.mp nd
    have ha : a ∈ m := sub a (List.mem_cons_self ..)
    have := nodup_le (m := m.erase a) h2 fun x hx => (List.mem_erase_of_ne fun z : x = a => h1 (z ▸ hx)).mpr (sub x (List.mem_cons_of_mem _ hx))
    have hp : 0 < m.length := List.length_pos_of_mem ha
    rw [List.length_erase_of_mem ha] at this
    rw [List.length_cons]
    omega
theorem nodup_all {l m : List Int} (nd : l.Nodup) (sub : ∀ x ∈ l, x ∈ m) (hl : m.length ≤ l.length) : ∀ x ∈ m, x ∈ l := fun x hx => by
  by_cases e : x ∈ l
  · exact e
  · have := nodup_le (l := x :: l) (m := m) (List.nodup_cons.mpr ⟨e, nd⟩) fun y hy => (List.mem_cons.mp hy).elim (fun z => z ▸ hx) (sub y)
    rw [List.length_cons] at this
    omega
/-- a search under way: R found, W waiting; the cells of ex are not gone through to the end -/
structure Sr (M : List Int) (T : List (Int × Int)) (s : Int) (R W : List Int) (ex : Int → Prop) : Prop where
  nd : R.Nodup
  sub : ∀ x ∈ R, x ∈ M
  con : ∀ x ∈ R, Conn M T s x
  wr : ∀ x ∈ W, x ∈ R
  cl : ∀ x ∈ R, x ∉ W → ¬ ex x → ∀ y ∈ M, Adj T x y → y ∈ R
  st : s ∈ R
  wl : W.length ≤ R.length
theorem Sr.begin {M : List Int} {T : List (Int × Int)} {s : Int} (h : s ∈ M) : Sr M T s [s] [s] fun _ => False where
  nd := List.nodup_cons.mpr ⟨by simp, List.nodup_nil⟩
  sub := fun x hx => by rw [List.mem_singleton.mp hx]; exact h
  con := fun x hx => by rw [List.mem_singleton.mp hx]; exact .start h
  wr := fun x hx => hx
  cl := fun x hx hn => absurd hx hn
  st := List.mem_singleton.mpr rfl
  wl := Nat.le_refl _
theorem Sr.len {M : List Int} {T : List (Int × Int)} {s : Int} {R W : List Int} {ex : Int → Prop} (h : Sr M T s R W ex) : R.length ≤ M.length :=
  nodup_le h.nd h.sub
/-- one is taken -/
theorem Sr.take {M : List Int} {T : List (Int × Int)} {s c : Int} {R W : List Int} (h : Sr M T s R (W ++ [c]) fun _ => False) : Sr M T s R W (fun x => x = c) where
  nd := h.nd
  sub := h.sub
  con := h.con
  wr := fun x hx => h.wr x (List.mem_append_left _ hx)
  cl := fun x hx hn he => h.cl x hx (fun z => (List.mem_append.mp z).elim hn fun q => he (List.mem_singleton.mp q)) id
  st := h.st
  wl := by have := h.wl; rw [List.length_append] at this; omega
/-- a new one is found -/
theorem Sr.find {M : List Int} {T : List (Int × Int)} {s c y : Int} {R W : List Int} (h : Sr M T s R W (fun x => x = c)) (hc : c ∈ R) (hy : y ∈ M) (hn : y ∉ R) (ha : Adj T c y) : Sr M T s (R ++ [y]) (W ++ [y]) (fun x => x = c) where
  nd := by
    rw [List.nodup_append]
    refine ⟨h.nd, List.nodup_cons.mpr ⟨by simp, List.nodup_nil⟩, fun a ha b hb => ?_⟩
    rw [List.mem_singleton.mp hb]
    exact fun z => hn (z ▸ ha)
  sub := fun x hx => (List.mem_append.mp hx).elim (h.sub x) fun q => by rw [List.mem_singleton.mp q]; exact hy
  con := fun x hx => (List.mem_append.mp hx).elim (h.con x) fun q => by rw [List.mem_singleton.mp q]; exact .step (h.con c hc) hy ha
  wr := fun x hx => (List.mem_append.mp hx).elim (fun q => List.mem_append_left _ (h.wr x q)) fun q => List.mem_append_right _ q
  cl := fun x hx hnw he z hz az => by
    rcases List.mem_append.mp hx with q | q
    · exact List.mem_append_left _ (h.cl x q (fun w => hnw (List.mem_append_left _ w)) he z hz az)
    · exact absurd (List.mem_append_right _ q) hnw
  st := List.mem_append_left _ h.st
  wl := by have := h.wl; rw [List.length_append, List.length_append]; show W.length + 1 ≤ R.length + 1; omega
/-- all beside it have been looked at -/
theorem Sr.done {M : List Int} {T : List (Int × Int)} {s c : Int} {R W : List Int} (h : Sr M T s R W (fun x => x = c)) (all : ∀ y ∈ M, Adj T c y → y ∈ R) : Sr M T s R W fun _ => False where
  nd := h.nd
  sub := h.sub
  con := h.con
  wr := h.wr
  cl := fun x hx hn _ y hy ha => by
    by_cases e : x = c
    · subst e
      exact all y hy ha
    · exact h.cl x hx hn e y hy ha
  st := h.st
  wl := h.wl
theorem Sr.all {M : List Int} {T : List (Int × Int)} {s : Int} {R : List Int} (h : Sr M T s R [] fun _ => False) {y : Int} (c : Conn M T s y) : y ∈ R := by
  induction c with
  | start => exact h.st
  | step _ hy ha ih => exact h.cl _ ih (by simp) id _ hy ha
theorem Sr.count {M : List Int} {T : List (Int × Int)} {s : Int} {R r : List Int} (hM : M = s :: r) (nd : M.Nodup) (h : Sr M T s R [] fun _ => False) : decide ((R.length : Int) = (M.length : Int)) = joinedB M T := by
  by_cases j : Joined M T
  · have e1 : M.length ≤ R.length := nodup_le nd fun m hm => h.all (j s r hM m hm)
    have e2 := h.len
    rw [joinedB_yes j, decide_eq_true (by omega)]
  · rw [joinedB_no j]
    refine decide_eq_false fun e => j fun s' r' e' m hm => ?_
    have e2 : s' = s := by rw [hM] at e'; exact (List.cons.inj e').1.symm
    subst e2
    exact h.con m (nodup_all h.nd h.sub (by omega) m hm)
theorem joinedB_nil (T : List (Int × Int)) : joinedB [] T = true := joinedB_yes fun s r e => by cases e
theorem joinedB_one (s : Int) (T : List (Int × Int)) : joinedB [s] T = true := joinedB_yes fun s' r e m hm => by
  cases e
  rw [List.mem_singleton.mp hm]
  exact .start (List.mem_singleton.mpr rfl)
theorem adj_partners {T : List (Int × Int)} {c y : Int} : y ∈ partnersOf T c ↔ Adj T c y := by
  unfold partnersOf Adj
  simp only [List.mem_append, List.mem_map, List.mem_filter, decide_eq_true_eq]
  constructor
  · rintro (⟨p, ⟨hp, rfl⟩, rfl⟩ | ⟨p, ⟨hp, rfl⟩, rfl⟩)
    · exact .inl hp
    · exact .inr hp
  · rintro (h | h)
    · exact .inl ⟨_, ⟨h, rfl⟩, rfl⟩
    · exact .inr ⟨_, ⟨h, rfl⟩, rfl⟩
end G9

set_option Elab.async false
set_option linter.all false
set_option maxRecDepth 100000
set_option maxHeartbeats 4000000
/-! joined_to_first -/
namespace G9
open PySem PySem.Spec PyProof.Rows L2 GX
theorem cut1 (xs : List V) : cutV xs none (some 1) = xs.take 1 := by
  unfold cutV
  cases xs with
  | nil => rfl
  | cons x r =>
    have e : HT.sIx (x :: r).length (x :: r).length (some 1) - HT.sIx (x :: r).length 0 none = 1 := by simp [HT.sIx]
    rw [e]
    rfl
def dR (R : List Int) : List (Key × V) := R.map fun x => ((Sum.inl x : Key), V.bl true)
theorem valV_dR : ∀ (R : List Int) (x : Int), valV (dR R) (.inl x) = if x ∈ R then some (.bl true) else none
  | [], x => rfl
  | a :: R, x => by
    by_cases e : a = x
    · subst e
      rw [if_pos (List.mem_cons_self ..)]
      exact valV_pos rfl
    · have := valV_dR R x
      show valV (((Sum.inl a : Key), V.bl true) :: dR R) _ = _
      rw [valV_neg (fun z => e (Sum.inl.inj z)), this]
      by_cases h : x ∈ R
      · rw [if_pos h, if_pos (List.mem_cons_of_mem _ h)]
      · rw [if_neg h, if_neg fun z => (List.mem_cons.mp z).elim (fun q => e q.symm) h]
theorem putK_dR {R : List Int} {x : Int} (h : x ∉ R) : putK (dR R) (.inl x) (.bl true) = dR (R ++ [x]) := by
  rw [putK_new _ (by rw [valV_dR, if_neg h])]
  unfold dR
  rw [List.map_append]
  rfl
theorem dR_len (R : List Int) : (dR R).length = R.length := List.length_map ..
theorem IL.dp {K : PySem.W.Frag} {H : Hp} {v : V} {ns : List Int} (h : IL H v ns) : Dp K H v (.list (ns.map .int)) := by
  obtain ⟨a, rfl, q⟩ := h
  exact .lst (sql q) (dpAll_ints ns)
def spJoined : Sp := fun vs H Q _ => ∃ m M t ties, vs = [m, t] ∧ IL H m M ∧ RowsH H t (ties.map tie2) ∧ M.Nodup ∧ M.length ≤ 1000 ∧ ties.length ≤ 1000 ∧ ∀ (l : Addr) (R : List Int) (H' : Hp), Same H H' → decide (R.length = M.length) = joinedB M ties → H' l = some (.lst (R.map V.int)) → Q (.ref l) H'
section
variable {P : Program} {w : World} {K : PySem.W.Frag} {mg : Str → Option Value} {base : Heap} {f f2 : Addr} {fd fd2 : FuncData}
end
end G9

set_option Elab.async false
set_option linter.all false
set_option maxRecDepth 100000
set_option maxHeartbeats 4000000
/-! the law's own is_joined -/
namespace G9
open PySem PySem.Spec PyProof.Rows L2 GX
/-- what a tie joins to a cell -/
def nears (p : Int × Int) (c : Int) : List Int := (if p.1 = c then [p.2] else []) ++ (if p.2 = c then [p.1] else [])
theorem mem_nears {p : Int × Int} {c y : Int} : y ∈ nears p c ↔ (p = (c, y) ∨ p = (y, c)) := by
  obtain ⟨a, b⟩ := p
  unfold nears
  by_cases h1 : a = c <;> by_cases h2 : b = c <;> simp [h1, h2, Prod.ext_iff, eq_comm] <;> omega
theorem rep_bool (k : Bool) (x : V) : (List.replicate (if k = true then (1 : Int) else 0).toNat [x]).flatten = if k = true then [x] else [] := by
  cases k <;> rfl
theorem near_bool (p : Int × Int) (c : Int) : (if decide (V.int p.1 = V.int c) = true then [V.int p.2] else []) ++ (if decide (V.int p.2 = V.int c) = true then [V.int p.1] else []) = (nears p c).map V.int := by
  unfold nears
  by_cases h1 : p.1 = c <;> by_cases h2 : p.2 = c <;> simp [h1, h2]
def spLJoined : Sp := fun vs H Q _ => ∃ cs m M t ties, vs = [cs, t, m] ∧ IL H m M ∧ RowsH H t (ties.map tie2) ∧ M.Nodup ∧ M.length ≤ 1000 ∧ ties.length ≤ 1000 ∧ ∀ H', Same H H' → Q (.bl (joinedB M ties)) H'
section
variable {P : Program} {w : World} {K : PySem.W.Frag} {mg : Str → Option Value} {base : Heap} {f f2 : Addr} {fd fd2 : FuncData}
end
end G9

set_option Elab.async false
set_option linter.all false
set_option maxRecDepth 100000
set_option maxHeartbeats 4000000
/-! fits -/
namespace G9
open PySem PySem.Spec PyProof.Rows L2 GX
def markedOf (cs vals vs : List Int) : List Int := ((cs.zip vals).filter fun p => decide (p.2 ∈ vs)).map (·.1)
noncomputable def fitsB : Rul → List Int → Bool
  | .table _ rows, vals => decide (vals ∈ rows)
  | .unlike _, vals => decide vals.Nodup
  | .sum _ lo hi, vals => decide (lo ≤ vals.sum) && decide (vals.sum ≤ hi)
  | .count _ vs lo hi, vals => decide (lo ≤ ((vals.filter fun v => decide (v ∈ vs)).length : Int)) && decide (((vals.filter fun v => decide (v ∈ vs)).length : Int) ≤ hi)
  | .below _ _, vals => decide (vals.getD 0 0 < vals.getD 1 0)
  | .runs _ ls, vals => decide (runsOf vals = ls)
  | .joined cs ties vs, vals => joinedB (markedOf cs vals vs) ties
/-- what is asked of a rule's size -/
def Small (r : Rul) : Prop := (Rul.cells r).Nodup ∧ (Rul.cells r).length ≤ 100 ∧ match r with
  | .joined _ ties _ => ties.length ≤ 100
  | _ => True
theorem marked_len (cs vals vs : List Int) : (markedOf cs vals vs).length ≤ cs.length := by
  unfold markedOf
  rw [List.length_map]
  refine Nat.le_trans (List.length_filter_le _ _) ?_
  rw [List.length_zip]
  exact Nat.min_le_left _ _
theorem marked_nd {cs vals vs : List Int} (h : cs.Nodup) : (markedOf cs vals vs).Nodup := by
  have e : (markedOf cs vals vs).Sublist cs := by
    unfold markedOf
    refine ((List.filter_sublist).map _).trans ?_
    clear h
    induction cs generalizing vals with
    | nil => simp
    | cons a cs ih =>
      cases vals with
      | nil => simp
      | cons v vals =>
        rw [List.zip_cons_cons, List.map_cons]
        exact (ih (vals := vals)).cons₂ a
  exact e.nodup h
def spFits : Sp := fun vs H Q _ => ∃ v r u vals, vs = [v, u] ∧ RuH H v r ∧ IH H u vals ∧ vals.length = (Rul.cells r).length ∧ Small r ∧ ∀ H', Same H H' → Q (.bl (fitsB r vals)) H'
theorem zip_get {cs vals : List Int} {i : Nat} {a b : Int} (h1 : cs[i]? = some a) (h2 : vals[i]? = some b) : (cs.zip vals)[i]? = some (a, b) := by
  rw [List.getElem?_zip_eq_some]
  exact ⟨h1, h2⟩
section
variable {P : Program} {w : World} {K : PySem.W.Frag} {mg : Str → Option Value} {base : Heap} {f f1 f2 : Addr} {fd fd1 fd2 : FuncData}
end
end G9

set_option Elab.async false
set_option linter.all false
set_option maxRecDepth 100000
set_option maxHeartbeats 4000000
/-! the law's own fits -/
namespace G9
open PySem PySem.Spec PyProof.Rows L2 GX
def spLFits : Sp := fun vs H Q _ => ∃ v r u vals, vs = [v, u] ∧ RuH H v r ∧ IL H u vals ∧ vals.length = (Rul.cells r).length ∧ Small r ∧ ∀ H', Same H H' → Q (.bl (fitsB r vals)) H'
theorem all_one (vals : List Int) : ((vals.map fun v => decide (V.int ((vals.count v : Nat) : Int) = V.int 1)).all id) = decide vals.Nodup := by
  by_cases n : vals.Nodup
  · rw [decide_eq_true n, List.all_eq_true]
    intro b hb
    obtain ⟨v, hv, rfl⟩ := List.mem_map.mp hb
    have h1 := List.nodup_iff_count.mp n v
    have h2 := List.count_pos_iff.mpr hv
    exact decide_eq_true (congrArg V.int (by omega))
  · rw [decide_eq_false n, List.all_eq_false]
    by_cases z : ∀ v ∈ vals, vals.count v = 1
    · refine absurd (List.nodup_iff_count.mpr fun v => ?_) n
      by_cases hv : v ∈ vals
      · exact Nat.le_of_eq (z v hv)
      · rw [List.count_eq_zero_of_not_mem hv]
        exact Nat.zero_le _
    · obtain ⟨v, hz⟩ := Classical.not_forall.mp z
      obtain ⟨hv, hz⟩ := Classical.not_imp.mp hz
      refine ⟨_, List.mem_map.mpr ⟨v, hv, rfl⟩, ?_⟩
      rw [id, decide_eq_false fun q => hz (by have := V.int.inj q; omega)]
      exact Bool.false_ne_true
section
variable {P : Program} {w : World} {K : PySem.W.Frag} {mg : Str → Option Value} {base : Heap} {f f1 f2 : Addr} {fd fd1 fd2 : FuncData}
end
end G9

set_option Elab.async false
set_option linter.all false
set_option maxRecDepth 100000
set_option maxHeartbeats 4000000
/-! the law's scope; with_rules, without_rule, joint; the law's rows -/
namespace G9
open PySem PySem.Spec PyProof.Rows L2 GX
theorem paired_sub {α β : Type} {R : α → β → Prop} : ∀ {xs : List α} {ys : List β} (n m : Nat), Paired R xs ys → Paired R ((xs.drop n).take m) ((ys.drop n).take m)
  | _, _, n, m, .nil => by simp; exact .nil
  | _, _, n + 1, m, .cons a r => paired_sub n m r
  | _, _, 0, 0, .cons a r => .nil
  | _, _, 0, m + 1, .cons a r => .cons a (paired_sub 0 m r)
def addRules (p : Puz) (rs : List Rul) : Puz := ⟨p.doms, p.rules ++ rs⟩
def dropRule (p : Puz) (j : Nat) : Puz := ⟨p.doms, p.rules.take j ++ p.rules.drop (j + 1)⟩
def spWithRules : Sp := fun vs H Q _ => ∃ v p u rs, vs = [v, u] ∧ PzH H v p ∧ RusH H u rs ∧ p.rules.length + rs.length ≤ 1000 ∧ ∀ w H', Same H H' → PzH H' w (addRules p rs) → Q w H'
def spJoint : Sp := fun vs H Q _ => ∃ v p u q, vs = [v, u] ∧ PzH H v p ∧ PzH H u q ∧ p.rules.length + q.rules.length ≤ 1000 ∧ ∀ w H', Same H H' → PzH H' w (addRules p q.rules) → Q w H'
def spWithout : Sp := fun vs H Q _ => ∃ v p j, vs = [v, .int ((j : Nat) : Int)] ∧ PzH H v p ∧ j < p.rules.length ∧ p.rules.length ≤ 1000 ∧ ∀ w H', Same H H' → PzH H' w (dropRule p j) → Q w H'
/-- two tuples of rules put together -/
theorem cat_rules {K : PySem.W.Frag} {H : Hp} {x y : V} {rs ts : List Rul} (hx : RusH H x rs) (hy : RusH H y ts) (hl : rs.length + ts.length ≤ 1000) {Q : VK} (k : ∀ w H', Same H H' → RusH H' w (rs ++ ts) → Q w H') : rCatA K x y H Q := by
  obtain ⟨a, vs, rfl, ha, pa⟩ := hx
  obtain ⟨b, us, rfl, hb, pb⟩ := hy
  have l1 := pa.length
  have l2 := pb.length
  refine ⟨a, b, vs, us, rfl, rfl, sqt ha, sqt hb, by rw [sizeLine_eq]; omega, fun e => ?_, fun e1 e2 => ?_, fun e1 e2 p hp => ?_⟩
  · subst e
    cases pa
    exact k _ _ (same_refl H) ⟨b, us, rfl, hb, pb⟩
  · subst e2
    cases pb
    rw [List.append_nil] at k
    exact k _ _ (same_refl H) ⟨a, vs, rfl, ha, pa⟩
  · exact k _ _ (same_new hp) ⟨p, _, rfl, upd_same, paired_mono (fun _ _ => RuH.kt (kt_same (same_new hp))) (paired_app pa pb)⟩
def spScope : Sp := spCellsOf
section
variable {P : Program} {w : World} {K : PySem.W.Frag} {mg : Str → Option Value} {base : Heap} {f f1 f2 : Addr} {fd fd1 fd2 : FuncData}
theorem sIx_nat {n j : Nat} (d : Nat) (h : j ≤ n) : HT.sIx n d (some (j : Int)) = j := by
  unfold HT.sIx
  simp
  rw [if_neg (by omega)]
  exact Nat.min_eq_left h
/-- a part of a tuple of rules -/
theorem part_rules {K : PySem.W.Frag} {H : Hp} {x : V} {rs : List Rul} (hx : RusH H x rs) (lo hi : Option Int) {Q : VK} (k : ∀ w H', Same H H' → RusH H' w ((rs.drop (HT.sIx rs.length 0 lo)).take (HT.sIx rs.length rs.length hi - HT.sIx rs.length 0 lo)) → Q w H') : rSlA K x lo hi H Q := by
  obtain ⟨a, vs, rfl, ha, pa⟩ := hx
  have l1 : vs.length = rs.length := pa.length
  refine ⟨a, vs, rfl, sqt ha, fun e => ?_, fun e p hp => ?_⟩
  · rw [l1] at e
    have := k (.ref a) H (same_refl H)
    rw [e.1, e.2, List.drop_zero, Nat.sub_zero, List.take_length] at this
    exact this ⟨a, vs, rfl, ha, pa⟩
  · refine k _ _ (same_new hp) ⟨p, _, rfl, upd_same, ?_⟩
    unfold cutV
    rw [l1]
    exact paired_mono (fun _ _ => RuH.kt (kt_same (same_new hp))) (paired_sub _ _ pa)
end
end G9

set_option Elab.async false
set_option linter.all false
set_option maxRecDepth 100000
set_option maxHeartbeats 4000000
/-! the law's rows -/
namespace G9
open PySem PySem.Spec PyProof.Rows L2 GX
def grow (acc : List (List Int)) (d : List Int) : List (List Int) := acc.flatMap fun r => d.map fun v => r ++ [v]
def rowsOf (doms : List (List Int)) : List (List Int) := doms.foldl grow [[]]
theorem rowsOf_snoc (ds : List (List Int)) (d : List Int) : rowsOf (ds ++ [d]) = grow (rowsOf ds) d := by
  unfold rowsOf
  rw [List.foldl_append]
  rfl
theorem grow_len (acc : List (List Int)) (d : List Int) : (grow acc d).length = acc.length * d.length := by
  induction acc with
  | nil => simp [grow]
  | cons a acc ih =>
    have : grow (a :: acc) d = d.map (fun v => a ++ [v]) ++ grow acc d := rfl
    rw [this, List.length_append, ih, List.length_map, List.length_cons, Nat.succ_mul, Nat.add_comm]
theorem rowsOf_len : ∀ (n : Nat) (ds : List (List Int)), ds.length = n → (∀ d ∈ ds, d.length ≤ 4) → (rowsOf ds).length ≤ 4 ^ n
  | 0, [], _, _ => Nat.le_refl _
  | n + 1, ds, h, hd => by
    have ne : ds ≠ [] := fun z => by rw [z] at h; cases h
    have e := List.dropLast_concat_getLast ne
    have hl : ds.dropLast.length = n := by rw [List.length_dropLast, h]; rfl
    rw [← e, rowsOf_snoc, grow_len, Nat.pow_succ]
    exact Nat.mul_le_mul (rowsOf_len n _ hl fun d hm => hd d (List.dropLast_subset _ hm)) (hd _ (List.getLast_mem ne))
theorem mem_grow {acc : List (List Int)} {d : List Int} {r : List Int} : r ∈ grow acc d ↔ ∃ q ∈ acc, ∃ v ∈ d, r = q ++ [v] := by
  unfold grow
  simp only [List.mem_flatMap, List.mem_map]
  constructor
  · rintro ⟨q, hq, v, hv, e⟩
    exact ⟨q, hq, v, hv, e.symm⟩
  · rintro ⟨q, hq, v, hv, e⟩
    exact ⟨q, hq, v, hv, e.symm⟩
theorem rowsOf_each : ∀ (n : Nat) (ds : List (List Int)), ds.length = n → ∀ r ∈ rowsOf ds, r.length = n
  | 0, [], _, r, h => by
    have : r = [] := by simpa [rowsOf] using h
    rw [this]
    rfl
  | n + 1, ds, h, r, hr => by
    have ne : ds ≠ [] := fun z => by rw [z] at h; cases h
    have e := List.dropLast_concat_getLast ne
    have hl : ds.dropLast.length = n := by rw [List.length_dropLast, h]; rfl
    rw [← e, rowsOf_snoc] at hr
    obtain ⟨q, hq, v, _, rfl⟩ := mem_grow.mp hr
    rw [List.length_append, rowsOf_each n _ hl q hq]
    rfl
theorem cat_row {K : PySem.W.Frag} {H : Hp} {x : V} {T : Addr} {r : List Int} {v : Int} (hx : IH H x r) (hT : H T = some (.tup [.int v])) (hl : r.length ≤ 1000) {Q : VK} (k : ∀ w H', Same H H' → IH H' w (r ++ [v]) → Q w H') : rCatA K x (.ref T) H Q := by
  obtain ⟨a, rfl, ha⟩ := hx
  refine ⟨a, T, _, [.int v], rfl, rfl, sqt ha, sqt hT, by rw [List.length_map, sizeLine_eq]; show r.length + 1 ≤ _; omega, fun e => ?_, (fun _ e2 => nomatch e2), fun e1 _ p hp => ?_⟩
  · have : r = [] := List.map_eq_nil_iff.mp e
    subst this
    exact k _ _ (same_refl H) ⟨T, rfl, hT⟩
  · exact k _ _ (same_new hp) ⟨p, rfl, by rw [upd_same, List.map_append]; rfl⟩
def spRows : Sp := fun vs H Q _ => ∃ u doms, vs = [u] ∧ (RowsH H u doms ∨ LRows H u doms) ∧ doms.length ≤ 8 ∧ (∀ d ∈ doms, d.length ≤ 4) ∧ ∀ l H', Same H H' → H l = none → LRows H' (.ref l) (rowsOf doms) → Q (.ref l) H'
theorem pow_le {n : Nat} (h : n ≤ 8) : 4 ^ n ≤ 65536 := Nat.le_trans (Nat.pow_le_pow_right (by decide) h) (by decide)
section
variable {P : Program} {w : World} {K : PySem.W.Frag} {mg : Str → Option Value} {base : Heap} {f f1 f2 : Addr} {fd fd1 fd2 : FuncData}
end
end G9

set_option Elab.async false
set_option linter.all false
set_option maxRecDepth 100000
set_option maxHeartbeats 4000000
/-! the law's answers -/
namespace G9
open PySem PySem.Spec PyProof.Rows L2 GX
noncomputable def allFit (rules : List Rul) (row : List Int) : List Bool := rules.map fun r => fitsB r (pick row (Rul.cells r))
noncomputable def isAns (p : Puz) (row : List Int) : Bool := (allFit p.rules row).all id
noncomputable def answersOf (p : Puz) : List (List Int) := (rowsOf p.doms).filter fun row => isAns p row
def TabLen : Rul → Prop
  | .table _ rows => rows.length ≤ 65536
  | _ => True
structure PzOk (p : Puz) : Prop where
  n8 : p.doms.length ≤ 8
  d4 : ∀ d ∈ p.doms, d.length ≤ 4
  r100 : p.rules.length ≤ 100
  small : ∀ r ∈ p.rules, Small r
  tab : ∀ r ∈ p.rules, TabLen r
  some : ∀ r ∈ p.rules, Rul.cells r ≠ []
  cell : ∀ r ∈ p.rules, ∀ c ∈ Rul.cells r, 0 ≤ c ∧ c < p.doms.length
theorem PzOk.rl {p : Puz} (h : PzOk p) : (rowsOf p.doms).length ≤ 65536 := Nat.le_trans (rowsOf_len _ _ rfl h.d4) (pow_le h.n8)
theorem none_same {H H' : Hp} (sm : Same H H') {a : Addr} (h : H' a = none) : H a = none := by
  cases e : H a with
  | none => rfl
  | some o => rw [sm _ _ e] at h; cases h
theorem pick_len (row cs : List Int) : (pick row cs).length = cs.length := List.length_map ..
theorem pick_take {row cs : List Int} {i : Nat} {c : Int} (hc : cs[i]? = some c) : pick row (cs.take (i + 1)) = pick row (cs.take i) ++ [row.getD c.toNat 0] := by
  unfold pick
  rw [List.take_add_one, hc, List.map_append]
  rfl
def spLAnswers : Sp := fun vs H Q _ => ∃ u p, vs = [u] ∧ PzH H u p ∧ PzOk p ∧ ∀ l H', Same H H' → H l = none → LRows H' (.ref l) (answersOf p) → Q (.ref l) H'
section
variable {P : Program} {w : World} {K : PySem.W.Frag} {mg : Str → Option Value} {base : Heap} {f f1 f2 f3 : Addr} {fd fd1 fd2 fd3 : FuncData}
end
end G9

set_option Elab.async false
set_option linter.all false
set_option maxRecDepth 100000
set_option maxHeartbeats 4000000
/-! a def with the address of its code object -/
namespace GX
open PySem PySem.Spec PyProof.Rows L2
structure FunC (K : PySem.W.Frag) (x qual : Str) (st : Stmt) (f c : Addr) (fd : FuncData) : Prop where
  ex : ∃ (oc : Value) (od : Option Addr) (kV doc pm : Value) (an : Option Addr) (ct : Value) (osl : Array (Option Value)),
    fd = PySem.W.fnOf x qual (defArgs st) (defBody st) (defScope st) .none kV doc pm an (.ref c) ct ∧ K.lookup f = some ⟨oc, od, .func fd, osl⟩ ∧ PySem.W.codeIn K (.ref c) qual = true
  kp : PySem.W.keepIn K (.ref f) = true
theorem FunC.fun {K : PySem.W.Frag} {x qual : Str} {st : Stmt} {f c : Addr} {fd : FuncData} (F : FunC K x qual st f c fd) : Fun K x qual st f fd := by
  obtain ⟨oc, od, kV, doc, pm, an, ct, osl, h⟩ := F.ex
  exact ⟨⟨oc, od, kV, doc, pm, an, .ref c, ct, osl, h⟩, F.kp⟩
theorem funC_mk {K : PySem.W.Frag} {x qual : Str} {st : Stmt} {f c : Addr} {oc : Value} {od an : Option Addr} {osl : Array (Option Value)} {kV doc pm ct : Value} (l : K.lookup f = some ⟨oc, od, .func (PySem.W.fnOf x qual (defArgs st) (defBody st) (defScope st) .none kV doc pm an (.ref c) ct), osl⟩)
    (hc : PySem.W.codeIn K (.ref c) qual = true) (k : PySem.W.keepIn K (.ref f) = true) : FunC K x qual st f c (PySem.W.fnOf x qual (defArgs st) (defBody st) (defScope st) .none kV doc pm an (.ref c) ct) := ⟨⟨oc, od, kV, doc, pm, an, ct, osl, rfl, l, hc⟩, k⟩
theorem FunC.ok {P : Program} {w : World} {K : PySem.W.Frag} {mg : Str → Option Value} {base : Heap} {x qual : Str} {st : Stmt} {f c : Addr} {fd : FuncData} {N ps : List Str} {k : Nat} {sp : Sp} (F : FunC K x qual st f c fd) (S : FnScope N ps (defScope st)) (len : ∀ vs H Q E, sp vs H Q E → vs.length = ps.length)
    (hbody : ∀ (A : Around) (outer : List Env) (s : Shared) (H : Hp) (vs : List V) (Q : VK) (E : XK), Room k (A.deeper (envOfC qual (defScope st) s.heap.objs.size f (.ref c))) → sp vs H Q E →
      ∃ t, PSs (cxOf CX0 P w K mg base N qual (defScope st) f (.ref c) A outer s H E).nox (defBody st) t ∧ t { nx := fun _ H' => Q .non H', rt := Q } (start N vs) H) : FnOk P w K mg base CX0 (k + 1) f fd ps sp := by
  obtain ⟨oc, od, kV, doc, pm, an, ct, osl, rfl, lk, hcd⟩ := F.ex
  refine fn_of lk hcd S len fun A outer s H vs Q E hr hsp => ?_
  obtain ⟨t, h, q⟩ := hbody A outer s H vs Q E hr hsp
  exact ⟨t, h.nox, q⟩
end GX

set_option Elab.async false
set_option linter.all false
set_option maxRecDepth 100000
set_option maxHeartbeats 4000000
/-! _row_lookup, _lets, _let_by_all -/
namespace G9
open PySem PySem.Spec PyProof.Rows L2 GX
/-- a row as a key -/
def keyOf' (row : List Int) : List Key := row.map Sum.inl
theorem keyOf_kV (row : List Int) : (keyOf' row).map kV = row.map V.int := by
  unfold keyOf'
  rw [List.map_map]
  rfl
theorem keyOf_inj {a b : List Int} (h : keyOf' a = keyOf' b) : a = b := by
  unfold keyOf' at h
  exact List.map_inj_right (fun _ _ => Sum.inl.inj) |>.mp h
/-- what a table is looked up in -/
def LookH (H : Hp) (v : V) : Rul → Prop
  | .table _ rows => ∃ d kvs, v = .ref d ∧ H d = some (.dT kvs) ∧ ∀ row : List Int, valV kvs (keyOf' row) = if row ∈ rows then some (.bl true) else none
  | _ => v = .non
theorem LookH.kb {H H' : Hp} (k : Kb H H') {v : V} : ∀ {r : Rul}, LookH H v r → LookH H' v r
  | .table _ _, ⟨d, kvs, e, q, z⟩ => ⟨d, kvs, e, k.1 _ _ (fun ps z => by cases z) q, z⟩
  | .unlike _, h => h
  | .sum _ _ _, h => h
  | .count _ _ _ _, h => h
  | .below _ _, h => h
  | .runs _ _, h => h
  | .joined _ _ _, h => h
theorem lookH_or {H : Hp} {d : V} : ∀ {r : Rul}, LookH H d r → d = .non ∨ ∃ cs rows d' kvs, r = .table cs rows ∧ d = .ref d' ∧ H d' = some (.dT kvs) ∧ ∀ row : List Int, valV kvs (keyOf' row) = if row ∈ rows then some (.bl true) else none
  | .table cs rows, ⟨d', kvs, e, q, z⟩ => .inr ⟨cs, rows, d', kvs, rfl, e, q, z⟩
  | .unlike _, h => .inl h
  | .sum _ _ _, h => .inl h
  | .count _ _ _ _, h => .inl h
  | .below _ _, h => .inl h
  | .runs _ _, h => .inl h
  | .joined _ _ _, h => .inl h
def spLookup : Sp := fun vs H Q _ => ∃ v r, vs = [v] ∧ RuH H v r ∧ TabLen r ∧ ∀ w H', Same H H' → LookH H' w r → Q w H'
def spLets : Sp := fun vs H Q _ => ∃ v d u r vals, vs = [v, d, u] ∧ RuH H v r ∧ LookH H d r ∧ IH H u vals ∧ (∀ c ∈ Rul.cells r, 0 ≤ c ∧ c < vals.length) ∧ Small r ∧ ∀ H', Same H H' → Q (.bl (fitsB r (pick vals (Rul.cells r)))) H'
section
variable {P : Program} {w : World} {K : PySem.W.Frag} {mg : Str → Option Value} {base : Heap} {f f1 f2 f3 : Addr} {fd fd1 fd2 fd3 : FuncData}
/-- rules, each with what it is looked up in -/
def DueH (H : Hp) (vs : List V) (rs : List Rul) : Prop := Paired (fun x r => ∃ t rv lv, x = V.ref t ∧ H t = some (.tup [rv, lv]) ∧ RuH H rv r ∧ LookH H lv r) vs rs
theorem DueH.kb {H H' : Hp} (k : Kb H H') {vs : List V} {rs : List Rul} (h : DueH H vs rs) : DueH H' vs rs := paired_mono (fun _ _ ⟨t, rv, lv, e, q, i, j⟩ => ⟨t, rv, lv, e, kt_kb k _ _ q, i.kt (kt_kb k), j.kb k⟩) h
theorem ndGen : (["rule", "rows", "values"] : List Str).Nodup := by decide +kernel
def atOr {α β : Type} (l : List α) (g : α → β) (z : β) (i : Nat) : β := (l[i]?.map g).getD z
theorem atOr_at {α β : Type} {l : List α} {g : α → β} {z : β} {i : Nat} {a : α} (h : l[i]? = some a) : atOr l g z i = g a := by
  unfold atOr
  rw [h]
  rfl
theorem range_map {α β : Type} (l : List α) (g : α → β) (z : β) : ((List.range l.length).map (atOr l g z)) = l.map g := by
  refine List.ext_getElem (by simp) fun i h1 h2 => ?_
  have hi : i < l.length := by simpa using h2
  simp [atOr, List.getElem?_eq_getElem hi]
def spByAll (pT : Addr) : Sp := fun vs H Q _ => ∃ d ds rs u vals, vs = [.ref d, u] ∧ H d = some (.lst ds) ∧ DueH H ds rs ∧ IH H u vals ∧ (∀ r ∈ rs, Small r ∧ ∀ c ∈ Rul.cells r, 0 ≤ c ∧ c < vals.length) ∧ GxR.TabG H pT ∧ ∀ H', Kb H H' → Q (.bl (rs.all fun r => fitsB r (pick vals (Rul.cells r)))) H'
end
end G9

set_option Elab.async false
set_option linter.all false
set_option maxRecDepth 100000
set_option maxHeartbeats 4000000
/-! answers: what is found turn by turn -/
namespace G9
open PySem PySem.Spec PyProof.Rows L2 GX
theorem loopW {J : It} {n : Nat} {G : Hp → Prop} {Y : Nat → Hp → V → Hp → Prop} (w : Walk J n G Y) (Pv : Nat → Hp → Prop) {H0 : Hp} {Fin : Hp → Prop} {Tn : (Hp → Prop) → V → Hp → Prop} (h0 : Pv 0 H0) (hG : ∀ i H, i ≤ n → Pv i H → G H)
    (hs : ∀ i x H H', i < n → Pv i H → Y i H x H' → Tn (Pv (i + 1)) x H') (hd : ∀ H, Pv n H → Fin H) :
    ∃ W : Nat → Nat → Hp → Prop, (∃ m, W 0 m H0) ∧ ∀ i m H, W i m H → (J.stop i H ∧ Fin H) ∨ (J.go i H ∧ ∃ Nx : Hp → Prop, (∀ H', Nx H' → ∃ m', m' < m ∧ W (i + 1) m' H') ∧ ∀ x H', J.yld i H x H' → Tn Nx x H') := by
  refine ⟨fun i m H => m = n - i ∧ i ≤ n ∧ Pv i H, ⟨n, rfl, Nat.zero_le _, h0⟩, fun i m H ⟨em, hi, p⟩ => ?_⟩
  subst em
  by_cases hlt : i < n
  · exact .inr ⟨w.goes i H hlt (hG i H hi p), Pv (i + 1), fun H' p' => ⟨n - (i + 1), by omega, rfl, hlt, p'⟩, fun x H' y => hs i x H H' hlt p (w.yields i H x H' hlt (hG i H hi p) y)⟩
  · have e : i = n := by omega
    subst e
    exact .inl ⟨w.stops H (hG i H hi p), hd H p⟩
/-- the greatest -/
def maxL : List Int → Int
  | [] => 0
  | [a] => a
  | a :: b :: l => max a (maxL (b :: l))
theorem maxL_mem : ∀ {l : List Int}, l ≠ [] → maxL l ∈ l
  | [a], _ => List.mem_cons_self ..
  | a :: b :: l, _ => by
    unfold maxL
    rcases Int.le_total a (maxL (b :: l)) with h | h
    · rw [Int.max_eq_right h]
      exact List.mem_cons_of_mem _ (maxL_mem (by simp))
    · rw [Int.max_eq_left h]
      exact List.mem_cons_self ..
theorem maxL_ge : ∀ {l : List Int} {y : Int}, y ∈ l → y ≤ maxL l
  | [a], y, h => by rw [List.mem_singleton.mp h]; exact Int.le_refl _
  | a :: b :: l, y, h => by
    unfold maxL
    rcases List.mem_cons.mp h with z | z
    · rw [z]; exact Int.le_max_left ..
    · exact Int.le_trans (maxL_ge z) (Int.le_max_right ..)
theorem maxL_of {l : List Int} {m : Int} (h : m ∈ l) (g : ∀ y ∈ l, y ≤ m) : m = maxL l := by
  have h1 := maxL_ge h
  have h2 := g _ (maxL_mem (fun z => by rw [z] at h; cases h))
  omega
/-- all rules fit whose last cell is ahead of i -/
noncomputable def goodAt (p : Puz) (i : Nat) (row : List Int) : Bool := p.rules.all fun r => !decide (maxL (Rul.cells r) < (i : Int)) || fitsB r (pick row (Rul.cells r))
def dueAt (p : Puz) (i : Nat) : List Rul := p.rules.filter fun r => decide (maxL (Rul.cells r) = (i : Int))
noncomputable def dueFit (p : Puz) (i : Nat) (row : List Int) : Bool := (dueAt p i).all fun r => fitsB r (pick row (Rul.cells r))
noncomputable def foundAt (p : Puz) (i : Nat) : List (List Int) := (rowsOf (p.doms.take i)).filter fun row => goodAt p i row
theorem pick_ahead {q cs : List Int} {v : Int} (h : ∀ c ∈ cs, 0 ≤ c ∧ c < q.length) : pick (q ++ [v]) cs = pick q cs := by
  unfold pick
  refine List.map_congr_left fun c hc => ?_
  obtain ⟨h0, h1⟩ := h c hc
  rw [List.getD_eq_getElem?_getD, List.getD_eq_getElem?_getD, List.getElem?_append_left (by omega)]
theorem good_step {p : Puz} (ok : PzOk p) {i : Nat} {q : List Int} (hq : q.length = i) (v : Int) : goodAt p (i + 1) (q ++ [v]) = (goodAt p i q && dueFit p i (q ++ [v])) := by
  have key : ∀ r ∈ p.rules, maxL (Rul.cells r) < (i : Int) → pick (q ++ [v]) (Rul.cells r) = pick q (Rul.cells r) := fun r hr h => pick_ahead fun c hc => ⟨(ok.cell r hr c hc).1, by have := maxL_ge hc; omega⟩
  rw [Bool.eq_iff_iff, Bool.and_eq_true]
  unfold goodAt dueFit dueAt
  simp only [List.all_eq_true, List.mem_filter, decide_eq_true_eq, Bool.or_eq_true, Bool.not_eq_true', decide_eq_false_iff_not]
  constructor
  · intro h
    refine ⟨fun r hr => ?_, fun r ⟨hr, e⟩ => ?_⟩
    · by_cases z : maxL (Rul.cells r) < (i : Int)
      · rcases h r hr with w | w
        · exact absurd (show maxL (Rul.cells r) < ((i + 1 : Nat) : Int) by omega) w
        · rw [key r hr z] at w
          exact .inr w
      · exact .inl z
    · rcases h r hr with w | w
      · exact absurd (show maxL (Rul.cells r) < ((i + 1 : Nat) : Int) by omega) w
      · exact w
  · rintro ⟨h1, h2⟩ r hr
    by_cases z : maxL (Rul.cells r) < (i : Int)
    · rcases h1 r hr with w | w
      · exact absurd z w
      · rw [← key r hr z] at w
        exact .inr w
    · by_cases e : maxL (Rul.cells r) = (i : Int)
      · exact .inr (h2 r ⟨hr, e⟩)
      · exact .inl (by omega)
theorem grow_filter (A : List (List Int)) (d : List Int) (f g h : List Int → Bool) (H : ∀ q ∈ A, ∀ v ∈ d, h (q ++ [v]) = (f q && g (q ++ [v]))) : (grow (A.filter f) d).filter g = (grow A d).filter h := by
  induction A with
  | nil => rfl
  | cons a A ih =>
    have ihA := ih fun q hq => H q (List.mem_cons_of_mem _ hq)
    have e : ∀ (B : List (List Int)) (b : List Int), grow (b :: B) d = d.map (fun v => b ++ [v]) ++ grow B d := fun _ _ => rfl
    have one : (d.map fun v => a ++ [v]).filter h = if f a = true then (d.map fun v => a ++ [v]).filter g else [] := by
      by_cases fa : f a = true
      · rw [if_pos fa]
        refine List.filter_congr fun x hx => ?_
        obtain ⟨v, hv, rfl⟩ := List.mem_map.mp hx
        rw [H a (List.mem_cons_self ..) v hv, fa, Bool.true_and]
      · rw [if_neg fa]
        refine List.filter_eq_nil_iff.mpr fun x hx => ?_
        obtain ⟨v, hv, rfl⟩ := List.mem_map.mp hx
        rw [H a (List.mem_cons_self ..) v hv]
        simp [fa]
    by_cases fa : f a = true
    · rw [List.filter_cons_of_pos fa, e, e, List.filter_append, List.filter_append, ihA, one, if_pos fa]
    · rw [List.filter_cons_of_neg fa, e, List.filter_append, ihA, one, if_neg fa, List.nil_append]
theorem found_step {p : Puz} (ok : PzOk p) {i : Nat} {d : List Int} (hd : p.doms[i]? = some d) : foundAt p (i + 1) = (grow (foundAt p i) d).filter fun row => dueFit p i row := by
  have tk : p.doms.take (i + 1) = p.doms.take i ++ [d] := by rw [List.take_add_one, hd]; rfl
  have hi : i < p.doms.length := (List.getElem?_eq_some_iff.mp hd).1
  unfold foundAt
  rw [tk, rowsOf_snoc]
  refine (grow_filter _ _ _ _ _ fun q hq v hv => ?_).symm
  have hl := rowsOf_each _ (p.doms.take i) rfl q hq
  rw [List.length_take] at hl
  exact good_step ok (by omega) v
theorem found_start (p : Puz) (ok : PzOk p) : foundAt p 0 = [[]] := by
  unfold foundAt
  rw [List.take_zero]
  have : goodAt p 0 [] = true := by
    unfold goodAt
    rw [List.all_eq_true]
    intro r hr
    have := (ok.cell r hr _ (maxL_mem (ok.some r hr))).1
    simp
    exact .inl this
  show ([[]] : List (List Int)).filter _ = _
  simp [this]
theorem found_end (p : Puz) (ok : PzOk p) : foundAt p p.doms.length = answersOf p := by
  unfold foundAt answersOf
  rw [List.take_length]
  refine List.filter_congr fun row _ => ?_
  unfold goodAt isAns allFit
  rw [List.all_map]
  rw [Bool.eq_iff_iff]
  simp only [List.all_eq_true, Function.comp, id]
  refine forall_congr' fun r => forall_congr' fun hr => ?_
  have := (ok.cell r hr _ (maxL_mem (ok.some r hr))).2
  simp [this]
theorem rows_empty : ∀ (n : Nat) (ds : List (List Int)), ds.length = n → [] ∈ ds → rowsOf ds = []
  | 0, [], _, h => by cases h
  | n + 1, ds, h, hm => by
    have ne : ds ≠ [] := fun z => by rw [z] at h; cases h
    have e := List.dropLast_concat_getLast ne
    have hl : ds.dropLast.length = n := by rw [List.length_dropLast, h]; rfl
    rw [← e, rowsOf_snoc]
    rw [← e] at hm
    rcases List.mem_append.mp hm with z | z
    · rw [rows_empty n _ hl z]
      rfl
    · rw [← List.mem_singleton.mp z]
      unfold grow
      simp
theorem found_len {p : Puz} (ok : PzOk p) (i : Nat) (hi : i ≤ p.doms.length) : (foundAt p i).length ≤ 65536 := by
  refine Nat.le_trans (List.length_filter_le _ _) (Nat.le_trans (rowsOf_len _ _ rfl fun d hd => ok.d4 d (List.take_subset _ _ hd)) (pow_le ?_))
  rw [List.length_take]
  have := ok.n8
  omega
theorem found_each {p : Puz} (ok : PzOk p) {i : Nat} (hi : i ≤ p.doms.length) {r : List Int} (h : r ∈ foundAt p i) : r.length = i := by
  have := rowsOf_each _ (p.doms.take i) rfl r (List.mem_filter.mp h).1
  rw [List.length_take] at this
  omega
end G9

set_option Elab.async false
set_option linter.all false
set_option maxRecDepth 100000
set_option maxHeartbeats 4000000
/-! answers -/
namespace G9
open PySem PySem.Spec PyProof.Rows L2 GX
theorem maxK (K : PySem.W.Frag) {X : Cx} (hc : X.calm = true) (h : X.K = K := by rfl) : CallR X (.builtin "max") (fun vs H Q => ∃ (a : Addr) (ns : List Int), vs = [V.ref a] ∧ SqT K H a (ns.map V.int) ∧ 0 < ns.length ∧ ∀ m, m ∈ ns → (∀ y, y ∈ ns → y ≤ m) → Q (.int m) H) := h ▸ cr_maxT hc
/-- all but the object at L and the tables stays -/
def KbX (L : Addr) (H H' : Hp) : Prop := (∀ b o, b ≠ L → (∀ ps, o ≠ .tbl ps) → H b = some o → H' b = some o) ∧ ∀ P, GxR.TabG H P → GxR.TabG H' P
theorem KbX.begin {L : Addr} {H : Hp} {o : HO} (h : H L = none) : KbX L H (upd H L o) := ⟨fun b o' hb _ e => by rw [upd_ne hb]; exact e, fun P ⟨ps, e, t⟩ => ⟨ps, upd_at h e, t⟩⟩
theorem KbX.then {L : Addr} {A B C : Hp} (h : KbX L A B) (g : Kb B C) : KbX L A C := ⟨fun b o hb n e => g.1 b o n (h.1 b o hb n e), fun P e => g.2 P (h.2 P e)⟩
theorem KbX.put {L : Addr} {A B : Hp} {o xs : _} (h : KbX L A B) (hL : B L = some (.lst xs)) : KbX L A (upd B L (.lst o)) := ⟨fun b o' hb n e => by rw [upd_ne hb]; exact h.1 b o' hb n e, fun P e => by
  obtain ⟨ps, e2, t⟩ := h.2 P e
  exact ⟨ps, by rw [upd_ne (fun z => by rw [z, hL] at e2; cases e2)]; exact e2, t⟩⟩
theorem KbX.kb {L : Addr} {A B : Hp} (h : KbX L A B) (hL : A L = none) : Kb A B := ⟨fun b o n e => h.1 b o (fun z => by rw [z, hL] at e; cases e) n e, h.2⟩
theorem ktL {H : Hp} {L : Addr} {xs ys : List V} (h : H L = some (.lst xs)) : Kt H (upd H L (.lst ys)) := fun b zs e => by
  rw [upd_ne (fun z => by rw [z, h] at e; cases e)]
  exact e
def spAnswers (pT : Addr) : Sp := fun vs H Q _ => ∃ u p, vs = [u] ∧ PzH H u p ∧ PzOk p ∧ GxR.TabG H pT ∧ ∀ w H', Kb H H' → RowsH H' w (answersOf p) → Q w H'
section
variable {P : Program} {w : World} {K : PySem.W.Frag} {mg : Str → Option Value} {base : Heap} {f f1 f2 f3 : Addr} {fd fd1 fd2 fd3 : FuncData}
end
end G9

set_option Elab.async false
set_option linter.all false
set_option maxRecDepth 100000
set_option maxHeartbeats 4000000
/-! answer_count, first_answer; cut_to, narrowed -/
namespace G9
open PySem PySem.Spec PyProof.Rows L2 GX
/-- each domain changed by its number -/
def idxMap (g : Nat → List Int → List Int) : Nat → List (List Int) → List (List Int)
  | _, [] => []
  | k, d :: ds => g k d :: idxMap g (k + 1) ds
theorem idxMap_snoc (g : Nat → List Int → List Int) : ∀ (k : Nat) (ds : List (List Int)) (d : List Int), idxMap g k (ds ++ [d]) = idxMap g k ds ++ [g (k + ds.length) d]
  | k, [], d => rfl
  | k, e :: ds, d => by
    show g k e :: idxMap g (k + 1) (ds ++ [d]) = g k e :: idxMap g (k + 1) ds ++ [g (k + (ds.length + 1)) d]
    rw [idxMap_snoc g (k + 1) ds d, show k + 1 + ds.length = k + (ds.length + 1) by omega]
    rfl
theorem idxMap_len (g : Nat → List Int → List Int) : ∀ (k : Nat) (ds : List (List Int)), (idxMap g k ds).length = ds.length
  | k, [] => rfl
  | k, e :: ds => congrArg (· + 1) (idxMap_len g (k + 1) ds)
def valOf (f : List (Int × Int)) (c : Int) : Option Int := (f.find? fun p => decide (p.1 = c)).map (·.2)
def cutD (f : List (Int × Int)) (c : Nat) (d : List Int) : List Int := match valOf f (c : Int) with
  | some v => [v]
  | none => d
def cutP (p : Puz) (f : List (Int × Int)) : Puz := ⟨idxMap (cutD f) 0 p.doms, p.rules⟩
def nar1 (kept : List (List Int)) (c : Nat) (d : List Int) : List Int := d.filter fun v => decide (v ∈ kept.getD c [])
def narP (p : Puz) (kept : List (List Int)) : Puz := ⟨idxMap (nar1 kept) 0 p.doms, p.rules⟩
def spCut : Sp := fun vs H Q _ => ∃ u p fv f, vs = [u, fv] ∧ PzH H u p ∧ RowsH H fv (f.map tie2) ∧ (f.map (·.1)).Nodup ∧ f.length ≤ 1000 ∧ p.doms.length ≤ 1000 ∧ ∀ w H', Same H H' → PzH H' w (cutP p f) → Q w H'
def spNar : Sp := fun vs H Q _ => ∃ u p kv kept, vs = [u, kv] ∧ PzH H u p ∧ RowsH H kv kept ∧ kept.length = p.doms.length ∧ p.doms.length ≤ 1000 ∧ (∀ d ∈ p.doms, d.length ≤ 1000) ∧ ∀ w H', Same H H' → PzH H' w (narP p kept) → Q w H'
def spCount (pT : Addr) : Sp := fun vs H Q _ => ∃ u p, vs = [u] ∧ PzH H u p ∧ PzOk p ∧ GxR.TabG H pT ∧ ∀ H', Kb H H' → Q (.int ((answersOf p).length : Nat)) H'
def spFirst (pT : Addr) : Sp := fun vs H Q _ => ∃ u p, vs = [u] ∧ PzH H u p ∧ PzOk p ∧ GxR.TabG H pT ∧ ∀ w H', Kb H H' → (match answersOf p with | [] => w = .non | r :: _ => IH H' w r) → Q w H'
/-- what is given, as a dict under way -/
def GivH (H : Hp) (kvs : List (Key × V)) (f : List (Int × Int)) : Prop := Paired (fun kv p => kv.1 = .inl p.1 ∧ IH H kv.2 [p.2]) kvs f
theorem giv_val {H : Hp} : ∀ {kvs : List (Key × V)} {f : List (Int × Int)}, GivH H kvs f → ∀ c : Int, (valV kvs (.inl c) = none ∧ valOf f c = none) ∨ ∃ x v, valV kvs (.inl c) = some x ∧ valOf f c = some v ∧ IH H x [v]
  | _, _, .nil, c => .inl ⟨rfl, rfl⟩
  | (_, x) :: kvs, p :: f, .cons ⟨e, i⟩ r, c => by
    cases e
    by_cases h : p.1 = c
    · subst h
      exact .inr ⟨x, p.2, valV_pos rfl, by unfold valOf; rw [List.find?_cons_of_pos (by simp)]; rfl, i⟩
    · have e1 : valV (((Sum.inl p.1 : Key), x) :: kvs) (.inl c) = valV kvs (.inl c) := valV_neg (fun z => h (Sum.inl.inj z))
      have e2 : valOf (p :: f) c = valOf f c := by unfold valOf; rw [List.find?_cons_of_neg (by simp [h])]
      rw [e1, e2]
      exact giv_val r c
theorem giv_none {H : Hp} {kvs : List (Key × V)} {f : List (Int × Int)} (h : GivH H kvs f) {c : Int} (hc : c ∉ f.map (·.1)) : valV kvs (.inl c) = none := by
  rcases giv_val h c with z | ⟨x, v, _, z, _⟩
  · exact z.1
  · unfold valOf at z
    cases e : f.find? (fun p => decide (p.1 = c)) with
    | none => rw [e] at z; cases z
    | some q =>
      have := List.find?_some e
      have hm := List.mem_of_find?_eq_some e
      exact absurd (List.mem_map.mpr ⟨q, hm, by simpa using this⟩) hc
section
variable {P : Program} {w : World} {K : PySem.W.Frag} {mg : Str → Option Value} {base : Heap} {f f1 f2 f3 : Addr} {fd fd1 fd2 fd3 : FuncData} {pT : Addr}
end
end G9

set_option Elab.async false
set_option linter.all false
set_option maxRecDepth 100000
set_option maxHeartbeats 4000000
/-! answers_with, is_forced; _moved, beside -/
namespace G9
open PySem PySem.Spec PyProof.Rows L2 GX
def moveR (by' : Int) : Rul → Rul
  | .table cs rows => .table (cs.map (· + by')) rows
  | .unlike cs => .unlike (cs.map (· + by'))
  | .sum cs lo hi => .sum (cs.map (· + by')) lo hi
  | .count cs vs lo hi => .count (cs.map (· + by')) vs lo hi
  | .below a b => .below (a + by') (b + by')
  | .runs cs ls => .runs (cs.map (· + by')) ls
  | .joined cs ties vs => .joined (cs.map (· + by')) (ties.map fun p => (p.1 + by', p.2 + by')) vs
def besideP (p q : Puz) : Puz := ⟨p.doms ++ q.doms, p.rules ++ q.rules.map (moveR (p.doms.length : Int))⟩
theorem cells_move (b : Int) (r : Rul) : Rul.cells (moveR b r) = (Rul.cells r).map (· + b) := by cases r <;> rfl
theorem idxMap_mem (g : Nat → List Int → List Int) : ∀ (k : Nat) (ds : List (List Int)) (e : List Int), e ∈ idxMap g k ds → ∃ j d, d ∈ ds ∧ e = g j d
  | k, [], e, h => by cases h
  | k, d :: ds, e, h => by
    rcases List.mem_cons.mp h with z | z
    · exact ⟨k, d, List.mem_cons_self .., z⟩
    · obtain ⟨j, d', hd, e'⟩ := idxMap_mem g (k + 1) ds e z
      exact ⟨j, d', List.mem_cons_of_mem _ hd, e'⟩
theorem ok_cutP {p : Puz} (ok : PzOk p) (f : List (Int × Int)) : PzOk (cutP p f) where
  n8 := by show (idxMap _ 0 p.doms).length ≤ 8; rw [idxMap_len]; exact ok.n8
  d4 := fun d hd => by
    obtain ⟨j, d', hd', rfl⟩ := idxMap_mem _ _ _ _ hd
    unfold cutD
    split
    · exact (by decide : 1 ≤ 4)
    · exact ok.d4 d' hd'
  r100 := ok.r100
  small := ok.small
  tab := ok.tab
  some := ok.some
  cell := fun r hr c hc => by show 0 ≤ c ∧ c < ((idxMap _ 0 p.doms).length : Int); rw [idxMap_len]; exact ok.cell r hr c hc
theorem ok_narP {p : Puz} (ok : PzOk p) (kept : List (List Int)) : PzOk (narP p kept) where
  n8 := by show (idxMap _ 0 p.doms).length ≤ 8; rw [idxMap_len]; exact ok.n8
  d4 := fun d hd => by
    obtain ⟨j, d', hd', rfl⟩ := idxMap_mem _ _ _ _ hd
    exact Nat.le_trans (List.length_filter_le _ _) (ok.d4 d' hd')
  r100 := ok.r100
  small := ok.small
  tab := ok.tab
  some := ok.some
  cell := fun r hr c hc => by show 0 ≤ c ∧ c < ((idxMap _ 0 p.doms).length : Int); rw [idxMap_len]; exact ok.cell r hr c hc
def spAnsWith (pT : Addr) : Sp := fun vs H Q _ => ∃ u p fv f, vs = [u, fv] ∧ PzH H u p ∧ PzOk p ∧ RowsH H fv (f.map tie2) ∧ (f.map (·.1)).Nodup ∧ f.length ≤ 1000 ∧ GxR.TabG H pT ∧ ∀ w H', Kb H H' → RowsH H' w (answersOf (cutP p f)) → Q w H'
def spForced (pT : Addr) : Sp := fun vs H Q _ => ∃ u p fv f, vs = [u, fv] ∧ PzH H u p ∧ PzOk p ∧ RowsH H fv (f.map tie2) ∧ (f.map (·.1)).Nodup ∧ f.length ≤ 1000 ∧ GxR.TabG H pT ∧ ∀ H', Kb H H' → Q (.bl (decide ((answersOf (cutP p f)).length = (answersOf p).length))) H'
def spMoved : Sp := fun vs H Q _ => ∃ v r b, vs = [v, .int b] ∧ RuH H v r ∧ Small r ∧ ∀ w H', Same H H' → RuH H' w (moveR b r) → Q w H'
def spBeside : Sp := fun vs H Q _ => ∃ u p v q, vs = [u, v] ∧ PzH H u p ∧ PzH H v q ∧ p.doms.length + q.doms.length ≤ 1000 ∧ p.rules.length + q.rules.length ≤ 1000 ∧ (∀ r ∈ q.rules, Small r) ∧ ∀ w H', Same H H' → PzH H' w (besideP p q) → Q w H'
theorem cat_rows {K : PySem.W.Frag} {H : Hp} {x y : V} {rs ts : List (List Int)} (hx : RowsH H x rs) (hy : RowsH H y ts) (hl : rs.length + ts.length ≤ 1000) {Q : VK} (k : ∀ w H', Same H H' → RowsH H' w (rs ++ ts) → Q w H') : rCatA K x y H Q := by
  obtain ⟨a, vs, rfl, ha, pa⟩ := hx
  obtain ⟨b, us, rfl, hb, pb⟩ := hy
  have l1 := pa.length
  have l2 := pb.length
  refine ⟨a, b, vs, us, rfl, rfl, sqt ha, sqt hb, by rw [sizeLine_eq]; omega, fun e => ?_, fun e1 e2 => ?_, fun e1 e2 p hp => ?_⟩
  · subst e
    cases pa
    exact k _ _ (same_refl H) ⟨b, us, rfl, hb, pb⟩
  · subst e2
    cases pb
    rw [List.append_nil] at k
    exact k _ _ (same_refl H) ⟨a, vs, rfl, ha, pa⟩
  · exact k _ _ (same_new hp) ⟨p, _, rfl, upd_same, paired_mono (fun _ _ => IH.kt (kt_same (same_new hp))) (paired_app pa pb)⟩
theorem tail_cat {K : PySem.W.Frag} {H : Hp} {a T1 : Addr} {wd x c' : V} {rest : List V} (ha : H a = some (.tup (wd :: x :: rest))) (h1 : H T1 = some (.tup [wd, c'])) (hl : rest.length ≤ 1000) {Q : VK} (k : ∀ t H', Same H H' → H' t = some (.tup (wd :: c' :: rest)) → Q (.ref t) H') : rSlA K (.ref a) (some 2) none H fun z H2 => rCatA K (.ref T1) z H2 Q := by
  have e1 : HT.sIx (wd :: x :: rest).length 0 (some 2) = 2 := sIx_nat (n := (wd :: x :: rest).length) (j := 2) 0 (by simp)
  have e2 : HT.sIx (wd :: x :: rest).length (wd :: x :: rest).length none = (wd :: x :: rest).length := rfl
  refine ⟨a, _, rfl, sqt ha, fun e => ?_, fun e p hp => ?_⟩
  · rw [e1] at e
    exact absurd e.1 (by decide)
  · have ec : cutV (wd :: x :: rest) (some 2) none = rest := by
      unfold cutV
      rw [e1, e2]
      show rest.take _ = rest
      exact List.take_of_length_le (by simp)
    rw [ec]
    refine ⟨T1, p, [wd, c'], rest, rfl, rfl, sqt (upd_at hp h1), sqt upd_same, by show 2 + rest.length ≤ _; rw [sizeLine_eq]; omega, (fun e => nomatch e), fun _ er => ?_, fun _ _ q hq => ?_⟩
    · subst er
      exact k _ _ (same_new hp) (upd_at hp h1)
    · exact k _ _ (fun b o e => upd_at hq (upd_at hp e)) upd_same
section
variable {P : Program} {w : World} {K : PySem.W.Frag} {mg : Str → Option Value} {base : Heap} {f f1 f2 f3 : Addr} {fd fd1 fd2 fd3 : FuncData} {pT : Addr}
end
end G9

set_option Elab.async false
set_option linter.all false
set_option maxRecDepth 100000
set_option maxHeartbeats 4000000
/-! free_cells -/
namespace G9
open PySem PySem.Spec PyProof.Rows L2 GX
theorem anyK (K : PySem.W.Frag) {X : Cx} (hc : X.calm = true) (h : X.K = K := by rfl) : CallR X (.builtin "any") (rAny K) := h ▸ cr_any hc
theorem allK (K : PySem.W.Frag) {X : Cx} (hc : X.calm = true) (h : X.K = K := by rfl) : CallR X (.builtin "all") (rAll K) := h ▸ cr_all hc
noncomputable def isFree (p : Puz) (row : List Int) (c : Nat) : Bool := (answersOf p).any fun o => decide (o.getD c 0 ≠ row.getD c 0)
noncomputable def freeOf (p : Puz) (row : List Int) : List Nat := (List.range row.length).filter fun c => isFree p row c
def nI (l : List Nat) : List Int := l.map fun c => ((c : Nat) : Int)
def spFree (pT : Addr) : Sp := fun vs H Q _ => ∃ u p v row, vs = [u, v] ∧ PzH H u p ∧ PzOk p ∧ IH H v row ∧ row.length = p.doms.length ∧ GxR.TabG H pT ∧ ∀ w H', Kb H H' → IH H' w (nI (freeOf p row)) → Q w H'
theorem ans_len {p : Puz} {o : List Int} (h : o ∈ answersOf p) : o.length = p.doms.length := rowsOf_each _ _ rfl o (List.mem_filter.mp h).1
theorem ans_65 {p : Puz} (ok : PzOk p) : (answersOf p).length ≤ 65536 := Nat.le_trans (List.length_filter_le _ _) ok.rl
section
variable {P : Program} {w : World} {K : PySem.W.Frag} {mg : Str → Option Value} {base : Heap} {f f1 f2 f3 : Addr} {fd fd1 fd2 fd3 : FuncData} {pT : Addr}
end
end G9

set_option Elab.async false
set_option linter.all false
set_option maxRecDepth 100000
set_option maxHeartbeats 4000000
namespace G9
open PySem PySem.Spec PyProof.Rows L2 GX
/-- the source's dict -/
def srcK (cs : Addr) (l m t : Int) : List (Key × V) := [(.inr "cells", .ref cs), (.inr "left", .int l), (.inr "mixed", .int m), (.inr "turn", .int t)]
theorem kne (a b : Str) (h : ¬ a = b) : ¬ ((Sum.inr a : Key) = Sum.inr b) := fun e => h (Sum.inr.inj e)
theorem src_cells (cs : Addr) (l m t : Int) : valV (srcK cs l m t) (.inr "cells") = some (.ref cs) := valV_pos rfl
theorem src_left (cs : Addr) (l m t : Int) : valV (srcK cs l m t) (.inr "left") = some (.int l) := (valV_neg (kne _ _ (by decide +kernel))).trans (valV_pos rfl)
theorem src_mixed (cs : Addr) (l m t : Int) : valV (srcK cs l m t) (.inr "mixed") = some (.int m) := (valV_neg (kne _ _ (by decide +kernel))).trans ((valV_neg (kne _ _ (by decide +kernel))).trans (valV_pos rfl))
theorem src_turn (cs : Addr) (l m t : Int) : valV (srcK cs l m t) (.inr "turn") = some (.int t) := (valV_neg (kne _ _ (by decide +kernel))).trans ((valV_neg (kne _ _ (by decide +kernel))).trans ((valV_neg (kne _ _ (by decide +kernel))).trans (valV_pos rfl)))
theorem any_key {kvs : List (Key × V)} {k : Key} {v : V} (h : valV kvs k = some v) : (kvs.any fun kv => decide (kv.1 = k)) = true := by
  induction kvs with
  | nil => cases h
  | cons p r ih =>
    rw [List.any_cons]
    by_cases e : p.1 = k
    · rw [decide_eq_true e, Bool.true_or]
    · rw [valV_neg e] at h
      rw [ih h, Bool.or_true]
theorem put_left (cs : Addr) (l m t l2 : Int) : putK (srcK cs l m t) (.inr "left") (.int l2) = srcK cs l2 m t := by
  unfold putK
  rw [if_pos (any_key (src_left cs l m t))]
  show [if (Sum.inr ("cells" : Str) : Key) = Sum.inr ("left" : Str) then _ else _, if (Sum.inr ("left" : Str) : Key) = Sum.inr ("left" : Str) then _ else _, if (Sum.inr ("mixed" : Str) : Key) = Sum.inr ("left" : Str) then _ else _, if (Sum.inr ("turn" : Str) : Key) = Sum.inr ("left" : Str) then _ else _] = _
  rw [if_neg (kne _ _ (by decide +kernel)), if_pos rfl, if_neg (kne _ _ (by decide +kernel)), if_neg (kne _ _ (by decide +kernel))]
  all_goals rfl
abbrev kq (x : Str) : Key := Sum.inr x
theorem merge_src (cs : Addr) (l m t : Int) : mergeK [] (srcK cs l m t) = srcK cs l m t := by
  show putK (putK (putK (putK [] (kq "cells") (.ref cs)) (kq "left") (.int l)) (kq "mixed") (.int m)) (kq "turn") (.int t) = _
  rw [putK_new (kvs := []) (k := kq "cells") _ rfl]
  show putK (putK (putK [(kq "cells", V.ref cs)] (kq "left") (.int l)) (kq "mixed") (.int m)) (kq "turn") (.int t) = _
  rw [putK_new (kvs := [(kq "cells", V.ref cs)]) (k := kq "left") _ (valV_neg (kne _ _ (by decide +kernel)))]
  show putK (putK [(kq "cells", V.ref cs), (kq "left", .int l)] (kq "mixed") (.int m)) (kq "turn") (.int t) = _
  rw [putK_new (kvs := [(kq "cells", V.ref cs), (kq "left", .int l)]) (k := kq "mixed") _ ((valV_neg (kne _ _ (by decide +kernel))).trans (valV_neg (kne _ _ (by decide +kernel))))]
  show putK [(kq "cells", V.ref cs), (kq "left", .int l), (kq "mixed", .int m)] (kq "turn") (.int t) = _
  rw [putK_new (kvs := [(kq "cells", V.ref cs), (kq "left", .int l), (kq "mixed", .int m)]) (k := kq "turn") _ ((valV_neg (kne _ _ (by decide +kernel))).trans ((valV_neg (kne _ _ (by decide +kernel))).trans (valV_neg (kne _ _ (by decide +kernel)))))]
  rfl
theorem put_turn (cs : Addr) (l m t t2 : Int) : putK (srcK cs l m t) (.inr "turn") (.int t2) = srcK cs l m t2 := by
  unfold putK
  rw [if_pos (any_key (src_turn cs l m t))]
  show [if (Sum.inr ("cells" : Str) : Key) = Sum.inr ("turn" : Str) then _ else _, if (Sum.inr ("left" : Str) : Key) = Sum.inr ("turn" : Str) then _ else _, if (Sum.inr ("mixed" : Str) : Key) = Sum.inr ("turn" : Str) then _ else _, if (Sum.inr ("turn" : Str) : Key) = Sum.inr ("turn" : Str) then _ else _] = _
  rw [if_neg (kne _ _ (by decide +kernel)), if_neg (kne _ _ (by decide +kernel)), if_neg (kne _ _ (by decide +kernel)), if_pos rfl]
  all_goals rfl
/-- the source at d, its cells at cs -/
def SrcAt (H : Hp) (d cs : Addr) : Prop := ∃ (zs : List Int) (l m t : Int), H d = some (.dK (srcK cs l m t)) ∧ H cs = some (.lst (zs.map V.int)) ∧ zs.length ≤ 100 ∧ (∀ z ∈ zs, 0 ≤ z) ∧ 0 ≤ l ∧ 0 ≤ m ∧ 0 ≤ t
def spOpen (K : PySem.W.Frag) : Sp := fun vs H Q _ => ∃ (a : Addr) (ns : List Int), vs = [.ref a] ∧ SqL K H a (ns.map V.int) ∧ ns.length ≤ 63 ∧ ∀ d cs H', Same H H' → H d = none → H cs = none → SrcAt H' d cs → Q (.ref d) H'
def spPick : Sp := fun vs H Q _ => ∃ (d cs : Addr) (most : Int), vs = [.ref d, .int most] ∧ SrcAt H d cs ∧ most < 1073741824 ∧
  ∀ r H', (most < 2 → r = 0) → (2 ≤ most → 0 ≤ r ∧ r < most) → SrcAt H' d cs → (∀ b o, b ≠ d → b ≠ cs → H b = some o → H' b = some o) → Q (.int r) H'
section
variable {H : Hp} {d cs : Addr} {l m t : Int}
theorem g_cells (hd : H d = some (.dK (srcK cs l m t))) : DGet H d (.str "cells") (some (.ref cs)) := by
  have := DGet.k (k := (Sum.inr "cells" : Key)) hd
  rw [src_cells] at this
  exact this
theorem g_left (hd : H d = some (.dK (srcK cs l m t))) : DGet H d (.str "left") (some (.int l)) := by
  have := DGet.k (k := (Sum.inr "left" : Key)) hd
  rw [src_left] at this
  exact this
theorem g_mixed (hd : H d = some (.dK (srcK cs l m t))) : DGet H d (.str "mixed") (some (.int m)) := by
  have := DGet.k (k := (Sum.inr "mixed" : Key)) hd
  rw [src_mixed] at this
  exact this
theorem g_turn (hd : H d = some (.dK (srcK cs l m t))) : DGet H d (.str "turn") (some (.int t)) := by
  have := DGet.k (k := (Sum.inr "turn" : Key)) hd
  rw [src_turn] at this
  exact this
theorem p_left (l2 : Int) (hd : H d = some (.dK (srcK cs l m t))) : DPut H d (.str "left") (.int l2) (upd H d (.dK (srcK cs l2 m t))) := by
  have := DPut.k (k := (Sum.inr "left" : Key)) (v := .int l2) hd (by show 4 < sizeLine; decide)
  rw [put_left] at this
  exact this
theorem p_turn (t2 : Int) (hd : H d = some (.dK (srcK cs l m t))) : DPut H d (.str "turn") (.int t2) (upd H d (.dK (srcK cs l m t2))) := by
  have := DPut.k (k := (Sum.inr "turn" : Key)) (v := .int t2) hd (by show 4 < sizeLine; decide)
  rw [put_turn] at this
  exact this
end
structure TxtO (K : PySem.W.Frag) (mg : Str → Option Value) (fOpen fPick : Addr) (dOpen dPick : FuncData) : Prop where
  FOpen : Fun K "_law_open_cells" "_law_open_cells" sOpen fOpen dOpen
  bOpen : Binds K dOpen ["_law_script"] []
  gOpen : mg "_law_open_cells" = some (.ref fOpen)
  FPick : Fun K "_law_pick" "_law_pick" sPick fPick dPick
  bPick : Binds K dPick ["_law_source", "_law_most"] []
  gPick : mg "_law_pick" = some (.ref fPick)
  abs : mg "abs" = none
  int : mg "int" = none
  len : mg "len" = none
section
variable {P : Program} {w : World} {K : PySem.W.Frag} {mg : Str → Option Value} {base : Heap} {fOpen fPick : Addr} {dOpen dPick : FuncData}
theorem ok_pick (T : TxtO K mg fOpen fPick dOpen dPick) : FnOk P w K mg base CX0 1 fPick dPick ["_law_source", "_law_most"] spPick := by
  refine T.FPick.ok scPick (fun vs H Q E h => ?_) (fun cdv A outer s H vs Q E hr h => ?_)
  · obtain ⟨d, cs, most, rfl, _⟩ := h
    rfl
  · obtain ⟨d, cs, most, rfl, ⟨zs, l, m, t, hd, hcs, hzl, hz, hl, hm, ht⟩, hmo, k⟩ := h
    have hu := hu_of hr
    have ncd : cs ≠ d := ne_of hcs hd (by intro z; cases z)
    refine ⟨_, pss_cons (ps_if (pt_cmpR op_lt (pv 1) pe_int (nomark _)) (pss_one (ps_ret pe_int)) pss_nil)
      (pss_cons (ps_set (i := 2) scPick.nd rfl (.inl rfl) (pe_dget hu (pv 0) pe_str (fun _ _ => rfl)))
      (pss_cons (ps_while PassesOwn.never (pw_and (pt_cmpR op_lt (pe_dget hu (pv 0) pe_str (fun _ _ => rfl)) pe_int (nomark _)) (pw_and1 (pt_cmpR op_gt (pe_callB call_len_seq (by rfl) T.len PySem.boot_len (pa_cons (pv 2) pa_nil)) pe_int (nomark _)))).pt
        (pss_one (ps_dput hu (pv 0) pe_str (pe_bm0 PySem.F.plainAttrs_list PySem.F.slot_list_pop PySem.F.type_list_pop mt_pop (pv 2)) rfl)))
      (pss_cons (ps_set (i := 3) scPick.nd rfl (.inl rfl) (pe_dget hu (pv 0) pe_str (fun _ _ => rfl)))
      (pss_cons (ps_if (pt_cmpR op_gt (pv 3) pe_int (nomark _))
        (pss_cons (ps_dput hu (pv 0) pe_str (pe_op op_fdiv (pv 3) (pv 1)) rfl)
        (pss_one (ps_ret (pe_op op_mod (pe_callTy call_int1 (by rfl) T.int PyProof.Rows.boot_int (pa_cons (pv 3) pa_nil)) (pv 1))))) pss_nil)
      (pss_cons (ps_dput hu (pv 0) pe_str (pe_op op_add (pe_dget hu (pv 0) pe_str (fun _ _ => rfl)) pe_int) rfl)
      (pss_cons (ps_set (i := 4) scPick.nd rfl (.inl rfl) (pe_dget hu (pv 0) pe_str (fun _ _ => rfl)))
      (pss_cons (ps_set (i := 5) scPick.nd rfl (.inl rfl) (pe_op op_mod (pe_callTy call_int1 (by rfl) T.int PyProof.Rows.boot_int (pa_cons (pe_op op_add (pe_dget hu (pv 0) pe_str (fun _ _ => rfl)) (pe_op op_mul (pv 4) pe_int)) pa_nil)) pe_int))
      (pss_cons (ps_set (i := 5) scPick.nd rfl (.inl rfl) (pe_op op_mod (pe_callTy call_int1 (by rfl) T.int PyProof.Rows.boot_int (pa_cons (pe_op op_add (pe_op op_mul (pv 5) (pv 5)) (pe_op op_mul (pv 4) pe_int)) pa_nil)) pe_int))
      (pss_one (ps_ret (pe_op op_mod (pe_callTy call_int1 (by rfl) T.int PyProof.Rows.boot_int (pa_cons (pe_op op_fdiv (pv 5) pe_int) pa_nil)) (pv 1)))))))))))), ?_⟩
    -- if most < 2
    refine ⟨_, rfl, _, _, rfl, rfl, _, rfl, ?_⟩
    by_cases h2 : most < 2
    · refine ifT (decide_eq_true h2) ?_
      exact k 0 H (fun _ => rfl) (fun z => absurd h2 (by omega)) ⟨zs, l, m, t, hd, hcs, hzl, hz, hl, hm, ht⟩ fun b o _ _ e => e
    · refine ifF (decide_eq_false h2) ?_
      refine ⟨_, rfl, d, _, rfl, g_cells hd, ?_⟩
      refine ⟨fun n σ H' => ∃ (zs : List Int) (l : Int), n = zs.length ∧ σ = [some (.ref d), some (.int most), some (.ref cs), none, none, none] ∧ H' d = some (.dK (srcK cs l m t)) ∧ H' cs = some (.lst (zs.map V.int)) ∧ zs.length ≤ 100 ∧ (∀ z ∈ zs, 0 ≤ z) ∧ 0 ≤ l ∧ (∀ b o, b ≠ d → b ≠ cs → H b = some o → H' b = some o),
        ⟨_, zs, l, rfl, rfl, hd, hcs, hzl, hz, hl, fun b o _ _ e => e⟩, fun n σ H' hW => ?_⟩
      clear hd hcs hzl hz hl
      obtain ⟨zs, l, rfl, rfl, hd, hcs, hzl, hz, hl, hk⟩ := hW
      suffices fin : _ by
        refine ⟨_, rfl, d, _, rfl, g_left hd, _, _, rfl, rfl, _, rfl, ?_⟩
        by_cases c1 : l < 2
        · refine ifT (decide_eq_true c1) ?_
          refine ⟨_, rfl, cs, _, rfl, .inl (.inl (.inl hcs)), _, _, rfl, rfl, _, rfl, ?_⟩
          rw [List.length_map]
          by_cases c2 : zs = []
          · subst c2
            exact ifF rfl fin
          · have hpos : 0 < zs.length := List.length_pos_iff.mpr c2
            refine ifT (decide_eq_true (by omega)) ?_
            refine ⟨fun σ' H'' => ∃ (zs' : List Int) (l : Int), zs'.length < zs.length ∧ σ' = [some (.ref d), some (.int most), some (.ref cs), none, none, none] ∧ H'' d = some (.dK (srcK cs l m t)) ∧ H'' cs = some (.lst (zs'.map V.int)) ∧ zs'.length ≤ 100 ∧ (∀ z ∈ zs', 0 ≤ z) ∧ 0 ≤ l ∧ (∀ b o, b ≠ d → b ≠ cs → H b = some o → H'' b = some o), fun σ' H'' hN => ?_, ?_⟩
            · obtain ⟨zs', l', h1, h3⟩ := hN
              exact ⟨zs'.length, h1, zs', l', rfl, h3⟩
            have hlast : (zs.map V.int)[(zs.map V.int).length - 1]? = some (.int (zs.getLast c2)) := by
              rw [List.length_map, List.getElem?_map, ← List.getLast?_eq_getElem?, List.getLast?_eq_getLast c2]
              rfl
            refine ⟨_, rfl, .inl ⟨rfl, _, .inl (.inl hcs)⟩, cs, _, _, rfl, rfl, hcs, hlast, _, rfl, d, _, rfl, p_left _ (by rw [upd_ne ncd.symm]; exact hd), ?_⟩
            refine ⟨zs.dropLast, zs.getLast c2, ?_, rfl, upd_same, ?_, ?_, ?_, hz _ (List.getLast_mem c2), fun b o h1 h3 e => ?_⟩
            · rw [List.length_dropLast]
              omega
            · rw [upd_ne ncd, upd_same, List.map_dropLast]
            · rw [List.length_dropLast]
              omega
            · exact fun z hzm => hz z (List.dropLast_subset zs hzm)
            · rw [upd_ne h1, upd_ne h3]
              exact hk b o h1 h3 e
        · exact ifF (decide_eq_false c1) fin
      have old : ∀ (H2 : Hp), (∀ b, b ≠ d → H2 b = H' b) → ∀ b o, b ≠ d → b ≠ cs → H b = some o → H2 b = some o := fun H2 h b o h1 h3 e => (h b h1).trans (hk b o h1 h3 e)
      refine ⟨_, rfl, d, _, rfl, g_left hd, ?_⟩
      refine ⟨_, rfl, _, _, rfl, rfl, _, rfl, ?_⟩
      by_cases c3 : 1 < l
      · refine ifT (decide_eq_true c3) ?_
        refine ⟨_, rfl, _, rfl, _, _, rfl, rfl, ⟨by omega, hmo⟩, _, rfl, d, _, rfl, p_left _ hd, ?_⟩
        refine ⟨_, rfl, .inl ⟨_, rfl, _, rfl, _, _, rfl, rfl, (by show (0 : Int) < most; omega), ?_⟩⟩
        refine k _ _ (fun z => absurd z h2) (fun _ => ⟨Int.emod_nonneg _ (by omega), Int.emod_lt_of_pos _ (by omega)⟩) ⟨zs, l / most, m, t, upd_same, by rw [upd_ne ncd]; exact hcs, hzl, hz, Int.ediv_nonneg hl (by omega), hm, ht⟩ (old _ fun b hb => upd_ne hb)
      · refine ifF (decide_eq_false c3) ?_
        refine ⟨_, rfl, d, _, rfl, g_turn hd, _, _, rfl, rfl, _, rfl, d, _, rfl, p_turn _ hd, ?_⟩
        generalize hH2 : upd H' d (.dK (srcK cs l m (t + 1))) = H2
        have hd2 : H2 d = some (.dK (srcK cs l m (t + 1))) := by rw [← hH2, upd_same]
        have hcs2 : H2 cs = some (.lst (zs.map V.int)) := by rw [← hH2, upd_ne ncd]; exact hcs
        have ho2 := old H2 fun b hb => by rw [← hH2, upd_ne hb]
        clear hH2
        refine ⟨_, rfl, d, _, rfl, g_turn hd2, ?_⟩
        refine ⟨_, rfl, d, _, rfl, g_mixed hd2, _, rfl, _, _, rfl, rfl, .inr ⟨by decide, by decide⟩, _, _, rfl, rfl, .inl ⟨_, rfl, _, _, rfl, rfl, (by show (0 : Int) < 998244353; decide), ?_⟩⟩
        have b1 := Int.emod_nonneg (m + (t + 1) * 104729) (show (998244353 : Int) ≠ 0 by decide)
        have b2 := Int.emod_lt_of_pos (m + (t + 1) * 104729) (show (0 : Int) < 998244353 by decide)
        generalize (m + (t + 1) * 104729) % 998244353 = z1 at b1 b2 ⊢
        refine ⟨_, rfl, _, rfl, _, _, rfl, rfl, .inl ⟨by omega, by omega⟩, _, rfl, _, _, rfl, rfl, .inr ⟨by decide, by decide⟩, _, _, rfl, rfl, .inl ⟨_, rfl, _, _, rfl, rfl, (by show (0 : Int) < 2147483647; decide), ?_⟩⟩
        generalize (z1 * z1 + (t + 1) * 17) % 2147483647 = z2
        refine ⟨_, rfl, _, _, rfl, rfl, ⟨by decide, by decide⟩, .inl ⟨_, rfl, _, rfl, _, _, rfl, rfl, (by show (0 : Int) < most; omega), ?_⟩⟩
        exact k _ _ (fun z => absurd z h2) (fun _ => ⟨Int.emod_nonneg _ (by omega), Int.emod_lt_of_pos _ (by omega)⟩) ⟨zs, l, m, t + 1, hd2, hcs2, hzl, hz, hl, hm, by omega⟩ ho2
theorem ok_open (T : TxtO K mg fOpen fPick dOpen dPick) : FnOk P w K mg base CX0 1 fOpen dOpen ["_law_script"] (spOpen K) := by
  refine T.FOpen.ok scOpen (fun vs H Q E h => ?_) (fun cdv A outer s H vs Q E hr h => ?_)
  · obtain ⟨a, ns, rfl, _⟩ := h
    rfl
  · obtain ⟨a, ns, rfl, ha, hl, k⟩ := h
    have hu := hu_of hr
    refine ⟨_, pss_cons (ps_set (i := 1) scOpen.nd rfl (.inl rfl) pe_int)
      (pss_cons (ps_for PassesOwn.never rfl (pi_list (pv 0)) (pg_name (i := 2) scOpen.nd rfl (.inl rfl))
        (pss_one (ps_set (i := 1) scOpen.nd rfl (.inl rfl) (pe_op op_mod (pe_callTy call_int1 (by rfl) T.int PyProof.Rows.boot_int (pa_cons (pe_op op_add (pe_op op_add (pe_op op_mul (pv 1) pe_int) (pe_op op_mul (pv 2) pe_int)) pe_int) pa_nil)) pe_int))))
      (pss_cons (ps_setLc (i := 3) (own := [("_law_cell", 2)]) (g := gName 2) (tt := tYes) rfl scOpen.nd rfl rfl (sw_true rfl rfl rfl (by decide +kernel)) (pi_list (pv 0)) (blkOk_by (N := ["_law_script", "_law_stirred", "_law_cell", "_law_cells"]) (sc := defScope sOpen) (by decide +kernel))
          (fun _ _ _ _ _ => pg_name (i := 2) scOpen.nd rfl (.inl rfl)) (fun _ _ _ _ _ => pts_nil) (fun _ _ _ _ _ => pe_callB call_abs (by rfl) T.abs PyProof.Rows.boot_abs (pa_cons (pv 2) pa_nil)))
      (pss_one (ps_ret (pe_disp (pps_cons pe_str (pe_revL (pv 3)) (pps_cons pe_str pe_int (pps_cons pe_str (pv 1) (pps_cons pe_str pe_int pps_nil)))) rfl rfl (by decide) (by decide)))))), ?_⟩
    -- the loop
    refine ⟨_, rfl, a, rfl, ⟨_, ha⟩, for_list (K := K) (a := a) (xs := ns.map V.int) (fun i σ H' => ∃ (st : Int) (v : Option V), σ = [some (.ref a), some (.int st), v, none] ∧ 0 ≤ st ∧ H' = H) ⟨11, none, rfl, by decide, rfl⟩ (fun i σ H' _ h => ?_) (fun i x σ H' hx h => ?_) (fun σ H' h => ?_)⟩
    · obtain ⟨st, v, rfl, _, rfl⟩ := h
      exact ha
    · obtain ⟨st, v, rfl, h0, rfl⟩ := h
      obtain ⟨z, hz, rfl⟩ : ∃ z, ns[i]? = some z ∧ x = V.int z := by
        rw [List.getElem?_map] at hx
        cases e : ns[i]? with
        | none =>
          rw [e] at hx
          cases hx
        | some z =>
          rw [e] at hx
          exact ⟨z, rfl, (Option.some.inj hx).symm⟩
      refine ⟨_, rfl, _, _, rfl, rfl, .inr ⟨by decide, by decide⟩, _, rfl, _, _, rfl, rfl, .inr ⟨by decide, by decide⟩, _, _, rfl, rfl, _, _, rfl, rfl, .inl ⟨_, rfl, _, _, rfl, rfl, (by show (0 : Int) < 2147483629; decide), _, some (.int z), rfl, Int.emod_nonneg _ (by decide), rfl⟩⟩
    obtain ⟨st, v, rfl, h0, rfl⟩ := h
    -- the cells
    let ab : Int → Int := fun i => if i < 0 then -i else i
    refine ⟨_, rfl, a, rfl, ⟨_, ha⟩, fun D hD => ?_⟩
    have hseq : ∀ i, SqL K (upd H' D (.lst (((ns.take i).map ab).map V.int))) a (ns.map V.int) := fun i => (show Same H' (upd H' D (.lst (((ns.take i).map ab).map V.int))) from fun b o e => by
      rw [upd_ne (ne_of_none e hD)]
      exact e).seq ha
    refine lc_list (K := K) (a := a) (xs := ns.map V.int) (fun i H2 => H2 = upd H' D (.lst (((ns.take i).map ab).map V.int))) rfl (fun i H2 _ h => ?_) (fun i x H2 hx h => ?_) (fun H2 h => ?_)
    · rw [h]
      exact hseq i
    · obtain ⟨z, hz, rfl⟩ : ∃ z, ns[i]? = some z ∧ x = V.int z := by
        rw [List.getElem?_map] at hx
        cases e : ns[i]? with
        | none =>
          rw [e] at hx
          cases hx
        | some z =>
          rw [e] at hx
          exact ⟨z, rfl, (Option.some.inj hx).symm⟩
      have hlt := (List.getElem?_eq_some_iff.mp hz).1
      subst h
      refine ⟨rfl, ?_⟩
      refine ⟨_, rfl, z, rfl, _, upd_same, ?_, ?_⟩
      · rw [List.length_map, List.length_map, List.length_take, sizeLine_eq]
        omega
      · rw [upd_upd, List.take_add_one, hz, List.map_append, List.map_append]
        rfl
    · rw [List.length_map, List.take_length] at h
      subst h
      -- the dict
      have hz : ∀ z ∈ (ns.map ab).reverse, (0 : Int) ≤ z := fun z hm => by
        obtain ⟨y, hy, rfl⟩ := List.mem_map.mp (List.mem_reverse.mp hm)
        show 0 ≤ (if y < 0 then -y else y)
        split <;> omega
      refine fun p hp => ?_
      have npD : D ≠ p := ne_of_none upd_same hp
      have hDp : upd (upd H' D (.lst ((ns.map ab).map V.int))) p (.dK []) D = some (.lst ((ns.map ab).map V.int)) := by rw [upd_ne npD, upd_same]
      refine ⟨_, rfl, D, _, rfl, .inl (.inl hDp), fun cs hcs => ?_⟩
      have npc : p ≠ cs := ne_of_none upd_same hcs
      have nDc : D ≠ cs := ne_of_none hDp hcs
      have hcs0 : H' cs = none := by
        rw [upd_ne npc.symm, upd_ne nDc.symm] at hcs
        exact hcs
      have hp0 : H' p = none := by
        rw [upd_ne npD.symm] at hp
        exact hp
      refine ⟨_, rfl, by rw [upd_ne npc, upd_same], srcK cs 1 st 0, rfl, (by show 4 ≤ 15; decide), ?_⟩
      rw [merge_src]
      refine k p cs _ (fun b o e => ?_) hp0 hcs0 ⟨(ns.map ab).reverse, 1, st, 0, upd_same, by rw [upd_ne npc.symm, upd_same, List.map_reverse], by rw [List.length_reverse, List.length_map]; omega, hz, by decide, h0, by decide⟩
      rw [upd_ne (ne_of_none e hp0), upd_ne (ne_of_none e hcs0), upd_ne (ne_of_none e hp0), upd_ne (ne_of_none e hD)]
      exact e
end
end G9

set_option Elab.async false
set_option linter.all false
set_option maxRecDepth 100000
set_option maxHeartbeats 4000000
/-! the law's answers with a part -/
namespace G9
open PySem PySem.Spec PyProof.Rows L2 GX
def holds (f : List (Int × Int)) (row : List Int) : Bool := f.all fun q => decide (row.getD q.1.toNat 0 = q.2)
noncomputable def withOf (p : Puz) (f : List (Int × Int)) : List (List Int) := (answersOf p).filter fun row => holds f row
def spWith : Sp := fun vs H Q _ => ∃ u p fv f, vs = [u, fv] ∧ PzH H u p ∧ PzOk p ∧ RowsH H fv (f.map tie2) ∧ (∀ q ∈ f, 0 ≤ q.1 ∧ q.1 < (p.doms.length : Int)) ∧ f.length ≤ 1000 ∧ ∀ l H', Same H H' → H l = none → LRows H' (.ref l) (withOf p f) → Q (.ref l) H'
section
variable {P : Program} {w : World} {K : PySem.W.Frag} {mg : Str → Option Value} {base : Heap} {f f1 f2 f3 : Addr} {fd fd1 fd2 fd3 : FuncData} {pT : Addr}
end
end G9

set_option Elab.async false
set_option linter.all false
set_option maxRecDepth 100000
set_option maxHeartbeats 4000000
/-! the law's any_order -/
namespace G9
open PySem PySem.Spec PyProof.Rows L2 GX
/-- all but the source stays -/
def Rn (d cs : Addr) (H H' : Hp) : Prop := ∀ b o, b ≠ d → b ≠ cs → H b = some o → H' b = some o
theorem Rn.refl (d cs : Addr) (H : Hp) : Rn d cs H H := fun _ _ _ _ e => e
theorem Rn.trans {d cs : Addr} {A B C : Hp} (h : Rn d cs A B) (g : Rn d cs B C) : Rn d cs A C := fun b o h1 h2 e => g b o h1 h2 (h b o h1 h2 e)
theorem rn_same {d cs : Addr} {H H' : Hp} (h : Same H H') : Rn d cs H H' := fun b o _ _ e => h b o e
theorem SrcAt.ne {H : Hp} {d cs b : Addr} {xs : List V} (h : SrcAt H d cs) (hb : H b = some (.tup xs)) : b ≠ d ∧ b ≠ cs := by
  obtain ⟨zs, l, m, t, hd, hcs, _⟩ := h
  exact ⟨ne_of hb hd (fun z => by cases z), ne_of hb hcs (fun z => by cases z)⟩
theorem Rn.kt {d cs : Addr} {H H' : Hp} (hs : SrcAt H d cs) (h : Rn d cs H H') : Kt H H' := fun b xs e => h b _ (hs.ne e).1 (hs.ne e).2 e
theorem SrcAt.same {H H' : Hp} {d cs : Addr} (h : SrcAt H d cs) (k : Same H H') : SrcAt H' d cs := by
  obtain ⟨zs, l, m, t, hd, hcs, r⟩ := h
  exact ⟨zs, l, m, t, k _ _ hd, k _ _ hcs, r⟩
theorem SrcAt.kb {H H' : Hp} {d cs : Addr} (h : SrcAt H d cs) (k : Kb H H') : SrcAt H' d cs := by
  obtain ⟨zs, l, m, t, hd, hcs, r⟩ := h
  exact ⟨zs, l, m, t, k.1 _ _ (fun ps z => by cases z) hd, k.1 _ _ (fun ps z => by cases z) hcs, r⟩
theorem SrcAt.none {H : Hp} {d cs b : Addr} (h : SrcAt H d cs) (hb : H b = none) : b ≠ d ∧ b ≠ cs := by
  obtain ⟨zs, l, m, t, hd, hcs, _⟩ := h
  exact ⟨(ne_of_none hd hb).symm, (ne_of_none hcs hb).symm⟩
theorem SrcAt.upd {H : Hp} {d cs b : Addr} {o : HO} (h : SrcAt H d cs) (h1 : b ≠ d) (h2 : b ≠ cs) : SrcAt (upd H b o) d cs := by
  obtain ⟨zs, l, m, t, hd, hcs, r⟩ := h
  exact ⟨zs, l, m, t, by rw [upd_ne h1.symm]; exact hd, by rw [upd_ne h2.symm]; exact hcs, r⟩
theorem lenK (K : PySem.W.Frag) {X : Cx} (h : X.K = K := by rfl) : CallR X (.builtin "len") (fun xs H Q => ∃ p ys, xs = [.ref p] ∧ (SqL K H p ys ∨ SqT K H p ys) ∧ Q (.int ys.length) H) := h ▸ call_len_seq
theorem erase_map {α β : Type} (g : α → β) : ∀ (l : List α) (i : Nat), (l.map g).eraseIdx i = (l.eraseIdx i).map g
  | [], _ => rfl
  | a :: l, 0 => rfl
  | a :: l, i + 1 => congrArg (g a :: ·) (erase_map g l i)
theorem erase_perm {α : Type} : ∀ {l : List α} {i : Nat} (h : i < l.length), (l[i] :: l.eraseIdx i).Perm l
  | a :: l, 0, _ => .refl _
  | a :: l, i + 1, h => (List.Perm.swap a _ _).trans (.cons a (erase_perm (l := l) (i := i) (by simpa using h)))
def spOrder : Sp := fun vs H Q _ => ∃ d cs tv ns, vs = [.ref d, tv] ∧ SrcAt H d cs ∧ IL H tv ns ∧ ns.length ≤ 1000 ∧ ∀ (l : Addr) (ns' : List Int) (H' : Hp), ns'.Perm ns → SrcAt H' d cs → Rn d cs H H' → H l = none → H' l = some (.lst (ns'.map V.int)) → Q (.ref l) H'
section
variable {P : Program} {w : World} {K : PySem.W.Frag} {mg : Str → Option Value} {base : Heap} {f fP : Addr} {fd dP : FuncData}
theorem ok_order (B : Bl mg) (D : Df K mg "_law_any_order" sOrder ["_law_source", "_law_things"] f fd) (DP : Df K mg "_law_pick" sPick ["_law_source", "_law_most"] fP dP) (GP : FnOk P w K mg base CX0 1 fP dP ["_law_source", "_law_most"] spPick) : FnOk P w K mg base CX0 3 f fd ["_law_source", "_law_things"] spOrder := by
  refine D.F.ok scOrder (fun vs H Q E h => ?_) (fun cdv A outer s H vs Q E hr h => ?_)
  · obtain ⟨d, cs, tv, ns, rfl, _⟩ := h
    rfl
  · obtain ⟨d, cs, tv, ns, rfl, hs, ht, hn, k⟩ := h
    refine ⟨_, pss_cons (ps_set (i := 2) scOrder.nd rfl (.inr rfl) (pe_callTy call_list_of (by rfl) B.list PyProof.Rows.boot_list (pa_cons (pv 1) pa_nil)))
      (pss_one (ps_ret (pe_lc (own := [("_law_lap", 3)]) rfl scOrder.nd (pi_range1 (by rfl) B.range (pa_cons (pe_callB call_len_seq (by rfl) B.len PySem.boot_len (pa_cons (pv 2) pa_nil)) pa_nil)) (blkOk_by (N := ["_law_source", "_law_things", "_law_others", "_law_lap"]) (sc := defScope sOrder) (by decide +kernel))
        (fun _ _ _ _ _ => pg_name (i := 3) scOrder.nd rfl (.inl rfl)) (fun _ _ _ _ _ => pts_nil)
        (fun _ _ _ _ _ => (show PE _ _ (tBM K "list" rPopAt _ _) from pe_bm PySem.F.plainAttrs_list PySem.F.slot_list_pop PySem.F.type_list_pop mt_popAt (pv 2) (pa_cons (pe_call GP (hr.mono (by decide)) (by rfl) DP.g DP.F.kp DP.b .nil pass0 (pa_cons (pv 0) (pa_cons (pe_callB (lenK K) (by rfl) B.len PySem.boot_len (pa_cons (pv 2) pa_nil)) pa_nil))) pa_nil)))))), ?_⟩
    obtain ⟨ta, rfl, hta⟩ := ht
    refine ⟨_, rfl, ta, _, rfl, .inl (sql hta), fun ot hot => ?_⟩
    have n1 := hs.none hot
    refine ⟨_, rfl, ot, _, rfl, .inl (sql upd_same), _, rfl, by omega, by rw [List.length_map]; omega, fun L hL => ?_⟩
    have hs1 : SrcAt (upd H ot (.lst (ns.map V.int))) d cs := hs.upd n1.1 n1.2
    have n2 := hs1.none hL
    have n3 : ot ≠ L := ne_of_none upd_same hL
    have hLH : H L = none := none_under hL
    rw [List.length_map]
    refine lc_it (walk_range (lo := 0) (n := ((ns.length : Nat) : Int).toNat)) (fun i H' => ∃ done rest : List Int, H' ot = some (.lst (rest.map V.int)) ∧ H' L = some (.lst (done.map V.int)) ∧ (done ++ rest).Perm ns ∧ rest.length + i = ns.length ∧ SrcAt H' d cs ∧ Rn d cs H H')
      ⟨[], ns, upd_at hL upd_same, upd_same, .refl _, rfl, hs1.upd n2.1 n2.2, fun b o _ _ e => upd_at hL (upd_at hot e)⟩ (fun i H' _ h => trivial) (fun i x H' H'' hi h y => ?_) (fun H' h => ?_)
    · obtain ⟨done, rest, hO, hLd, pm, rl, hs', rn⟩ := h
      obtain ⟨rfl, rfl⟩ := y
      have ilt : i < ns.length := by rw [Int.toNat_natCast] at hi; exact hi
      have dl : done.length ≤ ns.length := by
        have := pm.length_eq
        rw [List.length_append] at this
        omega
      refine ⟨rfl, _, rfl, .inl ⟨rfl, _, sql hO⟩, _, rfl, _, rfl, ot, _, rfl, .inl (sql hO), d, cs, _, rfl, hs', by rw [List.length_map]; omega, fun r H1 r0 r1 hs2 rn2 => ?_⟩
      rw [List.length_map] at r0 r1
      have rb : 0 ≤ r ∧ r < (rest.length : Int) := by
        by_cases h2 : (rest.length : Int) < 2
        · have := r0 h2
          omega
        · exact r1 (by omega)
      have hO1 : H1 ot = some (.lst (rest.map V.int)) := rn2 _ _ n1.1 n1.2 hO
      have hL1 : H1 L = some (.lst (done.map V.int)) := rn2 _ _ n2.1 n2.2 hLd
      have rlt : r.toNat < rest.length := by omega
      refine ⟨ot, _, r, r.toNat, .int (rest[r.toNat]'rlt), rfl, rfl, hO1, by omega, by omega, ?_, ?_, ?_⟩
      · rw [List.length_map]
        exact seqIndex_of rb.1 rb.2
      · rw [List.getElem?_map, List.getElem?_eq_getElem rlt]
        rfl
      · have hL2 : upd H1 ot (.lst ((rest.map V.int).eraseIdx r.toNat)) L = some (.lst (done.map V.int)) := by rw [upd_ne n3.symm]; exact hL1
        refine ⟨_, hL2, by rw [List.length_map, sizeLine_eq]; omega, done ++ [rest[r.toNat]'rlt], rest.eraseIdx r.toNat, ?_, ?_, ?_, ?_, (hs2.upd n1.1 n1.2).upd n2.1 n2.2, fun b o h1 h2 e => ?_⟩
        · rw [upd_ne n3, upd_same, erase_map]
        · rw [upd_same, List.map_append]
          rfl
        · refine .trans ?_ pm
          rw [List.append_assoc]
          exact .append_left _ (erase_perm rlt)
        · rw [List.length_eraseIdx_of_lt rlt]
          omega
        · rw [upd_ne (fun z => by rw [z, hLH] at e; cases e), upd_ne (fun z => by rw [z, hot] at e; cases e)]
          exact rn2 b o h1 h2 (rn b o h1 h2 e)
    · obtain ⟨done, rest, hO, hLd, pm, rl, hs', rn⟩ := h
      rw [Int.toNat_natCast] at rl
      have : rest = [] := List.eq_nil_of_length_eq_zero (by omega)
      subst this
      rw [List.append_nil] at pm
      exact k L done H' pm hs' rn hLH hLd
end
end G9

set_option Elab.async false
set_option linter.all false
set_option maxRecDepth 100000
set_option maxHeartbeats 4000000
/-! the law's drawn parts -/
namespace G9
open PySem PySem.Spec PyProof.Rows L2 GX
/-- a part of a puzzle -/
structure PartOk (p : Puz) (f : List (Int × Int)) : Prop where
  nd : (f.map (·.1)).Nodup
  cell : ∀ q ∈ f, 0 ≤ q.1 ∧ q.1 < (p.doms.length : Int)
  val : ∀ q ∈ f, q.2 ∈ p.doms.getD q.1.toNat []
  len : f.length ≤ 1000
def spDrawPart : Sp := fun vs H Q _ => ∃ d cs u p most, vs = [.ref d, u, .int most] ∧ SrcAt H d cs ∧ PzH H u p ∧ PzOk p ∧ 0 ≤ most ∧ most ≤ 1000 ∧ ∀ w f H', PartOk p f → SrcAt H' d cs → Rn d cs H H' → RowsH H' w (f.map tie2) → Q w H'
theorem paired_map {α β γ : Type} {R : α → γ → Prop} {g : β → γ} : ∀ {vs : List α} {f : List β}, Paired (fun x q => R x (g q)) vs f → Paired R vs (f.map g)
  | _, _, .nil => .nil
  | _, _, .cons a r => .cons a (paired_map r)
theorem rgV_nI (n : Nat) : rgV 0 (n : Int) = (nI (List.range n)).map V.int := by
  unfold rgV nI
  simp
theorem cut_take (xs : List V) {r : Int} (h : 0 ≤ r) : cutV xs none (some r) = xs.take r.toNat := by
  unfold cutV
  have e0 : HT.sIx xs.length 0 none = 0 := rfl
  have e1 : HT.sIx xs.length xs.length (some r) = min r.toNat xs.length := by
    unfold HT.sIx
    simp
    omega
  rw [e0, e1, List.drop_zero, Nat.sub_zero]
  by_cases z : r.toNat ≤ xs.length
  · rw [Nat.min_eq_left z]
  · rw [Nat.min_eq_right (by omega), List.take_length, List.take_of_length_le (by omega)]
section
variable {P : Program} {w : World} {K : PySem.W.Frag} {mg : Str → Option Value} {base : Heap} {f fP fO : Addr} {fd dP dO : FuncData}
end
end G9

set_option Elab.async false
set_option linter.all false
set_option maxRecDepth 100000
set_option maxHeartbeats 4000000
/-! sorted(t), t a tuple of ints -/
namespace GX
open PySem PySem.Spec PyProof.Rows L2
section
variable {prog : Program} {w : World} {A : Around} {E : Value → Shared → Prop} {s : Shared}
theorem collect_tup {t : Addr} {us : List Value} {Q : List Value → Shared → Prop} (ht : s.heap.IsTuple t us.toArray) (small : us.length ≤ sizeLine)
    (fin : Q us { s with heap := (s.heap.push (seqObj "list" #[] 0)).update s.heap.objs.size (Obj.mapSeq (· ++ us.toArray)) }) : wpAny (model prog w) A (collect (.ref t)) Q E s := by
  obtain ⟨ob, at_, cls, n, dat⟩ := id ht
  have new0 : (s.heap.push (seqObj "list" #[] 0)).get? s.heap.objs.size = some (seqObj "list" #[] 0) := Heap.get?_push_size _ rfl
  have old : (s.heap.push (seqObj "list" #[] 0)).get? t = some ob := Heap.get?_push_of_some _ at_
  unfold collect
  refine wpAny_bind (wpAny_runValue (codeAny_builtin entry_proto_collect' ?_))
  show wpAny _ _ (newList [] >>= _) _ _ s
  refine wpAny_bind (wpAny_newList (wpAny_pure ⟨Code.quiet_builtin _ (by decide +kernel), codeAny_builtin entry_list_iadd' ?_⟩))
  show wpAny _ _ (Builtin.List.listExtendWith (.ref s.heap.objs.size) (.ref t) (.ref s.heap.objs.size)) _ _ _
  unfold Builtin.List.listExtendWith
  refine wpAny_bind (wpAny_typeOf (T := "tuple") ⟨ob, old, cls⟩ ?_)
  have same : (Value.type "tuple" == Value.type "tuple") = true := by rfl
  rw [if_pos (by rw [same, Bool.or_true])]
  refine wpAny_bind (listItems_at old dat (wpAny_bind (listItems_at (xs := #[]) (n := 0) new0 rfl ?_)))
  rw [if_neg (by simp)]
  have room : ((#[] : Array Value) ++ us.toArray).size ≤ sizeLine + 1 := by
    rw [Array.size_append, List.size_toArray]
    show 0 + us.length ≤ _
    omega
  refine wpAny_bind (listUpdate_at (xs := #[]) (n := 0) new0 rfl ?_ (Nat.zero_le _) room)
  refine wpAny_pure ?_
  show wpAny (model prog w) A (load s.heap.objs.size >>= _) Q E _
  refine wpAny_bind (wpAny_load (get?_update_seq new0 _) ?_)
  have e : ((#[] : Array Value) ++ us.toArray).toList = us := by simp
  show wpAny _ _ (pure ((#[] : Array Value) ++ us.toArray).toList) Q E _
  rw [e]
  exact wpAny_pure fin
theorem sorted_tup {t : Addr} {us : List Value} {lt : Value → Value → Bool} {Q : Value → Shared → Prop} (O : SrtO.Swo lt) (ht : s.heap.IsTuple t us.toArray) (small : us.length ≤ sizeLine)
    (hS : 2 ≤ us.length → ∀ (h₁ : Heap) (a : Addr), h₁.get? a = some (seqObj "list" us.toArray 0) → (∀ b o, s.heap.get? b = some o → b ≠ a ∧ h₁.get? b = some o) → SrtO.SortableO prog w A.in1.in1 { s with heap := h₁ } a us lt)
    (fin : ∀ out : List Value, SrtO.Srtd lt out → SrtO.Stb lt out us → Q (.ref (s.heap.objs.size + 1)) { s with heap := PyProof.Rows.sortedAll s.heap us out.toArray }) :
    wpAny (model prog w) A (call (.builtin "sorted") [.ref t]) Q E s := by
  refine Calls.call_function_entry PyProof.Rows.kind_sorted PyProof.Rows.plain_sorted PyProof.Rows.entry_sorted (PyProof.Rows.args_sorted1 _) ?_
  unfold Builtin.«sorted»
  refine wpAny_bind (m := checkCount "sorted" 1 1 _) (wpAny_pure (wpAny_bind (collect_tup ht small (wpAny_bind (wpAny_newList ?_ small)))))
  generalize eh : (s.heap.push (seqObj "list" #[] 0)).update s.heap.objs.size (Obj.mapSeq (· ++ us.toArray)) = h2
  have size2 : h2.objs.size = s.heap.objs.size + 1 := by rw [← eh, Heap.size_update, size_push']
  have at2 : (h2.push (seqObj "list" us.toArray 0)).get? (s.heap.objs.size + 1) = some (seqObj "list" us.toArray 0) := by
    rw [← size2]
    exact Heap.get?_push_size _ rfl
  have keep2 : ∀ b o, s.heap.get? b = some o → b ≠ s.heap.objs.size + 1 ∧ (h2.push (seqObj "list" us.toArray 0)).get? b = some o := fun b o e => by
    have low : b < s.heap.objs.size := Heap.lt_size e
    refine ⟨Nat.ne_of_lt (Nat.lt_succ_of_lt low), Heap.get?_push_of_some _ ?_⟩
    rw [← eh, Heap.get?_update_ne _ _ _ _ (Nat.ne_of_lt low)]
    exact Heap.get?_push_of_some _ e
  show wpAny _ _ _ _ _ { s with heap := h2.push (seqObj "list" us.toArray 0) }
  rw [size2]
  refine wpAny_bind (wpAny_holding (wpAny_call_entry PyProof.Rows.slot_list_sort ⟨_, at2, rfl⟩ PyProof.Rows.entry_list_sort (SrtO.list_sort_ord O at2 small (fun l2 => hS l2 _ _ at2 keep2) fun out g1 g2 => ⟨_, rfl, ?_⟩) (PyProof.Rows.args_list_sort _)))
  have z := fin out g1 g2
  unfold PyProof.Rows.sortedAll at z
  rw [eh] at z
  exact wpAny_pure ⟨_, rfl, z⟩
end
theorem cr_sortedTI {X : Cx} : CallR X (.builtin "sorted") (fun vs H Q => ∃ (a : Addr) (ns : List Int), vs = [V.ref a] ∧ SqT X.K H a (ns.map V.int) ∧ ∀ (ns' : List Int) (p : Addr), ns'.Perm ns → ns'.Pairwise (· ≤ ·) → H p = none → Q (.ref p) (upd H p (.lst (ns'.map V.int)))) := by
  intro pins s σ H vs us Q I r h
  obtain ⟨a, ns, rfl, hs, q⟩ := h
  obtain ⟨its, rv, ht, small⟩ := I.tuple hs
  rw [Vals.ref1 r]
  refine sorted_tup SrtO.swo_int (show s.heap.IsTuple a its.toArray from ht) (by rw [← rv.length]; exact small) (fun l2 h₁ a' _ _ => SrtO.ints_sortable rv.ints l2) fun out g1 g2 => ?_
  obtain ⟨k1, k2, k3⟩ := SrtO.ints_out rv.ints g1 g2
  obtain ⟨ep, at_⟩ := PyProof.Rows.sortedAll_at s.heap its out.toArray
  have len : ((out.map SrtO.iv).map V.int).length ≤ sizeLine := by
    rw [List.length_map, k2.length_eq]
    rw [List.length_map] at small
    exact small
  exact ⟨.ref _, upd H (s.heap.objs.size + 1) (.lst ((out.map SrtO.iv).map V.int)), I.laid (t' := s.toks) (fun _ _ => PyProof.Rows.sortedAll_old) (Nat.le_succ _) ⟨len, out, ep, vals_of_ints k1, at_⟩, rfl, q _ _ k2 k3 (I.hok.fresh (Nat.le_succ _))⟩
end GX

set_option Elab.async false
set_option linter.all false
set_option maxRecDepth 100000
set_option maxHeartbeats 8000000
/-! the law's drawn puzzles, given its drawn rules -/
namespace G9
open PySem PySem.Spec PyProof.Rows L2 GX
/-- small numbers -/
abbrev Few (v : Int) : Prop := 0 ≤ v ∧ v < 1000
abbrev DomOk (e : List Int) : Prop := e.length ≤ 4 ∧ e.Pairwise (· < ·) ∧ (∀ v ∈ e, Few v) ∧ e.length ≤ 3 ∧ ∀ v ∈ e, 0 ≤ v ∧ v < 4
def RulNum : Rul → Prop
  | .table _ rows => rows.length ≤ 64 ∧ ∀ r ∈ rows, r.length ≤ 8 ∧ ∀ v ∈ r, Few v
  | .unlike _ => True
  | .sum _ lo hi => Few lo ∧ Few hi
  | .count _ vs lo hi => (vs.length ≤ 8 ∧ ∀ v ∈ vs, Few v) ∧ Few lo ∧ Few hi
  | .below _ _ => True
  | .runs _ ls => ls.length ≤ 8 ∧ ∀ v ∈ ls, Few v
  | .joined _ ties vs => (ties.length ≤ 8 ∧ ∀ q ∈ ties, Few q.1 ∧ Few q.2) ∧ vs.length ≤ 8 ∧ ∀ v ∈ vs, Few v
structure RuleOk (n : Nat) (r : Rul) : Prop where
  num : RulNum r
  c8 : (Rul.cells r).length ≤ 8
  small : Small r
  some : Rul.cells r ≠ []
  tab : TabLen r
  cell : ∀ c ∈ Rul.cells r, 0 ≤ c ∧ c < (n : Int)
def spDrawRule : Sp := fun vs H Q _ => ∃ d cs u doms, vs = [.ref d, u] ∧ SrcAt H d cs ∧ (RowsH H u doms ∨ LRows H u doms) ∧ 1 ≤ doms.length ∧ doms.length ≤ 8 ∧ (∀ e ∈ doms, e.length ≤ 4) ∧ (∀ e ∈ doms, ∀ v ∈ e, Few v) ∧ ∀ (w : V) (r : Rul) (H' : Hp), RuleOk doms.length r → SrcAt H' d cs → Rn d cs H H' → RuH H' w r → Q w H'
theorem nodup_snoc {l : List Int} {a : Int} (h : l.Nodup) (ha : a ∉ l) : (l ++ [a]).Nodup := by
  rw [List.nodup_append]
  refine ⟨h, List.nodup_cons.mpr ⟨by simp, List.nodup_nil⟩, fun x hx y hy => ?_⟩
  rw [List.mem_singleton.mp hy]
  exact fun z => ha (z ▸ hx)
theorem inc_snoc {l : List Int} {a : Int} (h : l.Pairwise (· < ·)) (ha : ∀ x ∈ l, x < a) : (l ++ [a]).Pairwise (· < ·) := by
  rw [List.pairwise_append]
  exact ⟨h, List.pairwise_singleton _ _, fun x hx y hy => by rw [List.mem_singleton.mp hy]; exact ha x hx⟩
def spDrawPuzzle : Sp := fun vs H Q _ => ∃ d cs most, vs = [.ref d, .int most] ∧ SrcAt H d cs ∧ 1 ≤ most ∧ most ≤ 6 ∧ ∀ (w : V) (p : Puz) (H' : Hp), PzOk p → 1 ≤ p.doms.length → (p.doms.length : Int) ≤ most → p.rules.length ≤ 8 → (∀ e ∈ p.doms, e.Pairwise (· < ·) ∧ (∀ v ∈ e, Few v) ∧ e.length ≤ 3 ∧ ∀ v ∈ e, 0 ≤ v ∧ v < 4) → (∀ r ∈ p.rules, RulNum r ∧ (Rul.cells r).length ≤ 8) → SrcAt H' d cs → Rn d cs H H' → PzH H' w p → Q w H'
section
variable {P : Program} {w : World} {K : PySem.W.Frag} {mg : Str → Option Value} {base : Heap} {f fP fO fR : Addr} {fd dP dO dR' : FuncData}
end
end G9

set_option Elab.async false
set_option linter.all false
set_option maxRecDepth 100000
set_option maxHeartbeats 4000000
/-! zip of two tuples, the pair handed out kept (one name as target) -/
namespace GX
open PySem PySem.Spec PyProof.Rows L2
/-- a zip, whatever it knows of the pair that it gave out -/
abbrev ZipO (h : Heap) (z TI TO : Addr) (v : Value) (f : Bool) : Prop := h.get? z = some { cls := .type "zip", dict := none, data := .fields #[v, .bool f, .bool false, .ref TI, .ref TO], slots := #[] }
def Out (v : Value) : Prop := v = .none ∨ ∃ T : Nat, v = rawInt T
section
variable {prog : Program} {w : World} {A : Around} {E : Value → Shared → Prop} {s : Shared} {z TI TO i1 i2 : Addr} {fp1 fp2 : List Addr} {n1 n2 i : Nat} {P1 P2 : Nat → Value → Prop} {St1 St2 : Nat → Heap → Prop} {a1 a2 v : Value} {f : Bool}
theorem aliveAny {a : Addr} {Q : Option Obj → Shared → Prop} (h : Q (s.heap.get? a) s) : wpAny (model prog w) A (loadIfAlive a) Q E s := fun _ _ _ => h
theorem isFree_any {Q : Bool → Shared → Prop} (hz : ZipO s.heap z TI TO v f) (hv : Out v) (h1 : Q true s) (h2 : ∀ h', ZipO h' z TI TO v true → Heap.SameBut z s.heap h' → Q false { s with heap := h' }) : wpAny (model prog w) A (Builtin.SmallTypes.ownedTupleIsFree (.ref z)) Q E s := by
  unfold Builtin.SmallTypes.ownedTupleIsFree
  refine wpAny_bind (wpAny_field hz rfl (x := v) rfl ?_)
  rcases hv with rfl | ⟨T, rfl⟩
  · exact wpAny_pure h1
  · show wpAny _ _ (loadIfAlive ((T : Int).toNat) >>= _) _ _ _
    refine wpAny_bind (aliveAny ?_)
    cases s.heap.get? ((T : Int).toNat) with
    | none =>
      rw [if_pos (show (none : Option Obj).isNone = true from rfl)]
      exact wpAny_pure h1
    | some o =>
      rw [if_neg (show ¬ ((some o).isNone = true) from Bool.false_ne_true)]
      refine wpAny_bind (wpAny_field hz rfl (x := .bool f) rfl ?_)
      cases f with
      | true =>
        rw [if_neg (show ¬ ((Value.bool true != Value.bool true) = true) from Bool.false_ne_true)]
        exact wpAny_pure (h2 _ hz (.refl _ _))
      | false =>
        rw [if_pos (show (Value.bool false != Value.bool true) = true from rfl)]
        exact wpAny_bind (wpAny_setField_rec hz (by simp) fun g hg sg => wpAny_pure (h2 g hg sg))

theorem zipNext_item {Q : Value → Shared → Prop} (S : ZipSep2 z TI TO i1 i2 fp1 fp2) (D1 : Draws prog w A i1 fp1 n1 P1 St1) (D2 : Draws prog w A i2 fp2 n2 P2 St2) (hz : ZipO s.heap z TI TO v f) (hv : Out v) (hTI : IsTupOf2 s.heap TI (.ref i1) (.ref i2)) (hTO : IsTupOf2 s.heap TO a1 a2) (q1 : St1 i s.heap) (q2 : St2 i s.heap) (l1 : i < n1) (l2 : i < n2)
    (hQ : ∀ (y1 y2 : Value) (g : Heap) (tk : Nat) (v' : Value) (f' : Bool), P1 i y1 → P2 i y2 → Out v' → ZipO g z TI TO v' f' → (∃ b1 b2, IsTupOf2 g TO b1 b2) → St1 (i + 1) g → St2 (i + 1) g → IsTupOf2 g s.heap.objs.size y1 y2 → (∀ c o, c ≠ z → c ≠ TO → c ≠ i1 → c ≠ i2 → s.heap.get? c = some o → g.get? c = some o) → Q (.ref s.heap.objs.size) { s with heap := g, toks := tk }) :
    wpAny (model prog w) A (Builtin.«zip.__next__» ⟨[.ref z], []⟩) (fun r t => ∃ u, r = .done (.ret u) ∧ Q u t) E s := by
  obtain ⟨h0, gs, ds, k0, os⟩ := s
  have zlt : z < h0.objs.size := Heap.lt_size hz
  show wpAny _ _ (field (.ref z) 2 >>= fun _ => _) _ _ _
  refine wpAny_bind (wpAny_field hz rfl (x := .bool false) rfl ?_)
  show wpAny _ _ (field (.ref z) 3 >>= fun _ => _) _ _ _
  refine wpAny_bind (wpAny_field hz rfl (x := .ref TI) rfl (wpAny_bind (wpAny_seqItems hTI rfl ?_)))
  show wpAny _ _ (Builtin.SmallTypes.ownedTupleIsFree (.ref z) >>= fun _ => _) _ _ _
  refine wpAny_bind (isFree_any hz hv ?_ fun g0 hz0 s0 => ?_)
  · rw [if_pos rfl]
    refine wpAny_bind (wpAny_rule (wpAny_bind (wpAny_field hz rfl (x := .ref TO) rfl (wpAny_bind (wpAny_setField_rec hz (by simp) fun g0 hz0 s0 => ?_)))))
    have zz0 : ZipO g0 z TI TO .ellipsis f := hz0
    have c0 : Heap.SameBut z h0 g0 := s0
    clear hz0 s0
    refine wpAny_bind ?_
    simp only [List.zipIdx_cons, List.zipIdx_nil, List.forIn_cons, List.forIn_nil]
    refine wpAny_bind (wpAny_bind (wpAny_onRaise ?_))
    show wpAny _ _ (Builtin.SmallTypes.nextOf (.ref i1) >>= fun _ => _) _ _ ⟨g0, gs, ds, k0, os⟩
    refine wpAny_bind (D1.item i _ _ _ l1 (D1.over q1 c0 S.zf1) fun y1 p1 k1 r1 w1 b1 => wpAny_pure ?_)
    have c1 : Heap.SameBut i1 g0 p1 := b1
    have T1 : IsTupOf2 p1 TO a1 a2 := c1.extBut _ _ S.Ti1 (c0.extBut _ _ S.TOz hTO)
    refine wpAny_bind (wpAny_seqItems (s := ⟨p1, gs, ds, k1, os⟩) T1 rfl (wpAny_bind (updateSeq_IsTupOf2 (s := ⟨p1, gs, ds, k1, os⟩) T1 fun g1 hT1 b2 => ?_)))
    have T2 : IsTupOf2 g1 TO y1 a2 := hT1
    have c2 : Heap.SameBut TO p1 g1 := b2
    refine wpAny_bind (wpAny_letGo (wpAny_pure (wpAny_bind (wpAny_bind (wpAny_onRaise ?_)))))
    show wpAny _ _ (Builtin.SmallTypes.nextOf (.ref i2) >>= fun _ => _) _ _ ⟨g1, gs, ds, k1, os⟩
    refine wpAny_bind (D2.item i _ _ _ l2 (D2.over (D2.over (D2.over q2 c0 S.zf2) c1 S.sep1_2) c2 S.Tf2) fun y2 p2 k2 r2 w2 b3 => wpAny_pure ?_)
    have c3 : Heap.SameBut i2 g1 p2 := b3
    have T3 : IsTupOf2 p2 TO y1 a2 := c3.extBut _ _ S.Ti2 T2
    refine wpAny_bind (wpAny_seqItems (s := ⟨p2, gs, ds, k2, os⟩) T3 rfl (wpAny_bind (updateSeq_IsTupOf2 (s := ⟨p2, gs, ds, k2, os⟩) T3 fun g2 hT3 b4 => ?_)))
    have T4 : IsTupOf2 g2 TO y1 y2 := hT3
    have c4 : Heap.SameBut TO p2 g2 := b4
    refine wpAny_bind (wpAny_letGo (wpAny_pure (wpAny_pure (wpAny_bind (wpAny_seqItems (s := ⟨g2, gs, ds, k2, os⟩) T4 rfl (wpAny_bind (wpAny_newTuple ?_)))))))
    have size2 : g2.objs.size = h0.objs.size := by rw [c4.1, c3.1, c2.1, c1.1, c0.1]
    have thru : ∀ c o, c ≠ TO → c ≠ i1 → c ≠ i2 → g0.get? c = some o → g2.get? c = some o := fun c o n1 n2 n3 e => c4.extBut _ _ n1 (c3.extBut _ _ n3 (c2.extBut _ _ n1 (c1.extBut _ _ n2 e)))
    have zz2 : ZipO g2 z TI TO .ellipsis f := thru _ _ S.TOz.symm S.zi1 S.zi2 zz0
    have w1' : St1 (i + 1) g2 := D1.over (D1.over (D1.over w1 c2 S.Tf1) c3 S.sep2_1) c4 S.Tf1
    have w2' : St2 (i + 1) g2 := D2.over w2 c4 S.Tf2
    show wpAny _ _ (Builtin.SmallTypes.ownedTupleHandOut (.ref z) (.ref g2.objs.size) >>= fun _ => _) _ _ ⟨g2.push { cls := .type "tuple", data := .seq #[y1, y2] }, gs, ds, k2, os⟩
    refine wpAny_bind ?_
    unfold Builtin.SmallTypes.ownedTupleHandOut
    have zz3 : ZipO (g2.push { cls := .type "tuple", data := .seq #[y1, y2] }) z TI TO .ellipsis f := Heap.get?_push_of_some _ zz2
    refine wpAny_bind (wpAny_setField_rec zz3 (by simp) fun g4 hz4 b5 => wpAny_setField_rec (show ZipO g4 z TI TO (rawInt g2.objs.size) f from hz4) (by simp) fun g5 hz5 b6 => ?_)
    have zz5 : ZipO g5 z TI TO (rawInt g2.objs.size) false := hz5
    have c5 : Heap.SameBut z (g2.push { cls := .type "tuple", data := .seq #[y1, y2] }) g4 := b5
    have c6 : Heap.SameBut z g4 g5 := b6
    have up : ∀ c o, c ≠ z → (g2.push { cls := .type "tuple", data := .seq #[y1, y2] }).get? c = some o → g5.get? c = some o := fun c o n e => c6.extBut _ _ n (c5.extBut _ _ n e)
    have up2 : ∀ c o, c ≠ z → g2.get? c = some o → g5.get? c = some o := fun c o n e => up c o n (Heap.get?_push_of_some _ e)
    have TN : IsTupOf2 g5 g2.objs.size y1 y2 := up _ _ (by rw [size2]; exact Nat.ne_of_gt zlt) (Heap.get?_push_size _ rfl)
    refine wpAny_pure ⟨_, rfl, ?_⟩
    show Q (.ref g2.objs.size) ⟨g5, gs, ds, k2, os⟩
    rw [size2] at zz5 TN ⊢
    exact hQ y1 y2 g5 k2 _ false r1 r2 (.inr ⟨_, rfl⟩) zz5 ⟨_, _, up2 _ _ S.TOz T4⟩ (D1.frame _ _ _ w1' fun b hb o e => up2 b o (fun q => S.zf1 (q ▸ hb)) e) (D2.frame _ _ _ w2' fun b hb o e => up2 b o (fun q => S.zf2 (q ▸ hb)) e) TN
      fun c o n0 n1 n2 n3 e => up2 c o n0 (thru c o n1 n2 n3 (c0.extBut _ _ n0 e))
  · rw [if_neg Bool.false_ne_true]
    have zz0 : ZipO g0 z TI TO v true := hz0
    have c0 : Heap.SameBut z h0 g0 := s0
    refine wpAny_bind ?_
    rw [← Array.forIn_toList]
    simp only [List.forIn_cons, List.forIn_nil]
    refine wpAny_bind (wpAny_bind (wpAny_holding ?_))
    show wpAny _ _ (Builtin.SmallTypes.nextOf (.ref i1) >>= fun _ => _) _ _ ⟨g0, gs, ds, k0, os⟩
    refine wpAny_bind (D1.item i _ _ _ l1 (D1.over q1 c0 S.zf1) fun y1 p1 k1 r1 w1 b1 => wpAny_pure (wpAny_pure ?_))
    have c1 : Heap.SameBut i1 g0 p1 := b1
    refine wpAny_bind (wpAny_bind (wpAny_holding ?_))
    show wpAny _ _ (Builtin.SmallTypes.nextOf (.ref i2) >>= fun _ => _) _ _ ⟨p1, gs, ds, k1, os⟩
    refine wpAny_bind (D2.item i _ _ _ l2 (D2.over (D2.over q2 c0 S.zf2) c1 S.sep1_2) fun y2 p2 k2 r2 w2 b3 => wpAny_pure (wpAny_pure (wpAny_pure ?_)))
    have c3 : Heap.SameBut i2 p1 p2 := b3
    show wpAny _ _ (newTuple [y1, y2] >>= fun _ => _) _ _ ⟨p2, gs, ds, k2, os⟩
    refine wpAny_bind (wpAny_newTuple (wpAny_pure ⟨_, rfl, ?_⟩))
    have size2 : p2.objs.size = h0.objs.size := by rw [c3.1, c1.1, c0.1]
    have thru : ∀ c o, c ≠ i1 → c ≠ i2 → g0.get? c = some o → p2.get? c = some o := fun c o n2 n3 e => c3.extBut _ _ n3 (c1.extBut _ _ n2 e)
    have up : ∀ c o, p2.get? c = some o → (p2.push { cls := .type "tuple", data := .seq #[y1, y2] }).get? c = some o := fun c o e => Heap.get?_push_of_some _ e
    have TN : IsTupOf2 (p2.push { cls := .type "tuple", data := .seq #[y1, y2] }) p2.objs.size y1 y2 := Heap.get?_push_size _ rfl
    have w1' : St1 (i + 1) p2 := D1.over w1 c3 S.sep2_1
    show Q (.ref p2.objs.size) ⟨p2.push { cls := .type "tuple", data := .seq #[y1, y2] }, gs, ds, k2, os⟩
    rw [size2] at TN ⊢
    exact hQ y1 y2 _ k2 v true r1 r2 hv (up _ _ (thru _ _ S.zi1 S.zi2 zz0)) ⟨_, _, up _ _ (thru _ _ S.Ti1 S.Ti2 (c0.extBut _ _ S.TOz hTO))⟩ (D1.frame _ _ _ w1' fun b hb o e => up b o e) (D2.frame _ _ _ w2 fun b hb o e => up b o e) TN
      fun c o n0 n1 n2 n3 e => up c o (thru c o n2 n3 (c0.extBut _ _ n0 e))

theorem zipNext_end {Q : Fin → Shared → Prop} (S : ZipSep2 z TI TO i1 i2 fp1 fp2) (D1 : Draws prog w A i1 fp1 n1 P1 St1) (D2 : Draws prog w A i2 fp2 n2 P2 St2) (hz : ZipO s.heap z TI TO v f) (hv : Out v) (hTI : IsTupOf2 s.heap TI (.ref i1) (.ref i2)) (hTO : IsTupOf2 s.heap TO a1 a2) (q1 : St1 i s.heap) (q2 : St2 i s.heap) (l1 : i ≤ n1) (l2 : i ≤ n2) (hend : i = n1 ∨ i = n2)
    (hE : ∀ (g : Heap) (tk : Nat) (x : Addr), (∀ c o, c ≠ z → c ≠ TO → c ≠ i1 → c ≠ i2 → s.heap.get? c = some o → g.get? c = some o) → (∃ o, g.get? x = some o ∧ o.cls = .type "StopIteration") → E (.ref x) { s with heap := g, toks := tk }) :
    wpAny (model prog w) A (Builtin.«zip.__next__» ⟨[.ref z], []⟩) Q E s := by
  obtain ⟨h0, gs, ds, k0, os⟩ := s
  have back : ∀ {q : Heap} {k : Nat} {x : Addr}, ZipO q z TI TO .ellipsis f → (∀ c o, c ≠ z → c ≠ TO → c ≠ i1 → c ≠ i2 → h0.get? c = some o → q.get? c = some o) → (∃ o, q.get? x = some o ∧ o.cls = .type "StopIteration") → wpAny (model prog w) A (setField (.ref z) 0 .none) (fun _ t => E (.ref x) t) E ⟨q, gs, ds, k, os⟩ := fun {q k x} zq kp he => by
    obtain ⟨oe, hoe, hce⟩ := he
    have hne : x ≠ z := fun e => by
      rw [e, zq] at hoe
      cases hoe
      exact absurd hce (by simp)
    refine wpAny_setField_rec (s := ⟨q, gs, ds, k, os⟩) zq (by simp) fun q' _ b => ?_
    have c : Heap.SameBut z q q' := b
    exact hE q' k x (fun b o n0 n1 n2 n3 e => c.extBut _ _ n0 (kp b o n0 n1 n2 n3 e)) ⟨oe, c.extBut _ _ hne hoe, hce⟩
  show wpAny _ _ (field (.ref z) 2 >>= fun _ => _) _ _ _
  refine wpAny_bind (wpAny_field hz rfl (x := .bool false) rfl ?_)
  show wpAny _ _ (field (.ref z) 3 >>= fun _ => _) _ _ _
  refine wpAny_bind (wpAny_field hz rfl (x := .ref TI) rfl (wpAny_bind (wpAny_seqItems hTI rfl ?_)))
  show wpAny _ _ (Builtin.SmallTypes.ownedTupleIsFree (.ref z) >>= fun _ => _) _ _ _
  refine wpAny_bind (isFree_any hz hv ?_ fun g0 hz0 s0 => ?_)
  · rw [if_pos rfl]
    refine wpAny_bind (wpAny_rule (wpAny_bind (wpAny_field hz rfl (x := .ref TO) rfl (wpAny_bind (wpAny_setField_rec hz (by simp) fun g0 hz0 s0 => ?_)))))
    have zz0 : ZipO g0 z TI TO .ellipsis f := hz0
    have c0 : Heap.SameBut z h0 g0 := s0
    clear hz0 s0
    refine wpAny_bind ?_
    simp only [List.zipIdx_cons, List.zipIdx_nil, List.forIn_cons, List.forIn_nil]
    refine wpAny_bind (wpAny_bind (wpAny_onRaise ?_))
    show wpAny _ _ (Builtin.SmallTypes.nextOf (.ref i1) >>= fun _ => _) _ _ ⟨g0, gs, ds, k0, os⟩
    by_cases lt : i < n1
    · refine wpAny_bind (D1.item i _ _ _ lt (D1.over q1 c0 S.zf1) fun y1 p1 k1 r1 w1 b1 => wpAny_pure ?_)
      have c1 : Heap.SameBut i1 g0 p1 := b1
      have T1 : IsTupOf2 p1 TO a1 a2 := c1.extBut _ _ S.Ti1 (c0.extBut _ _ S.TOz hTO)
      refine wpAny_bind (wpAny_seqItems (s := ⟨p1, gs, ds, k1, os⟩) T1 rfl (wpAny_bind (updateSeq_IsTupOf2 (s := ⟨p1, gs, ds, k1, os⟩) T1 fun g1 hT1 b2 => ?_)))
      have c2 : Heap.SameBut TO p1 g1 := b2
      refine wpAny_bind (wpAny_letGo (wpAny_pure (wpAny_bind (wpAny_bind (wpAny_onRaise ?_)))))
      show wpAny _ _ (Builtin.SmallTypes.nextOf (.ref i2) >>= fun _ => _) _ _ ⟨g1, gs, ds, k1, os⟩
      have e2 : i = n2 := by omega
      have w2 : St2 n2 g1 := e2 ▸ D2.over (D2.over (D2.over q2 c0 S.zf2) c1 S.sep1_2) c2 S.Tf2
      refine wpAny_bind (D2.done ⟨g1, gs, ds, k1, os⟩ _ _ w2 fun q x hq he => ?_)
      have hq' : Heap.ExtBut i2 g1 q := hq
      exact back (hq' _ _ S.zi2 (c2.extBut _ _ S.TOz.symm (c1.extBut _ _ S.zi1 zz0))) (fun c o n0 n1 n2 n3 e => hq' _ _ n3 (c2.extBut _ _ n1 (c1.extBut _ _ n2 (c0.extBut _ _ n0 e)))) he
    · have e1 : i = n1 := by omega
      have w1 : St1 n1 g0 := e1 ▸ D1.over q1 c0 S.zf1
      refine wpAny_bind (D1.done ⟨g0, gs, ds, k0, os⟩ _ _ w1 fun q x hq he => ?_)
      have hq' : Heap.ExtBut i1 g0 q := hq
      exact back (hq' _ _ S.zi1 zz0) (fun c o n0 n1 n2 n3 e => hq' _ _ n2 (c0.extBut _ _ n0 e)) he
  · rw [if_neg Bool.false_ne_true]
    have c0 : Heap.SameBut z h0 g0 := s0
    refine wpAny_bind ?_
    rw [← Array.forIn_toList]
    simp only [List.forIn_cons, List.forIn_nil]
    refine wpAny_bind (wpAny_bind (wpAny_holding ?_))
    show wpAny _ _ (Builtin.SmallTypes.nextOf (.ref i1) >>= fun _ => _) _ _ ⟨g0, gs, ds, k0, os⟩
    by_cases lt : i < n1
    · refine wpAny_bind (D1.item i _ _ _ lt (D1.over q1 c0 S.zf1) fun y1 p1 k1 r1 w1 b1 => wpAny_pure (wpAny_pure ?_))
      have c1 : Heap.SameBut i1 g0 p1 := b1
      refine wpAny_bind (wpAny_bind (wpAny_holding ?_))
      show wpAny _ _ (Builtin.SmallTypes.nextOf (.ref i2) >>= fun _ => _) _ _ ⟨p1, gs, ds, k1, os⟩
      have e2 : i = n2 := by omega
      have w2 : St2 n2 p1 := e2 ▸ D2.over (D2.over q2 c0 S.zf2) c1 S.sep1_2
      refine wpAny_bind (D2.done ⟨p1, gs, ds, k1, os⟩ _ _ w2 fun q x hq he => ?_)
      have hq' : Heap.ExtBut i2 p1 q := hq
      exact hE q k1 x (fun c o n0 n1 n2 n3 e => hq' _ _ n3 (c1.extBut _ _ n2 (c0.extBut _ _ n0 e))) he
    · have e1 : i = n1 := by omega
      have w1 : St1 n1 g0 := e1 ▸ D1.over q1 c0 S.zf1
      refine wpAny_bind (D1.done ⟨g0, gs, ds, k0, os⟩ _ _ w1 fun q x hq he => ?_)
      have hq' : Heap.ExtBut i1 g0 q := hq
      exact hE q k0 x (fun c o n0 n1 n2 n3 e => hq' _ _ n2 (c0.extBut _ _ n0 e)) he
end
end GX

set_option Elab.async false
set_option linter.all false
set_option maxRecDepth 100000
set_option maxHeartbeats 4000000
/-! zip of two tuples, one name as target: the rule -/
namespace GX
open PySem PySem.Spec PyProof.Rows L2
section
variable {prog : Program} {w : World} {A : Around} {E : Value → Shared → Prop} {s : Shared} {z TI TO i1 i2 : Addr} {fp1 fp2 : List Addr} {n1 n2 i : Nat} {P1 P2 : Nat → Value → Prop} {St1 St2 : Nat → Heap → Prop} {a1 a2 v : Value} {f : Bool}
theorem zipIter_any {Q : Value → Shared → Prop} (hz : ZipO s.heap z TI TO v f) (h : Q (.ref z) s) : wpAny (model prog w) A (pyIter (.ref z)) Q E s := by
  have ty : s.TypeIs (.ref z) "zip" := ⟨_, hz, rfl⟩
  refine wpAny_pyIter_slot ty F.slot_zip_iter (wpAny_call_entry F.slot_zip_iter ty F.entry_zip_iter (show wpAny _ _ (ret (.ref z)) _ _ s from wpAny_pure ⟨_, rfl, "zip", _, ty, F.slot_zip_next.lookup, h⟩) (F.args_zip_iter_1 _))
theorem zipItem_any {Q : Option Value → Shared → Prop} (S : ZipSep2 z TI TO i1 i2 fp1 fp2) (D1 : Draws prog w A.in1 i1 fp1 n1 P1 St1) (D2 : Draws prog w A.in1 i2 fp2 n2 P2 St2) (hz : ZipO s.heap z TI TO v f) (hv : Out v) (hTI : IsTupOf2 s.heap TI (.ref i1) (.ref i2)) (hTO : IsTupOf2 s.heap TO a1 a2) (q1 : St1 i s.heap) (q2 : St2 i s.heap) (l1 : i < n1) (l2 : i < n2)
    (hQ : ∀ (y1 y2 : Value) (g : Heap) (tk : Nat) (v' : Value) (f' : Bool), P1 i y1 → P2 i y2 → Out v' → ZipO g z TI TO v' f' → (∃ b1 b2, IsTupOf2 g TO b1 b2) → St1 (i + 1) g → St2 (i + 1) g → IsTupOf2 g s.heap.objs.size y1 y2 → (∀ c o, c ≠ z → c ≠ TO → c ≠ i1 → c ≠ i2 → s.heap.get? c = some o → g.get? c = some o) → Q (some (.ref s.heap.objs.size)) { s with heap := g, toks := tk }) :
    wpAny (model prog w) A (pyNext (.ref z)) Q E s := by
  have ty : s.TypeIs (.ref z) "zip" := ⟨_, hz, rfl⟩
  unfold pyNext
  exact wpAny_bind (wpAny_attempt (wpAny_callSpecial?_slot (name := Str.ofString "__next__") ty F.slot_zip_next (wpAny_call_entry F.slot_zip_next ty F.entry_zip_next
    (zipNext_item S D1 D2 hz hv hTI hTO q1 q2 l1 l2 fun y1 y2 g tk v' f' e1 e2 e3 e4 e5 e6 e7 e8 e9 => wpAny_pure (hQ y1 y2 g tk v' f' e1 e2 e3 e4 e5 e6 e7 e8 e9)) (F.args_zip_next_1 _))))
theorem zipEnd_any {Q : Option Value → Shared → Prop} (S : ZipSep2 z TI TO i1 i2 fp1 fp2) (D1 : Draws prog w A.in1 i1 fp1 n1 P1 St1) (D2 : Draws prog w A.in1 i2 fp2 n2 P2 St2) (hz : ZipO s.heap z TI TO v f) (hv : Out v) (hTI : IsTupOf2 s.heap TI (.ref i1) (.ref i2)) (hTO : IsTupOf2 s.heap TO a1 a2) (q1 : St1 i s.heap) (q2 : St2 i s.heap) (l1 : i ≤ n1) (l2 : i ≤ n2) (hend : i = n1 ∨ i = n2)
    (hQ : ∀ (g : Heap) (tk : Nat), (∀ c o, c ≠ z → c ≠ TO → c ≠ i1 → c ≠ i2 → s.heap.get? c = some o → g.get? c = some o) → Q none { s with heap := g, toks := tk }) : wpAny (model prog w) A (pyNext (.ref z)) Q E s := by
  have ty : s.TypeIs (.ref z) "zip" := ⟨_, hz, rfl⟩
  unfold pyNext
  refine wpAny_bind (wpAny_attempt (wpAny_callSpecial?_slot (name := Str.ofString "__next__") ty F.slot_zip_next (wpAny_call_entry F.slot_zip_next ty F.entry_zip_next (zipNext_end S D1 D2 hz hv hTI hTO q1 q2 l1 l2 hend fun g tk x hk he => ?_) (F.args_zip_next_1 _))))
  obtain ⟨o, ho, hc⟩ := he
  exact wpAny_bind (wpAny_isInstance (T := "StopIteration") (b := true) ⟨o, ho, hc⟩ isSubtype_stop (wpAny_pure (hQ g tk hk)))
end
/-- two tuples, the items in new pairs -/
def Itz1 (K : PySem.W.Frag) (a b : Addr) : It where
  go i H := ∃ xs ys x y, SqT K H a xs ∧ SqT K H b ys ∧ xs[i]? = some x ∧ ys[i]? = some y
  yld i H v H' := ∃ T x y, v = .ref T ∧ H T = none ∧ H' = upd H T (.tup [x, y]) ∧ (∀ xs, SqT K H a xs → xs[i]? = some x) ∧ ∀ ys, SqT K H b ys → ys[i]? = some y
  stop i H := ∃ xs ys, SqT K H a xs ∧ SqT K H b ys ∧ min xs.length ys.length = i
theorem turn_zip1 {P : Program} {w : World} {K : PySem.W.Frag} {nm : Str} {ps : Pos} {a b z TI TO i1 i2 : Addr} (S : ZipSep2 z TI TO i1 i2 [i1, a] [i2, b]) (na : a ≠ i1) (nb : b ≠ i2) :
    Turn P w K (.Name nm ps) (Itz1 K a b) [z, TI, TO, i1, i2] z (fun i h => (∃ v f, Out v ∧ ZipO h z TI TO v f) ∧ IsTupOf2 h TI (.ref i1) (.ref i2) ∧ (∃ u v, IsTupOf2 h TO u v) ∧ h.IsTupleIter i1 a i ∧ h.IsTupleIter i2 b i) where
  mem := List.mem_cons_self ..
  obj := fun i h st c hc => by
    obtain ⟨⟨v, f, _, hz⟩, hTI, ⟨x, y, hTO⟩, ⟨o1, e1, _, d1⟩, ⟨o2, e2, _, d2⟩⟩ := st
    simp only [List.mem_cons, List.not_mem_nil, or_false] at hc
    rcases hc with rfl | rfl | rfl | rfl | rfl
    · exact ⟨_, hz, fun v q => nomatch q⟩
    · exact ⟨_, hTI, fun v q => nomatch q⟩
    · exact ⟨_, hTO, fun v q => nomatch q⟩
    · exact ⟨o1, e1, fun v q => by rw [d1] at q; cases q⟩
    · exact ⟨o2, e2, fun v q => by rw [d2] at q; cases q⟩
  keep := fun i h h' st k => by
    obtain ⟨⟨v, f, hv, hz⟩, hTI, ⟨x, y, hTO⟩, h1, h2⟩ := st
    exact ⟨⟨v, f, hv, k z (by simp) _ hz⟩, k TI (by simp) _ hTI, ⟨x, y, k TO (by simp) _ hTO⟩, h1.at fun o q => k i1 (by simp) o q, h2.at fun o q => k i2 (by simp) o q⟩
  item := by
    intro X hP hw hK hc i pins s σ H E I hf st hg
    subst hP hw hK
    obtain ⟨⟨v, f, hv, hz⟩, hTI, hTO, h1, h2⟩ := st
    obtain ⟨xs, ys, x, y, hqx, hqy, hx, hy⟩ := hg
    obtain ⟨its, rv, p, _⟩ := I.tuple hqx
    obtain ⟨its2, rv2, p2, _⟩ := I.tuple hqy
    have t1 : s.heap.IsTuple a its.toArray := p
    have t2 : s.heap.IsTuple b its2.toArray := p2
    obtain ⟨u, hu, ru⟩ := rv.get hx
    obtain ⟨u2, hu2, ru2⟩ := rv2.get hy
    have hd := I.ok.hd hc
    have lt1 : i < its.toArray.size := by
      rw [List.size_toArray]
      exact (List.getElem?_eq_some_iff.mp hu).1
    have lt2 : i < its2.toArray.size := by
      rw [List.size_toArray]
      exact (List.getElem?_eq_some_iff.mp hu2).1
    obtain ⟨u0, v0, hTO0⟩ := hTO
    refine zipItem_any S (Draws.tuple (A := X.A.in1) hd i1 a na its.toArray) (Draws.tuple (A := X.A.in1) hd i2 b nb its2.toArray) hz hv hTI hTO0 ⟨h1, t1⟩ ⟨h2, t2⟩ lt1 lt2 fun y1 y2 g tk v' f' e1 e2 hv' hz' hTO' w1 w2 hT hk => ?_
    have q1 : y1 = u := by
      have q : its[i]? = some y1 := by simpa using e1
      rw [hu] at q
      exact (Option.some.inj q).symm
    have q2 : y2 = u2 := by
      have q : its2[i]? = some y2 := by simpa using e2
      rw [hu2] at q
      exact (Option.some.inj q).symm
    subst q1 q2
    have new : ObjOk X.prog X.w (upd H s.heap.objs.size (.tup [x, y])) g s.heap.objs.size (.tup [x, y]) := ⟨by show 2 ≤ sizeLine; decide, [y1, y2], .cons ru (.cons ru2 .nil), ⟨_, hT, rfl, _, rfl⟩⟩
    have I1 : Inv X pins σ (upd H s.heap.objs.size (.tup [x, y])) { s with heap := g, toks := tk } :=
      I.turnedNew (t' := tk) (ch := [z, TI, TO, i1, i2]) (fun c o hb q => hk c o (fun e => hb (by simp [e])) (fun e => hb (by simp [e])) (fun e => hb (by simp [e])) (fun e => hb (by simp [e])) q) hf (Nat.le_refl _) new
    have hTn : H s.heap.objs.size = none := I.hok.fresh (Nat.le_refl _)
    refine ⟨_, rfl, (wpAny_pure ⟨.ref s.heap.objs.size, _, I1, rfl, ⟨_, x, y, rfl, hTn, rfl, fun l hl => by rw [I.tuple_inj hl hqx]; exact hx, fun l hl => by rw [I.tuple_inj hl hqy]; exact hy⟩, ⟨⟨v', f', hv', hz'⟩, hk _ _ S.TIz S.TITO S.TIi1 S.TIi2 hTI, hTO', w1.1, w2.1⟩, fun c hcm => ?_⟩)⟩
    have hlt : c < s.heap.objs.size := by
      simp only [List.mem_cons, List.not_mem_nil, or_false] at hcm
      rcases hcm with rfl | rfl | rfl | rfl | rfl
      · exact Heap.lt_size hz
      · exact Heap.lt_size hTI
      · exact Heap.lt_size hTO0
      · obtain ⟨_, e1, _⟩ := h1; exact Heap.lt_size e1
      · obtain ⟨_, e2, _⟩ := h2; exact Heap.lt_size e2
    rw [upd_ne (Nat.ne_of_lt hlt)]
    exact (hf c hcm).1
  done := by
    intro X hP hw hK hc i pins s σ H E I hf st hg
    subst hP hw hK
    obtain ⟨⟨v, f, hv, hz⟩, hTI, ⟨u0, v0, hTO⟩, h1, h2⟩ := st
    obtain ⟨xs, ys, hqx, hqy, hend⟩ := hg
    obtain ⟨its, rv, p, _⟩ := I.tuple hqx
    obtain ⟨its2, rv2, p2, _⟩ := I.tuple hqy
    have t1 : s.heap.IsTuple a its.toArray := p
    have t2 : s.heap.IsTuple b its2.toArray := p2
    have hd := I.ok.hd hc
    have m1 := rv.length
    have m2 := rv2.length
    have s1 : its.toArray.size = xs.length := by rw [List.size_toArray, m1]
    have s2 : its2.toArray.size = ys.length := by rw [List.size_toArray, m2]
    refine zipEnd_any S (Draws.tuple (A := X.A.in1) hd i1 a na its.toArray) (Draws.tuple (A := X.A.in1) hd i2 b nb its2.toArray) hz hv hTI hTO ⟨h1, t1⟩ ⟨h2, t2⟩ (by omega) (by omega) (by omega) fun g tk hk => ⟨rfl, I.turnedL (t' := tk) (ch := [z, TI, TO, i1, i2]) (fun c o hb q => hk c o (fun e => hb (by simp [e])) (fun e => hb (by simp [e])) (fun e => hb (by simp [e])) (fun e => hb (by simp [e])) q) hf⟩
  self := fun A i s Q E st h => let ⟨v, f, _, hz⟩ := st.1; zipIter_any hz h
theorem walk_zip1 {K : PySem.W.Frag} {a b : Addr} {xs ys : List V} {n : Nat} (hn : n = min xs.length ys.length) : Walk (Itz1 K a b) n (fun H => SqT K H a xs ∧ SqT K H b ys) (YPair (fun i => xs[i]?) (fun i => ys[i]?)) where
  goes := fun i H hi hq => ⟨xs, ys, xs[i]'(by omega), ys[i]'(by omega), hq.1, hq.2, List.getElem?_eq_getElem _, List.getElem?_eq_getElem _⟩
  stops := fun H hq => ⟨xs, ys, hq.1, hq.2, hn.symm⟩
  yields := fun i H x H' hi hq ⟨T, u, v, e, nn, w, z1, z2⟩ => ⟨T, u, v, e, nn, w, z1 xs hq.1, z2 ys hq.2⟩
def iZip1 (K : PySem.W.Frag) (ta : TA) : TI := fun σ H R => ta σ H fun vs H1 => ∃ a b xs ys, vs = [.ref a, .ref b] ∧ SqT K H1 a xs ∧ SqT K H1 b ys ∧ R (Itz1 K a b) H1
theorem pi_zip1 {X : Cx} {e e2 : Expr} {ta : TA} {p pos ps : Pos} {nm : Str} (hg : Gl X "zip") (hm : X.mg "zip" = none) (ha : PA X [e, e2] ta)
    (hs : starEach [e, e2] X.env = (false, eval e X.env) :: starEach [e2] X.env := by rfl) (hpl : (backTo pos (starEach [e2] X.env)).any (·.1) = false := by rfl) :
    PI X (.Name nm ps) (.Call (.Name "zip" p) [e, e2] [] pos) (iZip1 X.K ta) := by
  refine ⟨fun pins s σ H R I h => Call_ (ld_blt I hg hm PyProof.Rows.boot_zip (PyProof.Rows.callWith_type1 (thn (ha.run pos pins s σ H _ I h) fun us s1 hx => ?_) hs hpl))⟩
  obtain ⟨vs, H1, I1, r1, a, b, xs, ys, rfl, hqx, hqy, q⟩ := hx
  cases r1 with
  | cons r rr =>
    cases rr with
    | cons r' rr =>
      cases rr
      cases r
      cases r'
      obtain ⟨its, rv, p1, _⟩ := I1.tuple hqx
      obtain ⟨its2, rv2, p2, _⟩ := I1.tuple hqy
      have t1 : s1.heap.IsTuple a its.toArray := p1
      have t2 : s1.heap.IsTuple b its2.toArray := p2
      have la : a < s1.heap.objs.size := by obtain ⟨_, e, _⟩ := id t1; exact Heap.lt_size e
      have lb : b < s1.heap.objs.size := by obtain ⟨_, e, _⟩ := id t2; exact Heap.lt_size e
      refine zip_begins2 (begins_tuple a its.toArray) (begins_tuple b its2.toArray) t1 t2 fun h' hz hTI hTO h1 h2 hsz hk => zipIter_any (f := false) hz ?_
      have I2 : Inv X pins σ H1 { s1 with heap := h' } := I1.kept (t' := s1.toks) hk
      refine ⟨s1.heap.objs.size + 4, [s1.heap.objs.size + 4, s1.heap.objs.size + 2, s1.heap.objs.size + 3, s1.heap.objs.size, s1.heap.objs.size + 1], _, _, H1, rfl, I2, turn_zip1 (zsep _ a b la lb) (Nat.ne_of_lt la) (Nat.ne_of_lt (Nat.lt_succ_of_lt lb)), ⟨⟨_, false, .inl rfl, hz⟩, hTI, ⟨_, _, hTO⟩, ⟨_, h1, rfl, rfl⟩, ⟨_, h2, rfl, rfl⟩⟩, fun c hcm => ?_, q⟩
      have hle : s1.heap.objs.size ≤ c := by
        simp only [List.mem_cons, List.not_mem_nil, or_false] at hcm
        rcases hcm with rfl | rfl | rfl | rfl | rfl
        · exact Nat.le_add_right _ _
        · exact Nat.le_add_right _ _
        · exact Nat.le_add_right _ _
        · exact Nat.le_refl _
        · exact Nat.le_add_right _ _
      exact I1.fpOk hle (I1.hok.fresh hle)
theorem piZip1 (K : PySem.W.Frag) {X : Cx} {e e2 : Expr} {ta : TA} {p pos ps : Pos} {nm : Str} (hg : Gl X "zip") (hm : X.mg "zip" = none) (ha : PA X [e, e2] ta) (hK : X.K = K := by rfl)
    (hs : starEach [e, e2] X.env = (false, eval e X.env) :: starEach [e2] X.env := by rfl) (hpl : (backTo pos (starEach [e2] X.env)).any (·.1) = false := by rfl) :
    PI X (.Name nm ps) (.Call (.Name "zip" p) [e, e2] [] pos) (iZip1 K ta) := hK ▸ pi_zip1 hg hm ha hs hpl
end GX

set_option Elab.async false
set_option linter.all false
set_option maxRecDepth 100000
set_option maxHeartbeats 8000000
/-! the law's drawn rules -/
namespace G9
open PySem PySem.Spec PyProof.Rows L2 GX
theorem sortedTK (K : PySem.W.Frag) {X : Cx} (h : X.K = K := by rfl) : CallR X (.builtin "sorted") (fun vs H Q => ∃ (a : Addr) (ns : List Int), vs = [V.ref a] ∧ SqT K H a (ns.map V.int) ∧ ∀ (ns' : List Int) (p : Addr), ns'.Perm ns → ns'.Pairwise (· ≤ ·) → H p = none → Q (.ref p) (upd H p (.lst (ns'.map V.int)))) := h ▸ cr_sortedTI
theorem pairs_of {H : Hp} : ∀ {xs : List V}, (∀ x ∈ xs, ∃ (t : Addr) (p q : Int), x = V.ref t ∧ H t = some (.tup [.int p, .int q]) ∧ Few p ∧ Few q) → ∃ ties : List (Int × Int), Paired (fun x q => IH H x (tie2 q)) xs ties ∧ ties.length = xs.length ∧ ∀ q ∈ ties, Few q.1 ∧ Few q.2
  | [], _ => ⟨[], .nil, rfl, fun q hq => by cases hq⟩
  | x :: xs, h => by
    obtain ⟨ties, p, l, fw⟩ := pairs_of (xs := xs) fun y hy => h y (List.mem_cons_of_mem _ hy)
    obtain ⟨t, i, j, e, z, fi, fj⟩ := h x (List.mem_cons_self ..)
    exact ⟨(i, j) :: ties, .cons ⟨t, e, z⟩ p, by rw [List.length_cons, l, List.length_cons], fun q hq => (List.mem_cons.mp hq).elim (fun z => by rw [z]; exact ⟨fi, fj⟩) (fw q)⟩
theorem rowsOf_all : ∀ (n : Nat) (ds : List (List Int)), ds.length = n → (∀ e ∈ ds, ∀ v ∈ e, Few v) → ∀ r ∈ rowsOf ds, ∀ v ∈ r, Few v
  | 0, [], _, _, r, hr, v, hv => by
    have : r = [] := by simpa [rowsOf] using hr
    rw [this] at hv
    cases hv
  | n + 1, ds, h, hd, r, hr, v, hv => by
    have ne : ds ≠ [] := fun z => by rw [z] at h; cases h
    have e := List.dropLast_concat_getLast ne
    have hl : ds.dropLast.length = n := by rw [List.length_dropLast, h]; rfl
    rw [← e, rowsOf_snoc] at hr
    obtain ⟨q, hq, x, hx, rfl⟩ := mem_grow.mp hr
    rcases List.mem_append.mp hv with z | z
    · exact rowsOf_all n _ hl (fun e he => hd e (List.dropLast_subset _ he)) q hq v z
    · rw [List.mem_singleton.mp z]
      exact hd _ (List.getLast_mem ne) x hx
theorem dup {R F : Addr → Hp → Prop} {G : Prop} (h : (∀ a H, F a H → R a H) → G) (r : ∀ a H, F a H → R a H) : G := h r
section
variable {P : Program} {w : World} {K : PySem.W.Frag} {mg : Str → Option Value} {base : Heap} {f fP fO fR : Addr} {fd dP dO dR' : FuncData}
end
end G9

set_option Elab.async false
set_option linter.all false
set_option maxRecDepth 100000
set_option maxHeartbeats 8000000
/-! set(l), l a list of ints -/
namespace GX
open PySem PySem.Spec PyProof.Rows L2
section
variable {P : Program} {w : World} {A : Around} {E : Value → Shared → Prop} {s : Shared}
/-- a set as it is made -/
abbrev blank (w : World) : Obj := { cls := .type "set", dict := none, data := .set #[] 0 (.fresh 0 0 (!w.params.followText "set-order")) }
theorem set_of_list {l : Addr} {items : Array Value} (ns : List Int) {Q : Value → Shared → Prop} (hh : A.handled = none) (hl : s.heap.IsList l items) (areInts : IntsAre items.toList ns) (few : ns.length + 1 < scanBound)
    (fin : ∀ (h' : Heap) (tk c : Nat), SetR w h' s.heap.objs.size (fun j => decide (j ∈ ns)) c → c ≤ ns.length → (∀ b o, s.heap.get? b = some o → h'.get? b = some o) → Q (.ref s.heap.objs.size) { s with heap := h', toks := tk }) :
    wpAny (model P w) A (call (.type "set") [.ref l]) Q E s := by
  have count : items.size = ns.length := (Array.length_toList (xs := items)).symm.trans (IntsAre.length areInts)
  obtain ⟨c, tl, hmro⟩ := F.called_set.mro
  have made := F.called_set.made
  have sub := F.called_set.sub
  refine wpAny_call (codeAny_of_tree ?_)
  show wpAny _ _ (callAny (.type "set") _) _ _ _
  refine wpAny_pure ⟨Code.quiet_builtin _ (by decide +kernel), codeAny_builtin F.entry_type_call ?_⟩
  rw [Around.under_plain (weight_type_call_type "set" [.ref l] []) rfl]
  have notType := F.called_set.notType
  have can := F.called_set.canCreate
  have chk := F.typeCall_set_1 (.ref l)
  repeat any_goals (first | assumption | wp_step)
  refine codeAny_mono (code_set_led1 (.ref l) (E := E) (Q₁ := fun obj s₁ => obj = .ref s.heap.objs.size ∧ s₁ = { s with heap := s.heap.push (blank w) }) ⟨rfl, rfl⟩) fun r s₁ hr => ?_
  cases r with
  | error e => exact hr
  | ok fl =>
    cases fl with
    | ret obj =>
      obtain ⟨rfl, rfl⟩ := hr
      have at0 : (s.heap.push (blank w)).get? s.heap.objs.size = some (blank w) := Heap.get?_push_size _ rfl
      have ty0 : Shared.TypeIs { s with heap := s.heap.push (blank w) } (.ref s.heap.objs.size) "set" := ⟨_, at0, rfl⟩
      have lookInit := F.called_set.init.lookup
      have bindInit := F.called_set.init.bind (.ref s.heap.objs.size)
      repeat any_goals (first | assumption | wp_step)
      refine codeAny_mono (codeAny_call_builtin (R := wants (fun r s₂ => r = .none ∧ ∃ h' tk c, s₂ = { s with heap := h', toks := tk } ∧ SetR w h' s.heap.objs.size (fun j => decide (j ∈ ns)) c ∧ c ≤ ns.length ∧ ∀ b o, s.heap.get? b = some o → h'.get? b = some o) E) F.called_set.init.plain F.entry_set_init (check_set_init_1 ty0 ?_)) fun r₂ s₂ hr₂ => ?_
      · obtain ⟨⟨oc, od, odata, osl⟩, oat, ocls, nl, odat⟩ := hl
        simp only at ocls odat
        subst ocls
        subst odat
        have oat1 : (s.heap.push (blank w)).get? l = some { cls := .type "list", dict := od, data := .seq items nl, slots := osl } := Heap.get?_push_of_some _ oat
        have no1 := F.sub_list_set
        have no2 := F.sub_list_frozenset
        have no3 : (Value.type "list" == Value.type "dict") = false := by decide
        have list1 : (s.heap.push (blank w)).IsList l items := ⟨_, oat1, rfl, nl, rfl⟩
        unfold Builtin.«set.__init__» noKeywords Builtin.Frozenset.updateFrom
        generalize hPI : pyIter = PI
        wp_walk
        subst hPI
        refine wpAny_pyIter_list list1 (wpAny_bind (wpAny_runValue ?_))
        have low : l < s.heap.objs.size := Heap.lt_size oat
        have size1 : (s.heap.push (blank w)).objs.size = s.heap.objs.size + 1 := Heap.size_push ..
        have apartI : l ≠ (s.heap.push (blank w)).objs.size := by rw [size1]; exact Nat.ne_of_lt (Nat.lt_succ_of_lt low)
        have apartS : s.heap.objs.size ∉ [(s.heap.push (blank w)).objs.size, l] := by
          rw [size1]
          exact notin2 (Nat.ne_of_lt (Nat.lt_succ_self _)) (Nat.ne_of_gt low)
        have vals : ∀ (i : Nat) (v : Value), items[i]? = some v → ∃ k t, ns[i]? = some k ∧ v = .int k t := fun i v hv => by
          have hi : i < ns.length := by rw [← count]; exact (Array.getElem?_eq_some_iff.mp hv).1
          obtain ⟨t, e⟩ := PyProof.Rows.IntsAre.int_at areInts i v (by rw [Array.getElem?_toList]; exact hv)
          have gd : ns.getD i 0 = ns[i] := by rw [List.getD_eq_getElem?_getD, List.getElem?_eq_getElem hi]; rfl
          exact ⟨ns[i], t, List.getElem?_eq_getElem hi, by rw [e, gd]⟩
        have clean : A.in1.in1.in1.handled = none := by simp [hh]
        refine set_update_ints ((Walks.list clean _ l apartI items).toS) s.heap.objs.size apartS ns count few vals (items.size - 0) 0 _ (by omega) (Nat.zero_le _) ⟨⟨_, Heap.get?_push_size _ rfl, rfl, rfl⟩, list1.push _⟩ ⟨0, Nat.le_refl 0, setR_new_at (Heap.get?_push_of_some _ at0)⟩ fun s' c' hm hc' hS' => ?_
        obtain ⟨h', g2, d', tk', os'⟩ := s'
        obtain rfl : g2 = s.gens := hm.gens
        obtain rfl : d' = s.drawn := hm.drawn
        obtain rfl : os' = s.os := hm.os
        show wpAny _ _ _ _ _ _
        refine wpAny_pure ?_
        show wpAny _ _ (ret Value.none) _ _ _
        rw [count] at hc'
        refine wpAny_pure ⟨rfl, h', tk', c', rfl, hS', hc', fun b o e => ?_⟩
        have lowb : b < s.heap.objs.size := Heap.lt_size e
        exact hm.heap b o (by
          rw [size1]
          simp only [List.mem_cons, List.not_mem_nil, or_false, not_or]
          exact ⟨Nat.ne_of_lt lowb, Nat.ne_of_lt (Nat.lt_succ_of_lt lowb)⟩) (Heap.get?_push_of_some _ (Heap.get?_push_of_some _ e))
      · cases r₂ with
        | error e => exact hr₂
        | ok fl₂ =>
          cases fl₂ with
          | ret r =>
            obtain ⟨rfl, h', tk, c', rfl, g1, g2, g3⟩ := hr₂
            repeat any_goals (first | assumption | wp_step)
            exact fin _ _ _ g1 g2 g3
          | _ => exact False.elim hr₂
    | _ => exact False.elim hr
end
theorem cr_setL {X : Cx} (hc : X.calm = true) : CallR X (.type "set") (fun xs H Q => ∃ (l : Addr) (ns : List Int), xs = [V.ref l] ∧ SqL X.K H l (ns.map V.int) ∧ ns.length ≤ 1000 ∧ ∀ (a : Addr) (c : Nat), H a = none → c ≤ ns.length → Q (.ref a) (upd H a (SetO X.w a (fun j => decide (j ∈ ns)) c))) := by
  intro pins s σ H xs us Q I r h
  obtain ⟨l, ns, rfl, hs, hl, q⟩ := h
  obtain ⟨its, rv, pl, hz⟩ := I.list hs
  rw [Vals.ref1 r]
  refine set_of_list ns (I.ok.hd hc) pl.isList (by simpa using RZ.intsAre_vals rv) (by unfold scanBound; omega) fun h' tk c R hc2 k => ?_
  exact ⟨.ref s.heap.objs.size, _, I.laid (t' := tk) k (Nat.le_refl _) (setO_new R), rfl, q _ c (I.hok.fresh (Nat.le_refl _)) hc2⟩
end GX

set_option Elab.async false
set_option linter.all false
set_option maxRecDepth 100000
set_option maxHeartbeats 4000000
/-! part_of, common_part -/
namespace G9
open PySem PySem.Spec PyProof.Rows L2 GX
/-- a row's pairs at some cells -/
def pairsAt (row ks : List Int) : List (Int × Int) := ks.map fun c => (c, row.getD c.toNat 0)
def spPartOf : Sp := fun vs H Q _ => ∃ (v : V) (row : List Int) (l : Addr) (cs : List Int), vs = [v, .ref l] ∧ IH H v row ∧ H l = some (.lst (cs.map V.int)) ∧ cs.length < 64 ∧ (∀ c ∈ cs, 0 ≤ c ∧ c < (row.length : Int)) ∧ ∀ (w : V) (ks : List Int) (H' : Hp), Same H H' → ks.Pairwise (· < ·) → (∀ c, c ∈ ks ↔ c ∈ cs) → RowsH H' w ((pairsAt row ks).map tie2) → Q w H'
def spCommon (pT : Addr) : Sp := fun vs H Q _ => ∃ u p, vs = [u] ∧ PzH H u p ∧ PzOk p ∧ GxR.TabG H pT ∧ (∀ H', Kb H H' → answersOf p = [] → Q .non H') ∧
  ∀ (w : V) (ks row : List Int) (rest : List (List Int)) (H' : Hp), Kb H H' → answersOf p = row :: rest → ks.Pairwise (· < ·) → (∀ c, c ∈ ks ↔ ∃ j : Nat, j < row.length ∧ isFree p row j = false ∧ c = (j : Int)) → RowsH H' w ((pairsAt row ks).map tie2) → (∃ a, w = .ref a) → Q w H'
section
variable {P : Program} {w : World} {K : PySem.W.Frag} {mg : Str → Option Value} {base : Heap} {f f1 f2 f3 : Addr} {fd fd1 fd2 fd3 : FuncData} {pT : Addr}
end
end G9

set_option Elab.async false
set_option linter.all false
set_option maxRecDepth 100000
set_option maxHeartbeats 4000000
/-! answers of puzzles that are changed -/
namespace G9
open PySem PySem.Spec PyProof.Rows L2 GX
theorem ans_add (p : Puz) (r : Rul) : answersOf (addRules p [r]) = (answersOf p).filter fun row => fitsB r (pick row (Rul.cells r)) := by
  unfold answersOf
  rw [List.filter_filter]
  refine List.filter_congr fun row _ => ?_
  unfold isAns allFit addRules
  rw [List.map_append, List.all_append]
  simp [Bool.and_comm]
theorem ans_drop (p : Puz) {j : Nat} {r : Rul} (h : p.rules[j]? = some r) : (answersOf (dropRule p j)).filter (fun row => fitsB r (pick row (Rul.cells r))) = answersOf p := by
  have hj := (List.getElem?_eq_some_iff.mp h).1
  have e : p.rules = p.rules.take j ++ r :: p.rules.drop (j + 1) := by
    conv => lhs; rw [← List.take_append_drop j p.rules]
    rw [List.drop_eq_getElem_cons hj, (List.getElem?_eq_some_iff.mp h).2]
  unfold answersOf
  rw [List.filter_filter]
  refine List.filter_congr fun row _ => ?_
  unfold isAns allFit dropRule
  conv => rhs; rw [e]
  simp only [List.map_append, List.map_cons, List.all_append, List.all_cons, id]
  cases (List.map (fun r => fitsB r (pick row (Rul.cells r))) (p.rules.take j)).all id <;> cases fitsB r (pick row (Rul.cells r)) <;> simp
/-- rows of domains that keep some of their values -/
theorem rows_filter (P : Nat → Int → Bool) (g : Nat → List Int → List Int) : ∀ (n : Nat) (ds : List (List Int)), ds.length = n → (∀ (c : Nat) (d : List Int), ds[c]? = some d → g c d = d.filter (P c)) →
    rowsOf (idxMap g 0 ds) = (rowsOf ds).filter fun row => (List.range n).all fun c => P c (row.getD c 0)
  | 0, [], _, _ => by simp [rowsOf, idxMap]
  | n + 1, ds, h, hg => by
    have ne : ds ≠ [] := fun z => by rw [z] at h; cases h
    have e := List.dropLast_concat_getLast ne
    have hl : ds.dropLast.length = n := by rw [List.length_dropLast, h]; rfl
    have last : ds[n]? = some (ds.getLast ne) := by
      rw [List.getLast_eq_getElem, ← List.getElem?_eq_getElem]
      congr 1
      omega
    have ih := rows_filter P g n ds.dropLast hl fun c d hc => hg c d (by
      rw [List.getElem?_dropLast] at hc
      split at hc
      · exact hc
      · cases hc)
    have gl := hg n _ last
    generalize ds.getLast ne = d at *
    generalize ds.dropLast = es at *
    subst e
    rw [idxMap_snoc, rowsOf_snoc, rowsOf_snoc, ih, hl, Nat.zero_add, gl]
    have step : ∀ (A : List (List Int)), (∀ q ∈ A, q.length = n) → grow (A.filter fun row => (List.range n).all fun c => P c (row.getD c 0)) (d.filter (P n)) = (grow A d).filter fun row => (List.range (n + 1)).all fun c => P c (row.getD c 0) := by
      intro A
      induction A with
      | nil => intro _; rfl
      | cons a A ihA =>
        intro hA
        have al := hA a (List.mem_cons_self ..)
        have ihA := ihA fun q hq => hA q (List.mem_cons_of_mem _ hq)
        have eg : ∀ (B : List (List Int)) (b dd : List Int), grow (b :: B) dd = dd.map (fun v => b ++ [v]) ++ grow B dd := fun _ _ _ => rfl
        have one : (d.map fun v => a ++ [v]).filter (fun row => (List.range (n + 1)).all fun c => P c (row.getD c 0)) = if ((List.range n).all fun c => P c (a.getD c 0)) = true then (d.filter (P n)).map (fun v => a ++ [v]) else [] := by
          have test : ∀ v, ((List.range (n + 1)).all fun c => P c ((a ++ [v]).getD c 0)) = (((List.range n).all fun c => P c (a.getD c 0)) && P n v) := fun v => by
            rw [List.range_succ, List.all_append]
            congr 1
            · rw [Bool.eq_iff_iff, List.all_eq_true, List.all_eq_true]
              refine forall_congr' fun c => forall_congr' fun hc => ?_
              have hc := List.mem_range.mp hc
              rw [List.getD_eq_getElem?_getD, List.getD_eq_getElem?_getD, List.getElem?_append_left (by omega)]
            · have gd : (a ++ [v]).getD n 0 = v := by
                rw [List.getD_eq_getElem?_getD, ← al, List.getElem?_concat_length]
                rfl
              rw [List.all_cons, List.all_nil, gd, Bool.and_true]
          rw [List.filter_map]
          by_cases fa : ((List.range n).all fun c => P c (a.getD c 0)) = true
          · rw [if_pos fa]
            congr 1
            refine List.filter_congr fun v _ => ?_
            show ((List.range (n + 1)).all fun c => P c ((a ++ [v]).getD c 0)) = _
            rw [test, fa, Bool.true_and]
          · rw [if_neg fa]
            have : d.filter ((fun row => (List.range (n + 1)).all fun c => P c (row.getD c 0)) ∘ fun v => a ++ [v]) = [] := List.filter_eq_nil_iff.mpr fun v _ => by
              show ¬ ((List.range (n + 1)).all fun c => P c ((a ++ [v]).getD c 0)) = true
              rw [test, Bool.and_eq_true]
              exact fun z => fa z.1
            rw [this]
            rfl
        by_cases fa : ((List.range n).all fun c => P c (a.getD c 0)) = true
        · rw [List.filter_cons, if_pos fa, eg, eg, List.filter_append, ihA, one, if_pos fa]
        · rw [List.filter_cons, if_neg fa, eg, List.filter_append, ihA, one, if_neg fa, List.nil_append]
    exact step _ (rowsOf_each n es hl)
/-- values that keep to a part -/
def keeps (f : List (Int × Int)) (c : Nat) (v : Int) : Bool := match valOf f (c : Int) with
  | some x => decide (v = x)
  | none => true
theorem valOf_some {f : List (Int × Int)} {c v : Int} (h : valOf f c = some v) : (c, v) ∈ f := by
  unfold valOf at h
  cases e : f.find? (fun p => decide (p.1 = c)) with
  | none => rw [e] at h; cases h
  | some q =>
    rw [e] at h
    cases h
    have h1 := List.find?_some e
    have h2 := List.mem_of_find?_eq_some e
    have : q.1 = c := by simpa using h1
    rw [← this]
    exact h2
theorem valOf_mem {f : List (Int × Int)} (nd : (f.map (·.1)).Nodup) {q : Int × Int} (h : q ∈ f) : valOf f q.1 = some q.2 := by
  cases e : valOf f q.1 with
  | none =>
    unfold valOf at e
    cases e2 : f.find? (fun p => decide (p.1 = q.1)) with
    | none =>
      have := List.find?_eq_none.mp e2 q h
      simp at this
    | some z => rw [e2] at e; cases e
  | some v =>
    have h1 := valOf_some e
    -- two pairs of one cell are one
    have one : ∀ {l : List (Int × Int)}, (l.map (·.1)).Nodup → ∀ {a b : Int × Int}, a ∈ l → b ∈ l → a.1 = b.1 → a = b := by
      intro l
      induction l with
      | nil => intro _ a b ha; cases ha
      | cons z l ih =>
        intro nd a b ha hb e
        obtain ⟨n1, n2⟩ := List.nodup_cons.mp nd
        rcases List.mem_cons.mp ha with ea | ea <;> rcases List.mem_cons.mp hb with eb | eb
        · rw [ea, eb]
        · exact absurd (List.mem_map.mpr ⟨b, eb, by rw [← e, ea]⟩) n1
        · exact absurd (List.mem_map.mpr ⟨a, ea, by rw [e, eb]⟩) n1
        · exact ih n2 ea eb e
    have := one nd h h1 rfl
    rw [this]
theorem filter_one {d : List Int} (nd : d.Nodup) {x : Int} (h : x ∈ d) : d.filter (fun v => decide (v = x)) = [x] := by
  induction d with
  | nil => cases h
  | cons a d ih =>
    obtain ⟨n1, n2⟩ := List.nodup_cons.mp nd
    by_cases e : a = x
    · subst e
      rw [List.filter_cons, if_pos (by simp)]
      have : d.filter (fun v => decide (v = a)) = [] := List.filter_eq_nil_iff.mpr fun v hv => by
        simp only [decide_eq_true_eq]
        exact fun z => n1 (z ▸ hv)
      rw [this]
    · rw [List.filter_cons, if_neg (by simpa using e)]
      exact ih n2 ((List.mem_cons.mp h).resolve_left fun z => e z.symm)
theorem ans_cut {p : Puz} {f : List (Int × Int)} (pk : PartOk p f) (nd : ∀ e ∈ p.doms, e.Nodup) : answersOf (cutP p f) = withOf p f := by
  have hr := rows_filter (keeps f) (cutD f) _ p.doms rfl fun c d hc => by
    unfold cutD keeps
    cases e : valOf f (c : Int) with
    | none => exact (List.filter_eq_self.mpr fun _ _ => rfl).symm
    | some v =>
      have hv := pk.val _ (valOf_some e)
      have gd : p.doms.getD ((c : Int)).toNat [] = d := by rw [Int.toNat_natCast, List.getD_eq_getElem?_getD, hc]; rfl
      rw [gd] at hv
      exact (filter_one (nd d (List.mem_of_getElem? hc)) hv).symm
  unfold withOf answersOf
  show (rowsOf (idxMap (cutD f) 0 p.doms)).filter _ = _
  rw [hr, List.filter_filter, List.filter_filter]
  refine List.filter_congr fun row hrow => ?_
  have rl := rowsOf_each _ p.doms rfl row hrow
  show (isAns (cutP p f) row && _) = (holds f row && isAns p row)
  have e1 : isAns (cutP p f) row = isAns p row := rfl
  have e2 : ((List.range p.doms.length).all fun c => keeps f c (row.getD c 0)) = holds f row := by
    rw [Bool.eq_iff_iff]
    unfold holds
    rw [List.all_eq_true, List.all_eq_true]
    constructor
    · intro h q hq
      have cr := pk.cell q hq
      have := h q.1.toNat (List.mem_range.mpr (by omega))
      unfold keeps at this
      rw [Int.toNat_of_nonneg cr.1, valOf_mem pk.nd hq] at this
      exact this
    · intro h c hc
      unfold keeps
      cases e : valOf f (c : Int) with
      | none => rfl
      | some v =>
        have := h _ (valOf_some e)
        exact this
  rw [e1, e2, Bool.and_comm]
theorem ans_nar {p : Puz} (kept : List (List Int)) : answersOf (narP p kept) = (answersOf p).filter fun row => (List.range p.doms.length).all fun c => decide (row.getD c 0 ∈ kept.getD c []) := by
  have hr := rows_filter (fun c v => decide (v ∈ kept.getD c [])) (nar1 kept) _ p.doms rfl fun c d hc => rfl
  unfold answersOf
  show (rowsOf (idxMap (nar1 kept) 0 p.doms)).filter _ = _
  rw [hr, List.filter_filter, List.filter_filter]
  refine List.filter_congr fun row hrow => ?_
  have e1 : isAns (narP p kept) row = isAns p row := rfl
  rw [e1, Bool.and_comm]
end G9

set_option Elab.async false
set_option linter.all false
set_option maxRecDepth 100000
set_option maxHeartbeats 4000000
/-! answers of puzzles beside one another -/
namespace G9
open PySem PySem.Spec PyProof.Rows L2 GX
def cross (X Y : List (List Int)) : List (List Int) := X.flatMap fun a => Y.map fun b => a ++ b
theorem cross_cons (a : List Int) (X Y : List (List Int)) : cross (a :: X) Y = Y.map (fun b => a ++ b) ++ cross X Y := rfl
theorem grow_app (A B : List (List Int)) (d : List Int) : grow (A ++ B) d = grow A d ++ grow B d := by
  unfold grow
  rw [List.flatMap_append]
theorem grow_map (a d : List Int) : ∀ Y : List (List Int), grow (Y.map fun b => a ++ b) d = (grow Y d).map fun b => a ++ b
  | [] => rfl
  | b :: Y => by
    have e : ∀ (B : List (List Int)) (b : List Int), grow (b :: B) d = d.map (fun v => b ++ [v]) ++ grow B d := fun _ _ => rfl
    rw [List.map_cons, e, e, grow_map a d Y, List.map_append, List.map_map]
    congr 1
    refine List.map_congr_left fun v _ => ?_
    simp
theorem grow_cross (d : List Int) (Y : List (List Int)) : ∀ X : List (List Int), grow (cross X Y) d = cross X (grow Y d)
  | [] => rfl
  | a :: X => by rw [cross_cons, cross_cons, grow_app, grow_map, grow_cross d Y X]
theorem cross_one (X : List (List Int)) : cross X [[]] = X := by
  induction X with
  | nil => rfl
  | cons a X ih => rw [cross_cons, ih]; simp
theorem rows_app (A : List (List Int)) : ∀ (n : Nat) (B : List (List Int)), B.length = n → rowsOf (A ++ B) = cross (rowsOf A) (rowsOf B)
  | 0, [], _ => by
    rw [List.append_nil]
    exact (cross_one _).symm
  | n + 1, B, h => by
    have ne : B ≠ [] := fun z => by rw [z] at h; cases h
    have e := List.dropLast_concat_getLast ne
    have hl : B.dropLast.length = n := by rw [List.length_dropLast, h]; rfl
    rw [← e, ← List.append_assoc, rowsOf_snoc, rowsOf_snoc, rows_app A n _ hl, grow_cross]
theorem cross_filter (f g h : List Int → Bool) (Y : List (List Int)) : ∀ (X : List (List Int)), (∀ a ∈ X, ∀ b ∈ Y, h (a ++ b) = (f a && g b)) → (cross X Y).filter h = cross (X.filter f) (Y.filter g)
  | [], _ => rfl
  | a :: X, H => by
    have ih := cross_filter f g h Y X fun a' ha => H a' (List.mem_cons_of_mem _ ha)
    have Ha := H a (List.mem_cons_self ..)
    rw [cross_cons, List.filter_append, ih, List.filter_map, List.filter_cons]
    by_cases fa : f a = true
    · rw [if_pos fa, cross_cons]
      congr 2
      refine List.filter_congr fun b hb => ?_
      show h (a ++ b) = _
      rw [Ha b hb, fa, Bool.true_and]
    · rw [if_neg fa]
      have : Y.filter (h ∘ fun b => a ++ b) = [] := List.filter_eq_nil_iff.mpr fun b hb => by
        show ¬ h (a ++ b) = true
        rw [Ha b hb, Bool.and_eq_true]
        exact fun z => fa z.1
      rw [this]
      rfl
theorem cross_len (X Y : List (List Int)) : (cross X Y).length = X.length * Y.length := by
  induction X with
  | nil => simp [cross]
  | cons a X ih => rw [cross_cons, List.length_append, ih, List.length_map, List.length_cons, Nat.succ_mul, Nat.add_comm]
/-! rules that are moved -/
theorem marked_move (n : Int) : ∀ (cs vals vs : List Int), markedOf (cs.map (· + n)) vals vs = (markedOf cs vals vs).map (· + n)
  | [], vals, vs => by simp [markedOf]
  | c :: cs, [], vs => by simp [markedOf]
  | c :: cs, v :: vals, vs => by
    have ih := marked_move n cs vals vs
    unfold markedOf at ih ⊢
    rw [List.map_cons, List.zip_cons_cons, List.zip_cons_cons, List.filter_cons, List.filter_cons]
    by_cases h : v ∈ vs
    · rw [if_pos (by simpa using h), if_pos (by simpa using h), List.map_cons, List.map_cons, List.map_cons, ih]
    · rw [if_neg (by simpa using h), if_neg (by simpa using h), ih]
theorem conn_move {M : List Int} {T : List (Int × Int)} {s : Int} (n : Int) {x : Int} (h : Conn M T s x) : Conn (M.map (· + n)) (T.map fun p => (p.1 + n, p.2 + n)) (s + n) (x + n) := by
  induction h with
  | start hs => exact .start (List.mem_map.mpr ⟨s, hs, rfl⟩)
  | step _ hy ha ih =>
    refine .step ih (List.mem_map.mpr ⟨_, hy, rfl⟩) ?_
    rcases ha with z | z
    · exact .inl (List.mem_map.mpr ⟨_, z, rfl⟩)
    · exact .inr (List.mem_map.mpr ⟨_, z, rfl⟩)
theorem back_map (n : Int) : ∀ M : List Int, (M.map (· + n)).map (· + (-n)) = M
  | [] => rfl
  | a :: M => by
    rw [List.map_cons, List.map_cons, back_map n M]
    congr 1
    omega
theorem back_map2 (n : Int) : ∀ T : List (Int × Int), (T.map fun p => (p.1 + n, p.2 + n)).map (fun p => (p.1 + (-n), p.2 + (-n))) = T
  | [] => rfl
  | a :: T => by
    rw [List.map_cons, List.map_cons, back_map2 n T]
    congr 1
    refine Prod.ext ?_ ?_
    · show a.1 + n + -n = a.1
      omega
    · show a.2 + n + -n = a.2
      omega
theorem joined_move1 (n : Int) {M : List Int} {T : List (Int × Int)} (h : Joined M T) : Joined (M.map (· + n)) (T.map fun p => (p.1 + n, p.2 + n)) := by
  intro s r e m hm
  cases M with
  | nil => cases e
  | cons a M =>
    rw [List.map_cons] at e
    cases e
    obtain ⟨x, hx, rfl⟩ := List.mem_map.mp hm
    exact conn_move n (h a M rfl x hx)
theorem joined_move (n : Int) (M : List Int) (T : List (Int × Int)) : joinedB (M.map (· + n)) (T.map fun p => (p.1 + n, p.2 + n)) = joinedB M T := by
  by_cases h : Joined M T
  · rw [joinedB_yes h, joinedB_yes (joined_move1 n h)]
  · rw [joinedB_no h]
    refine joinedB_no fun z => h ?_
    have := joined_move1 (-n) z
    rw [back_map, back_map2] at this
    exact this
theorem fits_move (n : Int) (r : Rul) (vals : List Int) : fitsB (moveR n r) vals = fitsB r vals := by
  cases r with
  | joined cs ties vs =>
    simp only [fitsB, moveR]
    rw [marked_move, joined_move]
  | _ => rfl
theorem pick_behind {a b cs : List Int} (h : ∀ c ∈ cs, 0 ≤ c) : pick (a ++ b) (cs.map (· + (a.length : Int))) = pick b cs := by
  unfold pick
  rw [List.map_map]
  refine List.map_congr_left fun c hc => ?_
  have h0 := h c hc
  show (a ++ b).getD (c + (a.length : Int)).toNat 0 = b.getD c.toNat 0
  have e : (c + (a.length : Int)).toNat = a.length + c.toNat := by omega
  rw [e, List.getD_eq_getElem?_getD, List.getD_eq_getElem?_getD, List.getElem?_append_right (by omega), Nat.add_sub_cancel_left]
theorem pick_ahead2 {a b cs : List Int} (h : ∀ c ∈ cs, 0 ≤ c ∧ c < (a.length : Int)) : pick (a ++ b) cs = pick a cs := by
  unfold pick
  refine List.map_congr_left fun c hc => ?_
  obtain ⟨h0, h1⟩ := h c hc
  rw [List.getD_eq_getElem?_getD, List.getD_eq_getElem?_getD, List.getElem?_append_left (by omega)]
theorem ans_beside {p q : Puz} (okp : PzOk p) (okq : PzOk q) : answersOf (besideP p q) = cross (answersOf p) (answersOf q) := by
  unfold answersOf
  show (rowsOf (p.doms ++ q.doms)).filter _ = _
  rw [rows_app _ _ _ rfl]
  refine cross_filter _ _ _ _ _ fun a ha b hb => ?_
  have al := rowsOf_each _ p.doms rfl a ha
  unfold isAns allFit besideP
  rw [List.map_append, List.all_append, List.map_map]
  congr 1
  · congr 1
    refine List.map_congr_left fun r hr => ?_
    rw [pick_ahead2 fun c hc => by rw [al]; exact okp.cell r hr c hc]
  · congr 1
    refine List.map_congr_left fun r hr => ?_
    show fitsB (moveR (p.doms.length : Int) r) (pick (a ++ b) (Rul.cells (moveR (p.doms.length : Int) r))) = _
    rw [fits_move, cells_move, ← al, pick_behind fun c hc => (okq.cell r hr c hc).1]
theorem ok_besideP {p q : Puz} (okp : PzOk p) (okq : PzOk q) (h : p.doms.length + q.doms.length ≤ 8) (hr : p.rules.length + q.rules.length ≤ 100) : PzOk (besideP p q) where
  n8 := by show (p.doms ++ q.doms).length ≤ 8; rw [List.length_append]; exact h
  d4 := fun d hd => (List.mem_append.mp hd).elim (okp.d4 d) (okq.d4 d)
  r100 := by show (p.rules ++ q.rules.map _).length ≤ 100; rw [List.length_append, List.length_map]; exact hr
  small := fun r hr => by
    rcases List.mem_append.mp hr with z | z
    · exact okp.small r z
    · obtain ⟨r0, h0, rfl⟩ := List.mem_map.mp z
      obtain ⟨s1, s2, s3⟩ := okq.small r0 h0
      refine ⟨?_, ?_, ?_⟩
      · rw [cells_move]
        exact List.Pairwise.map _ (fun a b h z => h (by have z : a + (p.doms.length : Int) = b + (p.doms.length : Int) := z; omega)) s1
      · rw [cells_move, List.length_map]
        exact s2
      · cases r0 with
        | joined cs ties vs =>
          show (ties.map _).length ≤ 100
          rw [List.length_map]
          exact s3
        | _ => trivial
  tab := fun r hr => by
    rcases List.mem_append.mp hr with z | z
    · exact okp.tab r z
    · obtain ⟨r0, h0, rfl⟩ := List.mem_map.mp z
      have := okq.tab r0 h0
      cases r0 <;> exact this
  some := fun r hr => by
    rcases List.mem_append.mp hr with z | z
    · exact okp.some r z
    · obtain ⟨r0, h0, rfl⟩ := List.mem_map.mp z
      rw [cells_move]
      exact fun e => okq.some r0 h0 (List.map_eq_nil_iff.mp e)
  cell := fun r hr c hc => by
    have tot : ((besideP p q).doms.length : Int) = (p.doms.length : Int) + (q.doms.length : Int) := by
      show ((p.doms ++ q.doms).length : Int) = _
      rw [List.length_append]
      omega
    rw [tot]
    rcases List.mem_append.mp hr with z | z
    · have := okp.cell r z c hc
      omega
    · obtain ⟨r0, h0, rfl⟩ := List.mem_map.mp z
      rw [cells_move] at hc
      obtain ⟨c0, hc0, rfl⟩ := List.mem_map.mp hc
      have := okq.cell r0 h0 c0 hc0
      omega
end G9

set_option Elab.async false
set_option linter.all false
set_option maxRecDepth 100000
set_option maxHeartbeats 4000000
/-! what is free, what is in all answers, what is forced -/
namespace G9
open PySem PySem.Spec PyProof.Rows L2 GX
theorem forced_iff (p : Puz) (f : List (Int × Int)) : decide ((withOf p f).length = (answersOf p).length) = decide (withOf p f = answersOf p) := by
  by_cases h : withOf p f = answersOf p
  · rw [decide_eq_true h, h]
    exact decide_eq_true rfl
  · rw [decide_eq_false h]
    refine decide_eq_false fun z => h ?_
    unfold withOf at z ⊢
    exact List.filter_eq_self.mpr (List.length_filter_eq_length_iff.mp z)
theorem with_common {p : Puz} {row : List Int} {rest : List (List Int)} {ks : List Int} (h : answersOf p = row :: rest) (mem : ∀ c, c ∈ ks ↔ ∃ j : Nat, j < row.length ∧ isFree p row j = false ∧ c = (j : Int)) : withOf p (pairsAt row ks) = answersOf p := by
  unfold withOf
  refine List.filter_eq_self.mpr fun o ho => ?_
  unfold holds pairsAt
  rw [List.all_map, List.all_eq_true]
  intro c hc
  obtain ⟨j, hj, hf, rfl⟩ := (mem c).mp hc
  show decide (o.getD ((j : Int)).toNat 0 = row.getD ((j : Int)).toNat 0) = true
  rw [Int.toNat_natCast]
  refine decide_eq_true ?_
  unfold isFree at hf
  rw [List.any_eq_false] at hf
  have := hf o ho
  simpa using this
theorem free_same {p : Puz} {a b : List Int} (ha : a ∈ answersOf p) (hb : b ∈ answersOf p) (c : Nat) : isFree p a c = isFree p b c := by
  have one : ∀ {a b : List Int}, a ∈ answersOf p → b ∈ answersOf p → isFree p a c = true → isFree p b c = true := fun {a b} ha hb h => by
    unfold isFree at h ⊢
    rw [List.any_eq_true] at h ⊢
    obtain ⟨o, ho, hd⟩ := h
    have hd : o.getD c 0 ≠ a.getD c 0 := by simpa using hd
    by_cases e : o.getD c 0 = b.getD c 0
    · exact ⟨a, ha, decide_eq_true fun z => hd (by rw [e, z])⟩
    · exact ⟨o, ho, decide_eq_true e⟩
  rw [Bool.eq_iff_iff]
  exact ⟨one ha hb, one hb ha⟩
theorem sorted_one : ∀ {l m : List Int}, l.Perm m → l.Pairwise (· ≤ ·) → m.Pairwise (· ≤ ·) → l = m
  | [], m, h, _, _ => (List.Perm.nil_eq h)
  | a :: l, m, h, hl, hm => by
    cases m with
    | nil => exact absurd h.symm.nil_eq (by simp)
    | cons b m =>
      obtain ⟨l1, l2⟩ := List.pairwise_cons.mp hl
      obtain ⟨m1, m2⟩ := List.pairwise_cons.mp hm
      have e : a = b := by
        have ha : a ∈ b :: m := h.mem_iff.mp (List.mem_cons_self ..)
        have hb : b ∈ a :: l := h.mem_iff.mpr (List.mem_cons_self ..)
        rcases List.mem_cons.mp ha with z | z
        · exact z
        · rcases List.mem_cons.mp hb with y | y
          · exact y.symm
          · have := m1 a z
            have := l1 b y
            omega
      subst e
      rw [sorted_one (List.perm_cons a |>.mp h) l2 m2]
theorem range_le (n : Nat) : (nI (List.range n)).Pairwise (· ≤ ·) := by
  unfold nI
  exact List.Pairwise.map _ (fun a b h => by omega) (List.pairwise_lt_range (n := n))
theorem free_rest {p : Puz} {row r0 : List Int} {rest : List (List Int)} {ks : List Int} (h : answersOf p = r0 :: rest) (hr : row ∈ answersOf p) (lt : ks.Pairwise (· < ·)) (mem : ∀ c, c ∈ ks ↔ ∃ j : Nat, j < r0.length ∧ isFree p r0 j = false ∧ c = (j : Int)) {ns : List Int} (pm : ns.Perm (nI (freeOf p row) ++ ks)) (le : ns.Pairwise (· ≤ ·)) : ns = nI (List.range row.length) := by
  refine sorted_one (pm.trans ?_) le (range_le _)
  have h0 : r0 ∈ answersOf p := by rw [h]; exact List.mem_cons_self ..
  have el : r0.length = row.length := (ans_len h0).trans (ans_len hr).symm
  have inj : ∀ l : List Nat, l.Nodup → (nI l).Nodup := fun l hl => by
    unfold nI
    exact List.Pairwise.map _ (fun a b h z => h (by omega)) hl
  have n1 : (nI (freeOf p row)).Nodup := inj _ (List.Pairwise.filter _ List.nodup_range)
  have n2 : ks.Nodup := lt.imp fun h z => by omega
  have m1 : ∀ c, c ∈ nI (freeOf p row) ↔ ∃ j : Nat, j < row.length ∧ isFree p row j = true ∧ c = (j : Int) := fun c => by
    unfold nI freeOf
    simp only [List.mem_map, List.mem_filter, List.mem_range]
    constructor
    · rintro ⟨j, ⟨a, b⟩, rfl⟩
      exact ⟨j, a, b, rfl⟩
    · rintro ⟨j, a, b, rfl⟩
      exact ⟨j, ⟨a, b⟩, rfl⟩
  have nd : (nI (freeOf p row) ++ ks).Nodup := by
    rw [List.nodup_append]
    refine ⟨n1, n2, fun a ha b hb e => ?_⟩
    obtain ⟨j, _, f1, rfl⟩ := (m1 a).mp ha
    obtain ⟨j2, _, f2, rfl⟩ := (mem b).mp hb
    have : j = j2 := by omega
    subst this
    rw [free_same hr h0, f2] at f1
    cases f1
  refine (List.perm_ext_iff_of_nodup nd (inj _ List.nodup_range)).mpr fun c => ?_
  rw [List.mem_append, m1, mem]
  unfold nI
  simp only [List.mem_map, List.mem_range]
  constructor
  · rintro (⟨j, a, _, rfl⟩ | ⟨j, a, _, rfl⟩)
    · exact ⟨j, a, rfl⟩
    · exact ⟨j, by omega, rfl⟩
  · rintro ⟨j, a, rfl⟩
    cases e : isFree p row j with
    | true => exact .inl ⟨j, a, e, rfl⟩
    | false => exact .inr ⟨j, by omega, by rw [free_same h0 hr]; exact e, rfl⟩
end G9

set_option Elab.async false
set_option linter.all false
set_option maxRecDepth 100000
set_option maxHeartbeats 8000000
/-! what the law's body rests on -/
namespace G9
open PySem PySem.Spec PyProof.Rows L2 GX
/-- the source and the table of codes -/
structure LI (d cs pT : Addr) (H : Hp) : Prop where
  src : SrcAt H d cs
  tab : GxR.TabG H pT
/-- tuples stay, and lists but the source's -/
structure LX (cs : Addr) (H H' : Hp) : Prop where
  kt : Kt H H'
  ls : ∀ b xs, b ≠ cs → H b = some (.lst xs) → H' b = some (.lst xs)
theorem LX.refl (cs : Addr) (H : Hp) : LX cs H H := ⟨.refl H, fun _ _ _ e => e⟩
theorem LX.trans {cs : Addr} {A B C : Hp} (h : LX cs A B) (g : LX cs B C) : LX cs A C := ⟨h.kt.trans g.kt, fun b xs n e => g.ls b xs n (h.ls b xs n e)⟩
theorem lx_same {cs : Addr} {H H' : Hp} (s : Same H H') : LX cs H H' := ⟨kt_same s, fun b xs _ e => s b _ e⟩
theorem lx_kb {cs : Addr} {H H' : Hp} (s : Kb H H') : LX cs H H' := ⟨kt_kb s, fun b xs _ e => s.1 b _ (fun ps z => by cases z) e⟩
section
variable {d cs pT : Addr} {H H' : Hp}
theorem LI.same (L : LI d cs pT H) (s : Same H H') : LI d cs pT H' := ⟨L.src.same s, (kb_same s).2 _ L.tab⟩
theorem LI.kb (L : LI d cs pT H) (s : Kb H H') : LI d cs pT H' := ⟨L.src.kb s, s.2 _ L.tab⟩
theorem LI.rn (L : LI d cs pT H) (hs : SrcAt H' d cs) (rn : Rn d cs H H') : LI d cs pT H' := by
  obtain ⟨ps, e, t⟩ := L.tab
  obtain ⟨zs, l, m, u, hd, hcs, _⟩ := L.src
  exact ⟨hs, ps, rn _ _ (ne_of e hd fun z => by cases z) (ne_of e hcs fun z => by cases z) e, t⟩
theorem LI.lx (L : LI d cs pT H) (rn : Rn d cs H H') : LX cs H H' := by
  refine ⟨rn.kt L.src, fun b xs n e => ?_⟩
  obtain ⟨zs, l, m, u, hd, hcs, _⟩ := L.src
  exact rn b _ (ne_of e hd fun z => by cases z) n e
end
/-- a list of rows, not the source's -/
structure LA (cs : Addr) (H : Hp) (l : Addr) (rows : List (List Int)) : Prop where
  ne : l ≠ cs
  rows : LRows H (.ref l) rows
theorem LA.lx {cs : Addr} {H H' : Hp} {l : Addr} {rows : List (List Int)} (h : LA cs H l rows) (k : LX cs H H') : LA cs H' l rows := by
  obtain ⟨a, vs, e, q, p⟩ := h.rows
  cases e
  exact ⟨h.ne, l, vs, rfl, k.ls _ _ h.ne q, paired_mono (fun _ _ => IH.kt k.kt) p⟩
theorem LA.at {cs : Addr} {H : Hp} {l : Addr} {rows : List (List Int)} (h : LA cs H l rows) : ∃ vs, H l = some (.lst vs) ∧ Paired (IH H) vs rows := by
  obtain ⟨a, vs, e, q, p⟩ := h.rows
  cases e
  exact ⟨vs, q, p⟩
/-- a comprehension's list at D, as it comes -/
abbrev LcB (J : It) (g : TG) (tt : TT) (te : TE) (vs : List Nat) (σ : L2.St) (H1 : Hp) (D : Addr) (Qd : Hp → Prop) : Prop := ∃ W : Nat → Nat → Hp → Prop, (∃ m, W 0 m (upd H1 D (.lst []))) ∧ (∀ i m H, W i m H → (J.stop i H ∧ Qd H) ∨ (J.go i H ∧ (∃ Nx : Hp → Prop, (∀ H', Nx H' → ∃ m', m' < m ∧ W (i + 1) m' H') ∧ (∀ x H', J.yld i H x H' → g x (wipe σ vs) H' (fun σ2 H2 => wipe σ2 vs = wipe σ vs ∧ tt σ2 H2 (fun b H3 => if b = true then te σ2 H3 (fun y H4 => ∃ acc, H4 D = some (.lst acc) ∧ acc.length < sizeLine ∧ Nx (upd H4 D (.lst (acc ++ [y])))) else Nx H3))))))
/-- [x for x in xs if ..] over rows -/
theorem lc_filt {J : It} {n i : Nat} {G : Hp → Prop} {σ : L2.St} {own : List Nat} {tt : TT} {H1 : Hp} {L : Addr} {Qd : Hp → Prop} {vs : List V} {rows : List (List Int)} {Pred : List Int → Bool} (w : Walk J n G (YAt vs)) (hL : H1 L = none) (hn : n = vs.length) (hG : ∀ H', Same H1 H' → G H') (pv : Paired (IH H1) vs rows) (small : rows.length ≤ 65536)
    (k : ∀ (H3 : Hp) (acc : List V), Same H1 H3 → H3 L = some (.lst acc) → Paired (IH H3) acc (rows.filter Pred) → Qd H3)
    (hw : ∀ x : V, wipe ((wipe σ own).set i (some x)) own = wipe σ own) (hv : ∀ x : V, ((wipe σ own).set i (some x))[i]? = some (some x))
    (ht : ∀ (m : Nat) (x : V) (row : List Int) (H3 : Hp) (C : Bool → Hp → Prop), rows[m]? = some row → Same H1 H3 → IH H3 x row → (∀ H4, Same H3 H4 → C (Pred row) H4) → tt ((wipe σ own).set i (some x)) H3 C) :
    LcB J (gName i) tt (tVar i) own σ H1 L Qd := by
  have vl := pv.length
  have smN : ∀ {B : Hp}, (∀ b o, b ≠ L → H1 b = some o → B b = some o) → Same H1 B := fun hA b o e => hA b o (fun z => by rw [z, hL] at e; cases e) e
  refine lc_it w (fun m H3 => ∃ acc, H3 L = some (.lst acc) ∧ Paired (IH H3) acc ((rows.take m).filter Pred) ∧ ∀ b o, b ≠ L → H1 b = some o → H3 b = some o) ⟨[], upd_same, .nil, fun b o hb e => by rw [upd_ne hb]; exact e⟩ (fun m H3 _ h => ?_) (fun m x H3 H4 hm h y => ?_) (fun H3 h => ?_)
  · obtain ⟨_, _, _, kp⟩ := h
    exact hG _ (smN kp)
  · obtain ⟨rfl, hx⟩ := y
    obtain ⟨acc, hA, pA, kp⟩ := h
    have s4 := smN kp
    obtain ⟨row, hr, ir⟩ := paired_at pv hx
    have ir4 := ir.kt (kt_same s4)
    have al : acc.length ≤ rows.length := by
      rw [pA.length]
      exact Nat.le_trans (List.length_filter_le _ _) (by rw [List.length_take]; exact Nat.min_le_right _ _)
    have tk : rows.take (m + 1) = rows.take m ++ [row] := by rw [List.take_add_one, hr]; rfl
    refine ⟨hw x, ht m x row H4 _ hr s4 ir4 fun H5 s5 => ?_⟩
    have hA5 := s5 _ _ hA
    have pA5 := paired_mono (fun _ _ q => IH.kt (kt_same s5) q) pA
    by_cases h : Pred row = true
    · rw [if_pos h]
      refine ⟨x, hv x, acc, hA5, by rw [sizeLine_eq]; omega, acc ++ [x], upd_same, ?_, fun b o hb e => ?_⟩
      · rw [tk, List.filter_append]
        have : [row].filter Pred = [row] := by simp [h]
        rw [this]
        exact paired_app (paired_mono (fun _ _ q => q.kt (ktL hA5)) pA5) (paired_one ((ir4.kt (kt_same s5)).kt (ktL hA5)))
      · rw [upd_ne hb]
        exact s5 _ _ (kp b o hb e)
    · have h' : Pred row = false := by simpa using h
      rw [if_neg h]
      refine ⟨acc, hA5, ?_, fun b o hb e => s5 _ _ (kp b o hb e)⟩
      rw [tk, List.filter_append]
      have : [row].filter Pred = [] := by simp [h']
      rw [this, List.append_nil]
      exact pA5
  · obtain ⟨acc, hA, pA, kp⟩ := h
    rw [hn, vl, List.take_length] at pA
    exact k H3 acc (smN kp) hA pA
theorem ok_add {p : Puz} {r : Rul} (ok : PzOk p) (okr : RuleOk p.doms.length r) (h : p.rules.length ≤ 50) : PzOk (addRules p [r]) where
  n8 := ok.n8
  d4 := ok.d4
  r100 := by
    show (p.rules ++ [r]).length ≤ 100
    rw [List.length_append]
    show p.rules.length + 1 ≤ 100
    omega
  small := fun x hx => (List.mem_append.mp hx).elim (ok.small x) fun z => by rw [List.mem_singleton.mp z]; exact okr.small
  tab := fun x hx => (List.mem_append.mp hx).elim (ok.tab x) fun z => by rw [List.mem_singleton.mp z]; exact okr.tab
  some := fun x hx => (List.mem_append.mp hx).elim (ok.some x) fun z => by rw [List.mem_singleton.mp z]; exact okr.some
  cell := fun x hx => (List.mem_append.mp hx).elim (ok.cell x) fun z => by rw [List.mem_singleton.mp z]; exact okr.cell
theorem ok_drop {p : Puz} (ok : PzOk p) (j : Nat) : PzOk (dropRule p j) := by
  have sub : ∀ x ∈ (dropRule p j).rules, x ∈ p.rules := fun x hx => (List.mem_append.mp hx).elim (fun z => List.take_subset _ _ z) fun z => List.drop_subset _ _ z
  refine ⟨ok.n8, ok.d4, ?_, fun x hx => ok.small x (sub x hx), fun x hx => ok.tab x (sub x hx), fun x hx => ok.some x (sub x hx), fun x hx => ok.cell x (sub x hx)⟩
  have := ok.r100
  show (p.rules.take j ++ p.rules.drop (j + 1)).length ≤ 100
  rw [List.length_append, List.length_take, List.length_drop]
  omega
theorem dupV {R F : V → Hp → Prop} {G : Prop} (h : (∀ v H, F v H → R v H) → G) (r : ∀ v H, F v H → R v H) : G := h r
theorem all_at (row : List Int) (lots : List (List Int)) (n : Nat) : (((List.range n).map fun c => decide (row.getD c 0 ∈ lots.getD c [])).all id) = (List.range n).all fun c => decide (row.getD c 0 ∈ lots.getD c []) := by
  rw [List.all_map]
  rfl
theorem dupH {R F : Hp → Prop} {G : Prop} (h : (∀ H, F H → R H) → G) (r : ∀ H, F H → R H) : G := h r
theorem inc_len : ∀ (ks : List Int) (a n : Int), ks.Pairwise (· < ·) → (∀ c ∈ ks, a ≤ c ∧ c < n) → a ≤ n → (ks.length : Int) ≤ n - a
  | [], a, n, _, _, h => by
    show ((0 : Nat) : Int) ≤ n - a
    omega
  | c :: t, a, n, pw, rg, _ => by
    obtain ⟨h1, h2⟩ := List.pairwise_cons.mp pw
    obtain ⟨c1, c2⟩ := rg c (List.mem_cons_self ..)
    have := inc_len t (c + 1) n h2 (fun x hx => ⟨by have := h1 x hx; omega, (rg x (List.mem_cons_of_mem _ hx)).2⟩) (by omega)
    rw [List.length_cons]
    omega
/-- two rows put together -/
theorem cat_two {K : PySem.W.Frag} {H : Hp} {x y : V} {r s : List Int} (hx : IH H x r) (hy : IH H y s) (hl : r.length + s.length ≤ 1000) {Q : VK} (k : ∀ w H', Same H H' → IH H' w (r ++ s) → Q w H') : rCatA K x y H Q := by
  obtain ⟨a, rfl, ha⟩ := hx
  obtain ⟨b, rfl, hb⟩ := hy
  refine ⟨a, b, _, _, rfl, rfl, sqt ha, sqt hb, by rw [List.length_map, List.length_map, sizeLine_eq]; omega, fun e => ?_, fun e1 e2 => ?_, fun e1 _ p hp => ?_⟩
  · have : r = [] := List.map_eq_nil_iff.mp e
    subst this
    exact k _ _ (same_refl H) ⟨b, rfl, hb⟩
  · have : s = [] := List.map_eq_nil_iff.mp e2
    subst this
    rw [List.append_nil] at k
    exact k _ _ (same_refl H) ⟨a, rfl, ha⟩
  · exact k _ _ (same_new hp) ⟨p, rfl, by rw [upd_same, List.map_append]⟩
end G9

set_option Elab.async false
set_option linter.all false
set_option maxRecDepth 100000
set_option maxHeartbeats 4000000
/-! small data: what repr asks of it -/
namespace G9
open PySem PySem.Spec PyProof.Rows L2 GX
structure Sm (d : PyData) (k w : Nat) : Prop where
  sh : d.showable = true
  hd : d.hasDict = false
  dp : d.depth ≤ k
  ls : d.leavesShort 11 = true
  wt : d.weight ≤ w
structure SmA (ds : List PyData) (k w : Nat) : Prop where
  sh : PyData.showableAll ds = true
  hd : PyData.hasDictAll ds = false
  dp : PyData.depthAll ds ≤ k
  ls : PyData.leavesShortAll 11 ds = true
  wt : PyData.weightAll ds ≤ w
theorem SmA.nil {k w : Nat} : SmA [] k w := ⟨rfl, rfl, Nat.zero_le _, rfl, Nat.zero_le _⟩
theorem SmA.cons {d : PyData} {ds : List PyData} {k w v : Nat} (h : Sm d k w) (g : SmA ds k v) : SmA (d :: ds) k (w + v + 2) := by
  refine ⟨?_, ?_, ?_, ?_, ?_⟩
  · simp only [PyData.showableAll, h.sh, g.sh, Bool.and_self]
  · simp only [PyData.hasDictAll, h.hd, g.hd, Bool.or_self]
  · simp only [PyData.depthAll]
    exact Nat.max_le.mpr ⟨h.dp, g.dp⟩
  · simp only [PyData.leavesShortAll, h.ls, g.ls, Bool.and_self]
  · have := h.wt
    have := g.wt
    simp only [PyData.weightAll]
    omega
theorem SmA.mono {ds : List PyData} {k w j v : Nat} (h : SmA ds k w) (a : k ≤ j) (b : w ≤ v) : SmA ds j v := ⟨h.sh, h.hd, Nat.le_trans h.dp a, h.ls, Nat.le_trans h.wt b⟩
theorem Sm.mono {d : PyData} {k w j v : Nat} (h : Sm d k w) (a : k ≤ j) (b : w ≤ v) : Sm d j v := ⟨h.sh, h.hd, Nat.le_trans h.dp a, h.ls, Nat.le_trans h.wt b⟩
theorem SmA.list {ds : List PyData} {k w : Nat} (h : SmA ds k w) : Sm (.list ds) (k + 1) (w + 4) := by
  refine ⟨?_, ?_, ?_, ?_, ?_⟩
  · simp only [PyData.showable, h.sh]
  · simp only [PyData.hasDict, h.hd]
  · have := h.dp
    simp only [PyData.depth]
    omega
  · simp only [PyData.leavesShort, h.ls]
  · have := h.wt
    simp only [PyData.weight]
    omega
theorem SmA.tuple {ds : List PyData} {k w : Nat} (h : SmA ds k w) : Sm (.tuple ds) (k + 1) (w + 4) := by
  refine ⟨?_, ?_, ?_, ?_, ?_⟩
  · simp only [PyData.showable, h.sh]
  · simp only [PyData.hasDict, h.hd]
  · have := h.dp
    simp only [PyData.depth]
    omega
  · simp only [PyData.leavesShort, h.ls]
  · have := h.wt
    simp only [PyData.weight]
    omega
theorem sm_int {v : Int} (h : 0 ≤ v) (h2 : v < 1000000000) (k : Nat) : Sm (.int v) k 30 := by
  have hl : v.natAbs.log2 < 30 := by
    by_cases h0 : v.natAbs = 0
    · rw [h0]
      decide
    · exact (Nat.log2_lt h0).mpr (by omega)
  refine ⟨?_, rfl, Nat.zero_le _, ?_, ?_⟩
  · simp only [PyData.showable, decide_eq_true_eq]
    omega
  · simp only [PyData.leavesShort, PyData.shown]
    have := int_text_length_le10 (a := v) (k := 10) (by decide) (by omega)
    exact decide_eq_true (by rw [PySem.ofString_length]; exact this)
  · simp only [PyData.weight]
    split <;> omega
theorem sm_none (k : Nat) : Sm .none k 30 := ⟨rfl, rfl, Nat.zero_le _, rfl, by simp [PyData.weight]⟩
theorem sm_bool (b : Bool) (k : Nat) : Sm (.bool b) k 30 := ⟨rfl, rfl, Nat.zero_le _, rfl, by simp [PyData.weight]⟩
theorem sm_str (x : Str) (k : Nat) (h : PyData.leavesShort 11 (.str x) = true) (w : PyData.weight (.str x) ≤ 30) : Sm (.str x) k 30 := ⟨rfl, rfl, Nat.zero_le _, h, w⟩
theorem Sm.fits {d : PyData} {k w : Nat} (h : Sm d k w) (hk : k ≤ 60) (hw : w ≤ 2 ^ 20) : d.showable = true ∧ d.hasDict = false ∧ d.depth ≤ 60 ∧ d.shown.length ≤ sizeLine :=
  ⟨h.sh, h.hd, Nat.le_trans h.dp hk, PyData.shown_fits (B := 11) (by decide) (by decide) h.ls (Nat.le_trans h.wt hw)⟩
theorem smA_ints : ∀ {ns : List Int} (k : Nat), (∀ v ∈ ns, Few v) → SmA (ns.map .int) k (32 * ns.length)
  | [], k, _ => .nil
  | v :: ns, k, h => by
    obtain ⟨h1, h2⟩ := h v (List.mem_cons_self ..)
    exact (SmA.cons (sm_int h1 (by omega) k) (smA_ints k fun x hx => h x (List.mem_cons_of_mem _ hx))).mono (Nat.le_refl _) (by rw [List.length_cons]; omega)
theorem sm_dI {ns : List Int} (h : ∀ v ∈ ns, Few v) (hl : ns.length ≤ 8) (k : Nat) : Sm (dI ns) (k + 1) 260 := by
  have := (smA_ints k h).tuple
  exact Sm.mono (d := .tuple (ns.map .int)) this (Nat.le_refl _) (by omega)
theorem smA_rows : ∀ {rows : List (List Int)} (k : Nat), (∀ r ∈ rows, r.length ≤ 8 ∧ ∀ v ∈ r, Few v) → SmA (rows.map dI) (k + 1) (262 * rows.length)
  | [], k, _ => .nil
  | r :: rows, k, h => by
    obtain ⟨h1, h2⟩ := h r (List.mem_cons_self ..)
    exact (SmA.cons (sm_dI h2 h1 k) (smA_rows k fun x hx => h x (List.mem_cons_of_mem _ hx))).mono (Nat.le_refl _) (by rw [List.length_cons]; omega)
theorem sm_rows {rows : List (List Int)} (h : ∀ r ∈ rows, r.length ≤ 8 ∧ ∀ v ∈ r, Few v) (k : Nat) : Sm (dRows rows) (k + 2) (262 * rows.length + 4) := Sm.mono (d := .tuple (rows.map dI)) (smA_rows k h).tuple (Nat.le_refl _) (Nat.le_refl _)
end G9

set_option Elab.async false
set_option linter.all false
set_option maxRecDepth 100000
set_option maxHeartbeats 8000000
/-! is_whole, _stands_in, first_broken, settled, answer_values -/
namespace G9
open PySem PySem.Spec PyProof.Rows L2 GX
/-- what may stand in a tuple that is judged -/
inductive Mb (H : Hp) : V → Prop
  | int (i : Int) : Mb H (.int i)
  | bl (b : Bool) : Mb H (.bl b)
  | non : Mb H .non
  | str (x : Str) : Mb H (.str x)
  | tup {a : Addr} {xs : List V} (e : H a = some (.tup xs)) : Mb H (.ref a)
theorem Mb.kt {H H' : Hp} (k : Kt H H') {v : V} (h : Mb H v) : Mb H' v := by
  cases h with
  | int i => exact .int i
  | bl b => exact .bl b
  | non => exact .non
  | str x => exact .str x
  | tup e => exact .tup (k _ _ e)
def isI : V → Bool
  | .int _ => true
  | _ => false
def toI : V → Int
  | .int i => i
  | _ => 0
def spWhole : Sp := fun vs H Q _ => ∃ v, vs = [v] ∧ Mb H v ∧ Q (.bl (isI v)) H
def spStands : Sp := fun vs H Q _ => ∃ u dom v, vs = [u, .int v] ∧ IH H u dom ∧ Q (.bl (decide (v ∈ dom))) H
/-- the first cell whose domain has not its value -/
def badCell (p : Puz) (ns : List Int) : Option Nat := (List.range p.doms.length).find? fun c => !decide (ns.getD c 0 ∈ p.doms.getD c [])
noncomputable def badRule (p : Puz) (ns : List Int) : Option Nat := (List.range p.rules.length).find? fun j => !((p.rules[j]?.map fun r => fitsB r (pick ns (Rul.cells r))).getD true)
noncomputable def brokenD (p : Puz) (ns : List Int) : PyData := match badCell p ns with
  | some c => .tuple [.str "cell", .int ((c : Nat) : Int)]
  | none => match badRule p ns with
    | some j => .tuple [.str "rule", .int ((j : Nat) : Int)]
    | none => .none
def spBroken (K : PySem.W.Frag) : Sp := fun vs H Q _ => ∃ u p v ns, vs = [u, v] ∧ PzH H u p ∧ PzOk p ∧ IH H v ns ∧ ns.length = p.doms.length ∧ ∀ w H', Same H H' → Dp K H' w (brokenD p ns) → Q w H'
theorem find_at {f : Nat → Bool} {n i : Nat} (h : i < n) (bad : f i = true) (good : ∀ j < i, f j = false) : (List.range n).find? f = some i := by
  rw [List.find?_range_eq_some]
  exact ⟨bad, List.mem_range.mpr h, fun j hj => by rw [good j hj]; rfl⟩
theorem find_no {f : Nat → Bool} {n : Nat} (good : ∀ j < n, f j = false) : (List.range n).find? f = none := by
  rw [List.find?_eq_none]
  intro j hj
  rw [good j (List.mem_range.mp hj)]
  exact Bool.false_ne_true
section
variable {P : Program} {w : World} {K : PySem.W.Frag} {mg : Str → Option Value} {base : Heap} {f f1 f2 f3 : Addr} {fd fd1 fd2 fd3 : FuncData} {pT : Addr}
end
end G9

set_option Elab.async false
set_option linter.all false
set_option maxRecDepth 100000
set_option maxHeartbeats 4000000
/-! the law's any_order, of any things -/
namespace G9
open PySem PySem.Spec PyProof.Rows L2 GX
def spOrderV : Sp := fun vs H Q _ => ∃ (d cs la : Addr) (xs : List V), vs = [.ref d, .ref la] ∧ SrcAt H d cs ∧ H la = some (.lst xs) ∧ xs.length ≤ 100000 ∧ ∀ (l : Addr) (xs' : List V) (H' : Hp), xs'.Perm xs → SrcAt H' d cs → Rn d cs H H' → H l = none → H' l = some (.lst xs') → Q (.ref l) H'
section
variable {P : Program} {w : World} {K : PySem.W.Frag} {mg : Str → Option Value} {base : Heap} {f fP : Addr} {fd dP : FuncData}
theorem ok_orderV (B : Bl mg) (D : Df K mg "_law_any_order" sOrder ["_law_source", "_law_things"] f fd) (DP : Df K mg "_law_pick" sPick ["_law_source", "_law_most"] fP dP) (GP : FnOk P w K mg base CX0 1 fP dP ["_law_source", "_law_most"] spPick) : FnOk P w K mg base CX0 3 f fd ["_law_source", "_law_things"] spOrderV := by
  refine D.F.ok scOrder (fun vs H Q E h => ?_) (fun cdv A outer s H vs Q E hr h => ?_)
  · obtain ⟨d, cs, la, xs, rfl, _⟩ := h
    rfl
  · obtain ⟨d, cs, ta, xs, rfl, hs, hta, hn, k⟩ := h
    refine ⟨_, pss_cons (ps_set (i := 2) scOrder.nd rfl (.inr rfl) (pe_callTy call_list_of (by rfl) B.list PyProof.Rows.boot_list (pa_cons (pv 1) pa_nil)))
      (pss_one (ps_ret (pe_lc (own := [("_law_lap", 3)]) rfl scOrder.nd (pi_range1 (by rfl) B.range (pa_cons (pe_callB call_len_seq (by rfl) B.len PySem.boot_len (pa_cons (pv 2) pa_nil)) pa_nil)) (blkOk_by (N := ["_law_source", "_law_things", "_law_others", "_law_lap"]) (sc := defScope sOrder) (by decide +kernel))
        (fun _ _ _ _ _ => pg_name (i := 3) scOrder.nd rfl (.inl rfl)) (fun _ _ _ _ _ => pts_nil)
        (fun _ _ _ _ _ => (show PE _ _ (tBM K "list" rPopAt _ _) from pe_bm PySem.F.plainAttrs_list PySem.F.slot_list_pop PySem.F.type_list_pop mt_popAt (pv 2) (pa_cons (pe_call GP (hr.mono (by decide)) (by rfl) DP.g DP.F.kp DP.b .nil pass0 (pa_cons (pv 0) (pa_cons (pe_callB (lenK K) (by rfl) B.len PySem.boot_len (pa_cons (pv 2) pa_nil)) pa_nil))) pa_nil)))))), ?_⟩
    refine ⟨_, rfl, ta, _, rfl, .inl (sql hta), fun ot hot => ?_⟩
    have n1 := hs.none hot
    refine ⟨_, rfl, ot, _, rfl, .inl (sql upd_same), _, rfl, by omega, by omega, fun L hL => ?_⟩
    have hs1 : SrcAt (upd H ot (.lst xs)) d cs := hs.upd n1.1 n1.2
    have n2 := hs1.none hL
    have n3 : ot ≠ L := ne_of_none upd_same hL
    have hLH : H L = none := none_under hL
    refine lc_it (walk_range (lo := 0) (n := ((xs.length : Nat) : Int).toNat)) (fun i H' => ∃ done rest : List V, H' ot = some (.lst rest) ∧ H' L = some (.lst done) ∧ (done ++ rest).Perm xs ∧ rest.length + i = xs.length ∧ SrcAt H' d cs ∧ Rn d cs H H')
      ⟨[], xs, upd_at hL upd_same, upd_same, .refl _, rfl, hs1.upd n2.1 n2.2, fun b o _ _ e => upd_at hL (upd_at hot e)⟩ (fun i H' _ h => trivial) (fun i x H' H'' hi h y => ?_) (fun H' h => ?_)
    · obtain ⟨done, rest, hO, hLd, pm, rl, hs', rn⟩ := h
      obtain ⟨rfl, rfl⟩ := y
      have ilt : i < xs.length := by rw [Int.toNat_natCast] at hi; exact hi
      have dl : done.length ≤ xs.length := by
        have := pm.length_eq
        rw [List.length_append] at this
        omega
      refine ⟨rfl, _, rfl, .inl ⟨rfl, _, sql hO⟩, _, rfl, _, rfl, ot, _, rfl, .inl (sql hO), d, cs, _, rfl, hs', by omega, fun r H1 r0 r1 hs2 rn2 => ?_⟩
      have rb : 0 ≤ r ∧ r < (rest.length : Int) := by
        by_cases h2 : (rest.length : Int) < 2
        · have := r0 h2
          omega
        · exact r1 (by omega)
      have hO1 : H1 ot = some (.lst rest) := rn2 _ _ n1.1 n1.2 hO
      have hL1 : H1 L = some (.lst done) := rn2 _ _ n2.1 n2.2 hLd
      have rlt : r.toNat < rest.length := by omega
      refine ⟨ot, _, r, r.toNat, rest[r.toNat]'rlt, rfl, rfl, hO1, by omega, by omega, seqIndex_of rb.1 rb.2, List.getElem?_eq_getElem rlt, ?_⟩
      have hL2 : upd H1 ot (.lst (rest.eraseIdx r.toNat)) L = some (.lst done) := by rw [upd_ne n3.symm]; exact hL1
      refine ⟨_, hL2, by rw [sizeLine_eq]; omega, done ++ [rest[r.toNat]'rlt], rest.eraseIdx r.toNat, ?_, upd_same, ?_, ?_, (hs2.upd n1.1 n1.2).upd n2.1 n2.2, fun b o h1 h2 e => ?_⟩
      · rw [upd_ne n3, upd_same]
      · refine .trans ?_ pm
        rw [List.append_assoc]
        exact .append_left _ (erase_perm rlt)
      · rw [List.length_eraseIdx_of_lt rlt]
        omega
      · rw [upd_ne (fun z => by rw [z, hLH] at e; cases e), upd_ne (fun z => by rw [z, hot] at e; cases e)]
        exact rn2 b o h1 h2 (rn b o h1 h2 e)
    · obtain ⟨done, rest, hO, hLd, pm, rl, hs', rn⟩ := h
      rw [Int.toNat_natCast] at rl
      have : rest = [] := List.eq_nil_of_length_eq_zero (by omega)
      subst this
      rw [List.append_nil] at pm
      exact k L done H' pm hs' rn hLH hLd
end
end G9

set_option Elab.async false
set_option linter.all false
set_option maxRecDepth 100000
set_option maxHeartbeats 4000000
/-! what stays over a step of the law; dict of pairs (v, 0) -/
namespace G9
open PySem PySem.Spec PyProof.Rows L2 GX
theorem rowsOf_three : ∀ (n : Nat) (ds : List (List Int)), ds.length = n → (∀ d ∈ ds, d.length ≤ 3) → (rowsOf ds).length ≤ 3 ^ n
  | 0, [], _, _ => Nat.le_refl _
  | n + 1, ds, h, hd => by
    have ne : ds ≠ [] := fun z => by rw [z] at h; cases h
    have e := List.dropLast_concat_getLast ne
    have hl : ds.dropLast.length = n := by rw [List.length_dropLast, h]; rfl
    rw [← e, rowsOf_snoc]
    have i1 := rowsOf_three n _ hl fun d hd' => hd d (List.dropLast_subset _ hd')
    have i2 := hd _ (List.getLast_mem ne)
    rw [grow_len]
    exact Nat.mul_le_mul i1 i2
structure Wk (d cs : Addr) (H H' : Hp) : Prop where
  src : SrcAt H' d cs
  lx : LX cs H H'
  tb : ∀ P, GxR.TabG H P → GxR.TabG H' P
section
variable {d cs : Addr} {H H' H2 : Hp}
theorem wk_same (hs : SrcAt H d cs) (s : Same H H') : Wk d cs H H' := ⟨hs.same s, lx_same s, (kb_same s).2⟩
theorem wk_kb (hs : SrcAt H d cs) (s : Kb H H') : Wk d cs H H' := ⟨hs.kb s, lx_kb s, s.2⟩
theorem wk_rn (hs : SrcAt H d cs) (hs' : SrcAt H' d cs) (rn : Rn d cs H H') : Wk d cs H H' := by
  obtain ⟨zs, l, m, u, hd, hcs, _⟩ := id hs
  refine ⟨hs', ⟨rn.kt hs, fun b xs n e => rn b _ (ne_of e hd fun z => by cases z) n e⟩, fun P ⟨ps, e, t⟩ => ⟨ps, rn _ _ (ne_of e hd fun z => by cases z) (ne_of e hcs fun z => by cases z) e, t⟩⟩
theorem Wk.tr (h : Wk d cs H H') (g : Wk d cs H' H2) : Wk d cs H H2 := ⟨g.src, h.lx.trans g.lx, fun P e => g.tb P (h.tb P e)⟩
theorem Wk.same (h : Wk d cs H H') (s : Same H' H2) : Wk d cs H H2 := h.tr (wk_same h.src s)
theorem Wk.kb (h : Wk d cs H H') (s : Kb H' H2) : Wk d cs H H2 := h.tr (wk_kb h.src s)
theorem Wk.rn (h : Wk d cs H H') (hs : SrcAt H2 d cs) (r : Rn d cs H' H2) : Wk d cs H H2 := h.tr (wk_rn h.src hs r)
end
theorem Wk.refl {d cs : Addr} {H : Hp} (h : SrcAt H d cs) : Wk d cs H H := ⟨h, .refl _ _, fun _ e => e⟩
def pr0 (v : Int) : Key × V := (.inl v, .int 0)
theorem put0_in {us : List Int} {v : Int} (h : v ∈ us) : putK (us.map pr0) (.inl v) (.int 0) = us.map pr0 := by
  unfold putK
  have a : ((us.map pr0).any fun kv => decide (kv.1 = Sum.inl v)) = true := by
    rw [List.any_map, List.any_eq_true]
    exact ⟨v, h, decide_eq_true rfl⟩
  rw [if_pos a, List.map_map]
  refine List.map_congr_left fun u hu => ?_
  show (if (Sum.inl u : Key) = Sum.inl v then _ else pr0 u) = pr0 u
  by_cases e : (Sum.inl u : Key) = Sum.inl v
  · rw [if_pos e]
    unfold pr0
    rw [e]
  · rw [if_neg e]
theorem put0_new {us : List Int} {v : Int} (h : v ∉ us) : putK (us.map pr0) (.inl v) (.int 0) = (us ++ [v]).map pr0 := by
  unfold putK
  have a : ¬ ((us.map pr0).any fun kv => decide (kv.1 = Sum.inl v)) = true := by
    rw [List.any_map, List.any_eq_true]
    rintro ⟨u, hu, e⟩
    have e2 : (Sum.inl u : Key) = Sum.inl v := of_decide_eq_true e
    exact h (Sum.inl.inj e2 ▸ hu)
  rw [if_neg a, List.map_append]
  rfl
theorem merge0 : ∀ (vals us : List Int), us.Nodup → ∃ ws : List Int, mergeK (us.map pr0) (vals.map pr0) = ws.map pr0 ∧ ws.Nodup ∧ ∀ x, x ∈ ws ↔ x ∈ us ∨ x ∈ vals
  | [], us, nd => ⟨us, rfl, nd, fun x => by simp⟩
  | v :: vals, us, nd => by
    by_cases h : v ∈ us
    · obtain ⟨ws, e, n2, m⟩ := merge0 vals us nd
      refine ⟨ws, ?_, n2, fun x => ?_⟩
      · show mergeK (putK (us.map pr0) (.inl v) (.int 0)) (vals.map pr0) = _
        rw [put0_in h]
        exact e
      · rw [m x, List.mem_cons]
        constructor
        · rintro (z | z)
          · exact .inl z
          · exact .inr (.inr z)
        · rintro (z | z | z)
          · exact .inl z
          · exact .inl (z ▸ h)
          · exact .inr z
    · obtain ⟨ws, e, n2, m⟩ := merge0 vals (us ++ [v]) (nodup_snoc nd h)
      refine ⟨ws, ?_, n2, fun x => ?_⟩
      · show mergeK (putK (us.map pr0) (.inl v) (.int 0)) (vals.map pr0) = _
        rw [put0_new h]
        exact e
      · rw [m x, List.mem_append, List.mem_singleton, List.mem_cons]
        constructor
        · rintro ((z | z) | z)
          · exact .inl z
          · exact .inr (.inl z)
          · exact .inr (.inr z)
        · rintro (z | z | z)
          · exact .inl (.inl z)
          · exact .inl (.inr z)
          · exact .inr z
theorem inc_of {l : List Int} (nd : l.Nodup) (le : l.Pairwise (· ≤ ·)) : l.Pairwise (· < ·) := by
  induction l with
  | nil => exact .nil
  | cons a l ih =>
    obtain ⟨a1, a2⟩ := List.pairwise_cons.mp le
    obtain ⟨n1, n2⟩ := List.nodup_cons.mp nd
    refine List.pairwise_cons.mpr ⟨fun x hx => ?_, ih n2 a2⟩
    have := a1 x hx
    have ne : a ≠ x := fun z => n1 (z ▸ hx)
    omega
/-- the drawn puzzles of this law -/
structure Pd (p : Puz) : Prop where
  ok : PzOk p
  n1 : 1 ≤ p.doms.length
  n4 : p.doms.length ≤ 4
  r8 : p.rules.length ≤ 8
  dom : ∀ e ∈ p.doms, e.Pairwise (· < ·) ∧ (∀ v ∈ e, Few v) ∧ e.length ≤ 3 ∧ ∀ v ∈ e, 0 ≤ v ∧ v < 4
  rul : ∀ r ∈ p.rules, RulNum r ∧ (Rul.cells r).length ≤ 8
theorem Pd.ans {p : Puz} (h : Pd p) : (answersOf p).length ≤ 81 := by
  refine Nat.le_trans (List.length_filter_le _ _) (Nat.le_trans (rowsOf_three _ _ rfl fun e he => (h.dom e he).2.2.1) ?_)
  exact Nat.le_trans (Nat.pow_le_pow_right (by decide) h.n4) (by decide)
theorem Pd.row {p : Puz} (h : Pd p) : ∀ r ∈ answersOf p, r.length ≤ 8 ∧ ∀ v ∈ r, Few v := fun r hr => by
  have h6 := h.n4
  exact ⟨by rw [ans_len hr]; omega, rowsOf_all _ _ rfl (fun e he => (h.dom e he).2.1) r (List.mem_filter.mp hr).1⟩
end G9

set_option Elab.async false
set_option linter.all false
set_option maxRecDepth 100000
set_option maxHeartbeats 8000000
/-! comprehensions without a test, by what their members are; cells of grids -/
namespace G9
open PySem PySem.Spec PyProof.Rows L2 GX
theorem lc_map {J : It} {n : Nat} {G : Hp → Prop} {Y : Nat → Hp → V → Hp → Prop} {g : TG} {te : TE} {vs : List Nat} {σ : L2.St} {H1 : Hp} {D : Addr} {Qd : Hp → Prop} (w : Walk J n G Y) (hD : H1 D = none) (R : Nat → Hp → V → Prop) (stab : ∀ i H H' v, Kt H H' → R i H v → R i H' v) (hG : ∀ H', Same H1 H' → G H') (hn : n ≤ 100000)
    (turn : ∀ i x H' H'', i < n → Same H1 H' → Y i H' x H'' → ∀ C : V → Hp → Prop, (∀ y H4, Same H' H4 → R i H4 y → C y H4) → g x (wipe σ vs) H'' fun σ2 H2 => wipe σ2 vs = wipe σ vs ∧ te σ2 H2 C)
    (fin : ∀ H' ys, Same H1 H' → H' D = some (.lst ys) → ys.length = n → (∀ j y, ys[j]? = some y → R j H' y) → Qd H') : LcB J g tYes te vs σ H1 D Qd := by
  have sm : ∀ {B : Hp}, (∀ b o, b ≠ D → H1 b = some o → B b = some o) → Same H1 B := fun kp b o e => kp b o (fun z => by rw [z, hD] at e; cases e) e
  refine lc_it w (fun i H' => ∃ ys, H' D = some (.lst ys) ∧ ys.length = i ∧ (∀ j y, ys[j]? = some y → R j H' y) ∧ ∀ b o, b ≠ D → H1 b = some o → H' b = some o) ⟨[], upd_same, rfl, fun j y e => by simp at e, fun b o hb e => by rw [upd_ne hb]; exact e⟩ (fun i H' _ h => ?_) (fun i x H' H'' hi h y => ?_) (fun H' h => ?_)
  · obtain ⟨_, _, _, _, kp⟩ := h
    exact hG _ (sm kp)
  · obtain ⟨ys, hA, yl, hR, kp⟩ := h
    refine turn i x H' H'' hi (sm kp) y _ fun v H4 s4 hv => ?_
    have hA4 := s4 _ _ hA
    refine ⟨ys, hA4, by rw [sizeLine_eq]; omega, ys ++ [v], upd_same, by rw [List.length_append, yl]; rfl, fun j y e => ?_, fun b o hb e => ?_⟩
    · refine stab _ _ _ _ (ktL hA4) ?_
      by_cases jl : j < ys.length
      · rw [List.getElem?_append_left jl] at e
        exact stab _ _ _ _ (kt_same s4) (hR j y e)
      · rw [List.getElem?_append_right (by omega)] at e
        have j0 : j - ys.length = 0 := by
          cases z : j - ys.length with
          | zero => rfl
          | succ k => rw [z] at e; simp at e
        rw [j0] at e
        cases e
        have : j = i := by omega
        rw [this]
        exact hv
    · rw [upd_ne hb]
      exact s4 _ _ (kp b o hb e)
  · obtain ⟨ys, hA, yl, hR, kp⟩ := h
    exact fin H' ys (sm kp) hA yl hR
/-- whole numbers -/
theorem lc_mapI {J : It} {n : Nat} {G : Hp → Prop} {Y : Nat → Hp → V → Hp → Prop} {g : TG} {te : TE} {vs : List Nat} {σ : L2.St} {H1 : Hp} {D : Addr} {Qd : Hp → Prop} (w : Walk J n G Y) (hD : H1 D = none) (F : Nat → Int) (hG : ∀ H', Same H1 H' → G H') (hn : n ≤ 100000)
    (turn : ∀ i x H' H'', i < n → Same H1 H' → Y i H' x H'' → ∀ C : V → Hp → Prop, (∀ H4, Same H' H4 → C (.int (F i)) H4) → g x (wipe σ vs) H'' fun σ2 H2 => wipe σ2 vs = wipe σ vs ∧ te σ2 H2 C)
    (fin : ∀ H', Same H1 H' → H' D = some (.lst (((List.range n).map F).map V.int)) → Qd H') : LcB J g tYes te vs σ H1 D Qd := by
  refine lc_map w hD (fun i _ v => v = .int (F i)) (fun _ _ _ _ _ h => h) hG hn (fun i x H' H'' hi s y C k => turn i x H' H'' hi s y C fun H4 s4 => k _ H4 s4 rfl) fun H' ys s hA yl hR => fin H' s ?_
  have : ys = ((List.range n).map F).map V.int := by
    refine List.ext_getElem? fun j => ?_
    rw [List.getElem?_map, List.getElem?_map]
    by_cases jl : j < n
    · rw [List.getElem?_range jl, List.getElem?_eq_getElem (by omega), hR j _ (List.getElem?_eq_getElem (by omega))]
      rfl
    · rw [List.getElem?_eq_none (by omega), List.getElem?_eq_none (by rw [List.length_range]; omega)]
      rfl
  rw [← this]
  exact hA
theorem paired_at_all {H : Hp} {R : Nat → List Int} : ∀ {ys : List V} (m : Nat), (∀ j y, ys[j]? = some y → IH H y (R (m + j))) → Paired (IH H) ys ((List.range' m ys.length).map R)
  | [], m, _ => .nil
  | y :: ys, m, h => by
    rw [List.length_cons, List.range'_succ, List.map_cons]
    exact .cons (h 0 y rfl) (paired_at_all (m + 1) fun j z e => by have := h (j + 1) z (by simpa using e); rwa [show m + (j + 1) = m + 1 + j by omega] at this)
/-- rows -/
theorem lc_mapR {J : It} {n : Nat} {G : Hp → Prop} {Y : Nat → Hp → V → Hp → Prop} {g : TG} {te : TE} {vs : List Nat} {σ : L2.St} {H1 : Hp} {D : Addr} {Qd : Hp → Prop} (w : Walk J n G Y) (hD : H1 D = none) (F : Nat → List Int) (hG : ∀ H', Same H1 H' → G H') (hn : n ≤ 100000)
    (turn : ∀ i x H' H'', i < n → Same H1 H' → Y i H' x H'' → ∀ C : V → Hp → Prop, (∀ y H4, Same H' H4 → IH H4 y (F i) → C y H4) → g x (wipe σ vs) H'' fun σ2 H2 => wipe σ2 vs = wipe σ vs ∧ te σ2 H2 C)
    (fin : ∀ H' ys, Same H1 H' → H' D = some (.lst ys) → Paired (IH H') ys ((List.range n).map F) → Qd H') : LcB J g tYes te vs σ H1 D Qd := by
  refine lc_map w hD (fun i H v => IH H v (F i)) (fun _ _ _ _ k h => h.kt k) hG hn turn fun H' ys s hA yl hR => fin H' ys s hA ?_
  have := paired_at_all (R := F) (ys := ys) 0 fun j y e => by rw [Nat.zero_add]; exact hR j y e
  rw [yl, ← List.range_eq_range'] at this
  exact this
/-! cells of grids -/
def rowC (w r : Int) : List Int := (List.range w.toNat).map fun c => r * w + ((c : Nat) : Int)
def colC (h w c : Int) : List Int := (List.range h.toNat).map fun r => ((r : Nat) : Int) * w + c
def allC (h w : Int) : List Int := nI (List.range (h * w).toNat)
/-- a grid: small -/
def GrH (H : Hp) (v : V) (h w : Int) : Prop := IH H v [h, w] ∧ 1 ≤ h ∧ 1 ≤ w ∧ h * w ≤ 16
theorem GrH.kt {H H' : Hp} {v : V} {h w : Int} (k : Kt H H') (g : GrH H v h w) : GrH H' v h w := ⟨g.1.kt k, g.2⟩
theorem GrH.le {H : Hp} {v : V} {h w : Int} (g : GrH H v h w) : h ≤ 16 ∧ w ≤ 16 := by
  obtain ⟨_, h1, w1, hw⟩ := g
  have a : h * 1 ≤ h * w := Int.mul_le_mul_of_nonneg_left w1 (by omega)
  have b : 1 * w ≤ h * w := Int.mul_le_mul_of_nonneg_right h1 (by omega)
  omega
def spCellAt : Sp := fun vs H Q _ => ∃ g h w r c, vs = [g, .int r, .int c] ∧ GrH H g h w ∧ Q (.int (r * w + c)) H
def spPlaceOf : Sp := fun vs H Q _ => ∃ g h w c, vs = [g, .int c] ∧ GrH H g h w ∧ ∀ v H', Same H H' → IH H' v [c / w, c % w] → Q v H'
def spRowCells : Sp := fun vs H Q _ => ∃ g h w r, vs = [g, .int r] ∧ GrH H g h w ∧ ∀ v H', Same H H' → IH H' v (rowC w r) → Q v H'
def spColCells : Sp := fun vs H Q _ => ∃ g h w c, vs = [g, .int c] ∧ GrH H g h w ∧ ∀ v H', Same H H' → IH H' v (colC h w c) → Q v H'
def spAllCells : Sp := fun vs H Q _ => ∃ g h w, vs = [g] ∧ GrH H g h w ∧ ∀ v H', Same H H' → IH H' v (allC h w) → Q v H'
def spGaps : Sp := fun vs H Q _ => ∃ g h w i j, vs = [g, .int i, .int j] ∧ GrH H g h w ∧ ∀ v H', Same H H' → IH H' v [((i / w - j / w).natAbs : Int), ((i % w - j % w).natAbs : Int)] → Q v H'
section
variable {P : Program} {w : World} {K : PySem.W.Frag} {mg : Str → Option Value} {base : Heap} {f f1 f2 f3 : Addr} {fd fd1 fd2 fd3 : FuncData}
theorem ok_cellAt (D : Df K mg "cell_at" sCellAt ["grid", "r", "c"] f fd) : FnOk P w K mg base CX0 1 f fd ["grid", "r", "c"] spCellAt := by
  refine D.F.ok scCellAt (fun vs H Q E h => ?_) (fun cdv A outer s H vs Q E hr h => ?_)
  · obtain ⟨g, h, w, r, c, rfl, _⟩ := h
    rfl
  · obtain ⟨g, h, w, r, c, rfl, hg, k⟩ := h
    refine ⟨_, pss_one (ps_ret (pe_op op_add (pe_op op_mul (pv 1) (pe_ix ix_tup (pv 0) pe_int (fun _ _ => rfl))) (pv 2))), ?_⟩
    have := hg.le
    obtain ⟨⟨a, rfl, ha⟩, h1, w1, _⟩ := hg
    exact ⟨_, rfl, _, rfl, a, _, 1, _, rfl, rfl, sqt ha, rfl, _, _, rfl, rfl, .inr ⟨by omega, by omega⟩, _, rfl, _, _, rfl, rfl, k⟩
theorem ok_placeOf (D : Df K mg "place_of" sPlaceOf ["grid", "cell"] f fd) (hm : mg "divmod" = none) : FnOk P w K mg base CX0 1 f fd ["grid", "cell"] spPlaceOf := by
  refine D.F.ok scPlaceOf (fun vs H Q E h => ?_) (fun cdv A outer s H vs Q E hr h => ?_)
  · obtain ⟨g, h, w, c, rfl, _⟩ := h
    rfl
  · obtain ⟨g, h, w, c, rfl, hg, k⟩ := h
    refine ⟨_, pss_one (ps_ret (pe_callB call_divmod (by rfl) hm PyProof.Rows.boot_divmod (pa_cons (pv 1) (pa_cons (pe_ix ix_tup (pv 0) pe_int (fun _ _ => rfl)) pa_nil)))), ?_⟩
    have := hg.le
    obtain ⟨⟨a, rfl, ha⟩, h1, w1, _⟩ := hg
    refine ⟨_, rfl, _, rfl, a, _, 1, _, rfl, rfl, sqt ha, rfl, c, w, rfl, ⟨by omega, by omega⟩, fun T hT => ?_⟩
    exact k _ _ (same_new hT) ⟨T, rfl, upd_same⟩
theorem ok_rowCells (B : Bl mg) (D : Df K mg "row_cells" sRowCells ["grid", "r"] f fd) (D1 : Df K mg "cell_at" sCellAt ["grid", "r", "c"] f1 fd1) (G1 : FnOk P w K mg base CX0 1 f1 fd1 ["grid", "r", "c"] spCellAt) : FnOk P w K mg base CX0 2 f fd ["grid", "r"] spRowCells := by
  refine D.F.ok scRowCells (fun vs H Q E h => ?_) (fun cdv A outer s H vs Q E hr h => ?_)
  · obtain ⟨g, h, w, r, rfl, _⟩ := h
    rfl
  · obtain ⟨g, h, w, r, rfl, hg, k⟩ := h
    refine ⟨_, pss_one (ps_ret (pe_callTy (tupleOf K) (by rfl) B.tuple PyProof.Rows.boot_tuple (pa_cons (pe_lc (own := [("c", 2)]) rfl scRowCells.nd (pi_range1 (by rfl) B.range (pa_cons (pe_ix ix_tup (pv 0) pe_int (fun _ _ => rfl)) pa_nil)) (blkOk_by (N := ["grid", "r", "c"]) (sc := defScope sRowCells) (by decide +kernel))
      (fun _ _ _ _ _ => pg_name (i := 2) scRowCells.nd rfl (by first | exact .inl rfl | exact .inr rfl)) (fun _ _ _ _ _ => pts_nil) (fun _ _ _ _ _ => pe_call G1 (hr.mono (by decide)) (by rfl) D1.g D1.F.kp D1.b .nil pass0 (pa_cons (pv 0) (pa_cons (pv 1) (pa_cons (pv 2) pa_nil))))) pa_nil))), ?_⟩
    have le := hg.le
    obtain ⟨⟨a, rfl, ha⟩, h1, w1, hw⟩ := id hg
    refine ⟨_, rfl, a, _, 1, _, rfl, rfl, sqt ha, rfl, _, rfl, by omega, by omega, fun L hL => ?_⟩
    refine lc_mapI (walk_range (lo := 0) (n := w.toNat)) hL (fun c => r * w + ((c : Nat) : Int)) (fun _ _ => trivial) (by omega) (fun i x H' H'' hi s y C kk => ?_) (fun H' s hA => ?_)
    · obtain ⟨rfl, rfl⟩ := y
      refine ⟨rfl, _, rfl, _, rfl, _, rfl, .ref a, h, w, r, _, rfl, hg.kt (kt_same s), ?_⟩
      rw [Int.zero_add]
      exact kk _ (same_refl _)
    · refine ⟨L, _, rfl, .inl ⟨sql hA, fun T hT => ?_⟩⟩
      exact k _ _ (Same.tr s (same_new hT)) ⟨T, rfl, upd_same⟩
theorem ok_colCells (B : Bl mg) (D : Df K mg "column_cells" sColumnCells ["grid", "c"] f fd) (D1 : Df K mg "cell_at" sCellAt ["grid", "r", "c"] f1 fd1) (G1 : FnOk P w K mg base CX0 1 f1 fd1 ["grid", "r", "c"] spCellAt) : FnOk P w K mg base CX0 2 f fd ["grid", "c"] spColCells := by
  refine D.F.ok scColumnCells (fun vs H Q E h => ?_) (fun cdv A outer s H vs Q E hr h => ?_)
  · obtain ⟨g, h, w, c, rfl, _⟩ := h
    rfl
  · obtain ⟨g, h, w, c, rfl, hg, k⟩ := h
    refine ⟨_, pss_one (ps_ret (pe_callTy (tupleOf K) (by rfl) B.tuple PyProof.Rows.boot_tuple (pa_cons (pe_lc (own := [("r", 2)]) rfl scColumnCells.nd (pi_range1 (by rfl) B.range (pa_cons (pe_ix ix_tup (pv 0) pe_int (fun _ _ => rfl)) pa_nil)) (blkOk_by (N := ["grid", "c", "r"]) (sc := defScope sColumnCells) (by decide +kernel))
      (fun _ _ _ _ _ => pg_name (i := 2) scColumnCells.nd rfl (by first | exact .inl rfl | exact .inr rfl)) (fun _ _ _ _ _ => pts_nil) (fun _ _ _ _ _ => pe_call G1 (hr.mono (by decide)) (by rfl) D1.g D1.F.kp D1.b .nil pass0 (pa_cons (pv 0) (pa_cons (pv 2) (pa_cons (pv 1) pa_nil))))) pa_nil))), ?_⟩
    have le := hg.le
    obtain ⟨⟨a, rfl, ha⟩, h1, w1, hw⟩ := id hg
    refine ⟨_, rfl, a, _, 0, _, rfl, rfl, sqt ha, rfl, _, rfl, by omega, by omega, fun L hL => ?_⟩
    refine lc_mapI (walk_range (lo := 0) (n := h.toNat)) hL (fun r => ((r : Nat) : Int) * w + c) (fun _ _ => trivial) (by omega) (fun i x H' H'' hi s y C kk => ?_) (fun H' s hA => ?_)
    · obtain ⟨rfl, rfl⟩ := y
      refine ⟨rfl, _, rfl, _, rfl, _, rfl, .ref a, h, w, _, c, rfl, hg.kt (kt_same s), ?_⟩
      rw [Int.zero_add]
      exact kk _ (same_refl _)
    · refine ⟨L, _, rfl, .inl ⟨sql hA, fun T hT => ?_⟩⟩
      exact k _ _ (Same.tr s (same_new hT)) ⟨T, rfl, upd_same⟩
end
end G9

set_option Elab.async false
set_option linter.all false
set_option maxRecDepth 100000
set_option maxHeartbeats 8000000
/-! all cells, boxes, gaps, ties, what is about a cell -/
namespace G9
open PySem PySem.Spec PyProof.Rows L2 GX
/-- the inner walk -/
theorem inner_it {J : It} {n : Nat} {G : Hp → Prop} {Y : Nat → Hp → V → Hp → Prop} {H1 : Hp} {Qd : Hp → Prop} {R : Nat → V → Hp → (Hp → Prop) → Prop} (w : Walk J n G Y) (Pv : Nat → Hp → Prop) (begin0 : Pv 0 H1) (hG : ∀ i H, i ≤ n → Pv i H → G H)
    (turn : ∀ i x H H', i < n → Pv i H → Y i H x H' → R i x H' (Pv (i + 1))) (fin : ∀ H, Pv n H → Qd H) :
    ∃ W : Nat → Nat → Hp → Prop, (∃ m, W 0 m H1) ∧ ∀ i m H, W i m H → (J.stop i H ∧ Qd H) ∨ (J.go i H ∧ ∃ Nx : Hp → Prop, (∀ H', Nx H' → ∃ m', m' < m ∧ W (i + 1) m' H') ∧ ∀ x H', J.yld i H x H' → R i x H' Nx) := by
  refine ⟨fun i m H => m = n - i ∧ i ≤ n ∧ Pv i H, ⟨n, rfl, Nat.zero_le _, begin0⟩, fun i m H ⟨em, hi, p⟩ => ?_⟩
  subst em
  by_cases hlt : i < n
  · exact .inr ⟨w.goes i H hlt (hG i H hi p), Pv (i + 1), fun H' p' => ⟨n - (i + 1), by omega, rfl, hlt, p'⟩, fun x H' y => turn i x H H' hlt p (w.yields i H x H' hlt (hG i H hi p) y)⟩
  · have e : i = n := by omega
    subst e
    exact .inl ⟨w.stops H (hG i H hi p), fin H p⟩
/-- [e for .. in .. for .. in ..] by two walks -/
theorem lc2_it {J : It} {n : Nat} {G : Hp → Prop} {Y : Nat → Hp → V → Hp → Prop} {g g1 : TG} {tt tt1 : TT} {wi1 : TI} {te : TE} {vs vs1 : List Nat} {σ : L2.St} {H1 : Hp} {D : Addr} {Qd : Hp → Prop} (w : Walk J n G Y) (Pv : Nat → Hp → Prop) (begin0 : Pv 0 (upd H1 D (.lst []))) (hG : ∀ i H, i ≤ n → Pv i H → G H)
    (turn : ∀ i x H H', i < n → Pv i H → Y i H x H' → g x (wipe σ vs) H' fun σ2 H2 => wipe σ2 vs = wipe σ vs ∧ tt σ2 H2 fun b H3 =>
      if b = true then wi1 σ2 H3 fun J1 H4 => ∃ W1 : Nat → Nat → Hp → Prop, (∃ m, W1 0 m H4) ∧ ∀ j k H, W1 j k H →
        (J1.stop j H ∧ Pv (i + 1) H) ∨ (J1.go j H ∧ ∃ Nx1 : Hp → Prop, (∀ H', Nx1 H' → ∃ k', k' < k ∧ W1 (j + 1) k' H') ∧ ∀ x H', J1.yld j H x H' → g1 x (wipe σ2 vs1) H' fun σ3 H5 => wipe σ3 vs1 = wipe σ2 vs1 ∧ tt1 σ3 H5 fun b H6 =>
          if b = true then te σ3 H6 fun y H7 => ∃ acc, H7 D = some (.lst acc) ∧ acc.length < sizeLine ∧ Nx1 (upd H7 D (.lst (acc ++ [y]))) else Nx1 H6)
      else Pv (i + 1) H3) (fin : ∀ H, Pv n H → Qd H) :
    ∃ W : Nat → Nat → Hp → Prop, (∃ m, W 0 m (upd H1 D (.lst []))) ∧ ∀ i m H, W i m H →
      (J.stop i H ∧ Qd H) ∨ (J.go i H ∧ ∃ Nx : Hp → Prop, (∀ H', Nx H' → ∃ m', m' < m ∧ W (i + 1) m' H') ∧ ∀ x H', J.yld i H x H' → g x (wipe σ vs) H' fun σ2 H2 => wipe σ2 vs = wipe σ vs ∧ tt σ2 H2 fun b H3 =>
        if b = true then wi1 σ2 H3 fun J1 H4 => ∃ W1 : Nat → Nat → Hp → Prop, (∃ m, W1 0 m H4) ∧ ∀ j k H, W1 j k H →
          (J1.stop j H ∧ Nx H) ∨ (J1.go j H ∧ ∃ Nx1 : Hp → Prop, (∀ H', Nx1 H' → ∃ k', k' < k ∧ W1 (j + 1) k' H') ∧ ∀ x H', J1.yld j H x H' → g1 x (wipe σ2 vs1) H' fun σ3 H5 => wipe σ3 vs1 = wipe σ2 vs1 ∧ tt1 σ3 H5 fun b H6 =>
            if b = true then te σ3 H6 fun y H7 => ∃ acc, H7 D = some (.lst acc) ∧ acc.length < sizeLine ∧ Nx1 (upd H7 D (.lst (acc ++ [y]))) else Nx1 H6)
        else Nx H3) := by
  refine ⟨fun i m H => m = n - i ∧ i ≤ n ∧ Pv i H, ⟨n, rfl, Nat.zero_le _, begin0⟩, fun i m H ⟨em, hi, p⟩ => ?_⟩
  subst em
  by_cases hlt : i < n
  · exact .inr ⟨w.goes i H hlt (hG i H hi p), Pv (i + 1), fun H' p' => ⟨n - (i + 1), by omega, rfl, hlt, p'⟩, fun x H' y => turn i x H H' hlt p (w.yields i H x H' hlt (hG i H hi p) y)⟩
  · have e : i = n := by omega
    subst e
    exact .inl ⟨w.stops H (hG i H hi p), fin H p⟩
/-- cells of rows and columns -/
def within (w : Int) (rs cs : List Int) : List Int := rs.flatMap fun r => cs.map fun c => r * w + c
theorem within_len (w : Int) (cs : List Int) : ∀ rs : List Int, (within w rs cs).length = rs.length * cs.length
  | [] => by simp [within]
  | r :: rs => by
    have ih := within_len w cs rs
    unfold within at ih ⊢
    rw [List.flatMap_cons, List.length_append, ih, List.length_map, List.length_cons, Nat.succ_mul, Nat.add_comm]
theorem within_take (w : Int) (rs cs : List Int) {i : Nat} {r : Int} (h : rs[i]? = some r) : within w (rs.take (i + 1)) cs = within w (rs.take i) cs ++ cs.map fun c => r * w + c := by
  unfold within
  rw [List.take_add_one, h, List.flatMap_append]
  simp
def spWithin : Sp := fun vs H Q _ => ∃ (g : V) (h w : Int) (la lb : Addr) (rs cs : List Int), vs = [g, .ref la, .ref lb] ∧ GrH H g h w ∧ H la = some (.lst (rs.map V.int)) ∧ H lb = some (.lst (cs.map V.int)) ∧ rs.length ≤ 16 ∧ cs.length ≤ 16 ∧ ∀ v H', Same H H' → IH H' v (within w rs cs) → Q v H'
section
variable {P : Program} {w : World} {K : PySem.W.Frag} {mg : Str → Option Value} {base : Heap} {f f1 f2 f3 : Addr} {fd fd1 fd2 fd3 : FuncData}
theorem ok_allCells (B : Bl mg) (D : Df K mg "_all_cells" sAllCells ["grid"] f fd) : FnOk P w K mg base CX0 1 f fd ["grid"] spAllCells := by
  refine D.F.ok scAllCells (fun vs H Q E h => ?_) (fun cdv A outer s H vs Q E hr h => ?_)
  · obtain ⟨g, h, w, rfl, _⟩ := h
    rfl
  · obtain ⟨g, h, w, rfl, hg, k⟩ := h
    refine ⟨_, pss_one (ps_ret (pe_tupRg rfl (by rfl) B.tuple (prg_1 (by rfl) B.range (pe_op op_mul (pe_ix ix_tup (pv 0) pe_int (fun _ _ => rfl)) (pe_ix ix_tup (pv 0) pe_int (fun _ _ => rfl)))))), ?_⟩
    have le := hg.le
    obtain ⟨⟨a, rfl, ha⟩, h1, w1, hw⟩ := hg
    have n0 : 0 ≤ h * w := Int.mul_nonneg (by omega) (by omega)
    refine ⟨_, rfl, a, _, 0, _, rfl, rfl, sqt ha, rfl, _, rfl, a, _, 1, _, rfl, rfl, sqt ha, rfl, _, _, rfl, rfl, .inr ⟨by omega, by omega⟩, _, rfl, RgOk.of_le (by omega) (by omega) (by omega) (by omega), fun T hT => ?_⟩
    refine k _ _ (same_new hT) ⟨T, rfl, ?_⟩
    rw [upd_same]
    have e : h * w = (((h * w).toNat : Nat) : Int) := (Int.toNat_of_nonneg n0).symm
    unfold allC
    rw [← rgV_nI, ← e]
theorem ok_within (B : Bl mg) (D : Df K mg "_cells_within" sCellsWithin ["grid", "rows", "columns"] f fd) (D1 : Df K mg "cell_at" sCellAt ["grid", "r", "c"] f1 fd1) (G1 : FnOk P w K mg base CX0 1 f1 fd1 ["grid", "r", "c"] spCellAt) : FnOk P w K mg base CX0 2 f fd ["grid", "rows", "columns"] spWithin := by
  refine D.F.ok scCellsWithin (fun vs H Q E h => ?_) (fun cdv A outer s H vs Q E hr h => ?_)
  · obtain ⟨g, h, w, la, lb, rs, cs, rfl, _⟩ := h
    rfl
  · obtain ⟨g, h, w, la, lb, rs, cs, rfl, hg, hla, hlb, r16, c16, k⟩ := h
    refine ⟨_, pss_one (ps_ret (pe_callTy (tupleOf K) (by rfl) B.tuple PyProof.Rows.boot_tuple (pa_cons (pe_lc2 (own := [("r", 3), ("c", 4)]) (vs1 := [4]) rfl scCellsWithin.nd (pi_list (pv 1)) (blkOk_by (N := ["grid", "rows", "columns", "r", "c"]) (sc := defScope sCellsWithin) (by decide +kernel)) (by decide)
      (fun _ _ _ _ _ => pg_name (i := 3) scCellsWithin.nd rfl (by first | exact .inl rfl | exact .inr rfl)) (fun _ _ _ _ _ => pts_nil) (fun _ _ _ _ _ => piL K (pv 2)) (fun _ _ _ _ _ => pg_name (i := 4) scCellsWithin.nd rfl (by first | exact .inl rfl | exact .inr rfl)) (fun _ _ _ _ _ => pts_nil)
      (fun _ _ _ _ _ => pe_call G1 (hr.mono (by decide)) (by rfl) D1.g D1.F.kp D1.b .nil pass0 (pa_cons (pv 0) (pa_cons (pv 3) (pa_cons (pv 4) pa_nil))))) pa_nil))), ?_⟩
    refine ⟨_, rfl, la, rfl, ⟨_, sql hla⟩, fun L hL => ?_⟩
    have sm : ∀ {B : Hp}, (∀ b o, b ≠ L → H b = some o → B b = some o) → Same H B := fun kp b o e => kp b o (fun z => by rw [z, hL] at e; cases e) e
    refine lc2_it (walk_list (xs := rs.map V.int)) (fun i H' => H' L = some (.lst ((within w (rs.take i) cs).map V.int)) ∧ ∀ b o, b ≠ L → H b = some o → H' b = some o) ⟨upd_same, fun b o hb e => by rw [upd_ne hb]; exact e⟩ (fun i H' _ h => ?_) (fun i x H' H'' hi h y => ?_) (fun H' h => ?_)
    · exact sql (sm h.2 _ _ hla)
    · obtain ⟨rfl, hx⟩ := y
      obtain ⟨r, hrr, rfl⟩ := at_ints hx
      obtain ⟨hA, kp⟩ := h
      refine ⟨rfl, _, rfl, lb, rfl, ⟨_, sql (sm kp _ _ hlb)⟩, ?_⟩
      refine inner_it (walk_list (xs := cs.map V.int)) (fun j H3 => H3 L = some (.lst ((within w (rs.take i) cs ++ (cs.take j).map fun c => r * w + c).map V.int)) ∧ ∀ b o, b ≠ L → H b = some o → H3 b = some o) ⟨by rw [List.take_zero, List.map_nil, List.append_nil]; exact hA, kp⟩ (fun j H3 _ h => ?_) (fun j x H3 H4 hj h y => ?_) (fun H3 h => ?_)
      · exact sql (sm h.2 _ _ hlb)
      · obtain ⟨rfl, hx⟩ := y
        obtain ⟨c, hc, rfl⟩ := at_ints hx
        obtain ⟨hA3, kp3⟩ := h
        have l1 := within_len w cs (rs.take i)
        have rt : (rs.take i).length ≤ 16 := by rw [List.length_take]; omega
        have b1 : (rs.take i).length * cs.length ≤ 16 * 16 := Nat.mul_le_mul rt c16
        refine ⟨rfl, _, rfl, _, rfl, _, rfl, g, h, w, r, c, rfl, hg.kt (kt_same (sm kp3)), _, hA3, ?_, ?_, fun b o hb e => ?_⟩
        · have l2 : (cs.take j).length ≤ cs.length := by rw [List.length_take]; exact Nat.min_le_right _ _
          rw [List.length_map, List.length_append, l1, List.length_map, sizeLine_eq]
          omega
        · have e : within w (rs.take i) cs ++ (cs.take (j + 1)).map (fun c => r * w + c) = (within w (rs.take i) cs ++ (cs.take j).map fun c => r * w + c) ++ [r * w + c] := by
            rw [List.take_add_one, hc, List.map_append, List.append_assoc]
            rfl
          rw [upd_same, e]
          simp only [List.map_append, List.map_cons, List.map_nil]
        · rw [upd_ne hb]
          exact kp3 b o hb e
      · obtain ⟨hA3, kp3⟩ := h
        rw [List.length_map, List.take_length, ← within_take w rs cs hrr] at hA3
        exact ⟨hA3, kp3⟩
    · obtain ⟨hA, kp⟩ := h
      rw [List.length_map, List.take_length] at hA
      refine ⟨L, _, rfl, .inl ⟨sql hA, fun T hT => ?_⟩⟩
      exact k _ _ (Same.tr (sm kp) (same_new hT)) ⟨T, rfl, upd_same⟩
theorem ok_gaps (D : Df K mg "_gaps" sGaps ["grid", "one", "other"] f fd) (habs : mg "abs" = none) (D1 : Df K mg "place_of" sPlaceOf ["grid", "cell"] f1 fd1) (G1 : FnOk P w K mg base CX0 1 f1 fd1 ["grid", "cell"] spPlaceOf) : FnOk P w K mg base CX0 2 f fd ["grid", "one", "other"] spGaps := by
  refine D.F.ok scGaps (fun vs H Q E h => ?_) (fun cdv A outer s H vs Q E hr h => ?_)
  · obtain ⟨g, h, w, i, j, rfl, _⟩ := h
    rfl
  · obtain ⟨g, h, w, i, j, rfl, hg, k⟩ := h
    refine ⟨_, pss_cons (ps_asg (pe_call G1 (hr.mono (by decide)) (by rfl) D1.g D1.F.kp D1.b .nil pass0 (pa_cons (pv 0) (pa_cons (pv 1) pa_nil))) (pg_tupK K (n := 2) rfl (pgs_cons (pg_name (i := 3) scGaps.nd rfl (.inl rfl)) (pgs_cons (pg_name (i := 4) scGaps.nd rfl (.inl rfl)) pgs_nil))))
      (pss_cons (ps_asg (pe_call G1 (hr.mono (by decide)) (by rfl) D1.g D1.F.kp D1.b .nil pass0 (pa_cons (pv 0) (pa_cons (pv 2) pa_nil))) (pg_tupK K (n := 2) rfl (pgs_cons (pg_name (i := 5) scGaps.nd rfl (.inl rfl)) (pgs_cons (pg_name (i := 6) scGaps.nd rfl (.inl rfl)) pgs_nil))))
      (pss_one (ps_ret (pe_tup (pa_cons (pe_callB call_abs (by rfl) habs PyProof.Rows.boot_abs (pa_cons (pe_op op_sub (pv 3) (pv 5)) pa_nil)) (pa_cons (pe_callB call_abs (by rfl) habs PyProof.Rows.boot_abs (pa_cons (pe_op op_sub (pv 4) (pv 6)) pa_nil)) pa_nil)))))), ?_⟩
    refine ⟨_, rfl, _, rfl, g, h, w, i, rfl, hg, fun v1 H1 s1 ⟨a1, e1, q1⟩ => ?_⟩
    subst e1
    refine ⟨a1, _, rfl, sqt q1, rfl, _, _, rfl, _, _, rfl, rfl, ?_⟩
    refine ⟨_, rfl, _, rfl, g, h, w, j, rfl, hg.kt (kt_same s1), fun v2 H2 s2 ⟨a2, e2, q2⟩ => ?_⟩
    subst e2
    refine ⟨a2, _, rfl, sqt q2, rfl, _, _, rfl, _, _, rfl, rfl, ?_⟩
    refine ⟨_, rfl, _, rfl, _, _, rfl, rfl, _, rfl, _, rfl, _, rfl, _, _, rfl, rfl, _, rfl, (show 2 ≤ sizeLine by decide), fun T hT => ?_⟩
    have ab : ∀ x : Int, (if x < 0 then -x else x) = ((x.natAbs : Nat) : Int) := fun x => by split <;> omega
    refine k _ _ (Same.tr s1 (Same.tr s2 (same_new hT))) ⟨T, rfl, ?_⟩
    rw [upd_same, ab, ab]
    rfl
end
end G9

set_option Elab.async false
set_option linter.all false
set_option maxRecDepth 100000
set_option maxHeartbeats 8000000
/-! boxes, ties, cells about, lots of rows and columns, domains -/
namespace G9
open PySem PySem.Spec PyProof.Rows L2 GX
def boxCorners (h w t d : Int) : List (List Int) := (List.range (h / t).toNat).flatMap fun i => (List.range (w / d).toNat).map fun j => [((i : Nat) : Int) * t, ((j : Nat) : Int) * d]
def fromTo (a n : Int) : List Int := (List.range n.toNat).map fun i => a + ((i : Nat) : Int)
def boxOf (w t d : Int) (c : List Int) : List Int := within w (fromTo (c.getD 0 0) t) (fromTo (c.getD 1 0) d)
def boxesL (h w t d : Int) : List (List Int) := (boxCorners h w t d).map (boxOf w t d)
def gapD (w i j : Int) : Int := ((i / w - j / w).natAbs : Int)
def gapO (w i j : Int) : Int := ((i % w - j % w).natAbs : Int)
def tiesL (h w : Int) : List (List Int) := (allC h w).flatMap fun i => ((allC h w).filter fun j => decide (i < j) && decide (gapD w i j + gapO w i j = 1)).map fun j => [i, j]
def aboutL (h w c : Int) : List Int := (allC h w).filter fun j => decide (max (gapD w c j) (gapO w c j) = 1)
def rowLots (h w : Int) : List (List Int) := (List.range h.toNat).map fun r => rowC w ((r : Nat) : Int)
def colLots (h w : Int) : List (List Int) := (List.range w.toNat).map fun c => colC h w ((c : Nat) : Int)
def spBoxLots : Sp := fun vs H Q _ => ∃ g h w t d, vs = [g, .int t, .int d] ∧ GrH H g h w ∧ 1 ≤ t ∧ t ∣ h ∧ 1 ≤ d ∧ d ∣ w ∧ ∀ v H', Same H H' → RowsH H' v (boxesL h w t d) → Q v H'
def spSideTies : Sp := fun vs H Q _ => ∃ g h w, vs = [g] ∧ GrH H g h w ∧ ∀ v H', Same H H' → RowsH H' v (tiesL h w) → Q v H'
def spAbout : Sp := fun vs H Q _ => ∃ g h w c, vs = [g, .int c] ∧ GrH H g h w ∧ ∀ v H', Same H H' → IH H' v (aboutL h w c) → Q v H'
def spRowLots : Sp := fun vs H Q _ => ∃ g h w, vs = [g] ∧ GrH H g h w ∧ ∀ l H', Same H H' → LRows H' (.ref l) (rowLots h w) → Q (.ref l) H'
def spColLots : Sp := fun vs H Q _ => ∃ g h w, vs = [g] ∧ GrH H g h w ∧ ∀ l H', Same H H' → LRows H' (.ref l) (colLots h w) → Q (.ref l) H'
def spDoms : Sp := fun vs H Q _ => ∃ g h w lo hi, vs = [g, .int lo, .int hi] ∧ GrH H g h w ∧ 0 ≤ lo ∧ lo ≤ 100 ∧ 0 ≤ hi ∧ hi ≤ 100 ∧ ∀ v H', Same H H' → RowsH H' v (List.replicate (h * w).toNat (fromTo lo (hi + 1 - lo))) → Q v H'
theorem rg_c {h t : Int} (h1 : 1 ≤ h) (h16 : h ≤ 16) (t1 : 1 ≤ t) (dv : t ∣ h) : RgC 0 h t (h / t).toNat := by
  obtain ⟨k, rfl⟩ := dv
  have k1 : 1 ≤ k := by
    rcases Int.lt_or_le k 1 with z | z
    · have : t * k ≤ t * 0 := Int.mul_le_mul_of_nonneg_left (by omega) (by omega)
      omega
    · exact z
  have tk : t * 1 ≤ t * k := Int.mul_le_mul_of_nonneg_left k1 (by omega)
  have kt : 1 * k ≤ t * k := Int.mul_le_mul_of_nonneg_right t1 (by omega)
  have e : t * k / t = k := Int.mul_ediv_cancel_left k (by omega)
  have e2 : (t * k - 0 - 1) / t + 1 = k := by
    have : t * k - 0 - 1 = t * (k - 1) + (t - 1) := by rw [Int.mul_sub]; omega
    rw [this, Int.mul_add_ediv_left _ _ (by omega), Int.ediv_eq_zero_of_lt (by omega) (by omega)]
    omega
  rw [e]
  have sz : Builtin.Range.rangeSize 0 (t * k) t = k := by
    unfold Builtin.Range.rangeSize
    rw [if_pos (by omega), if_pos (by omega)]
    exact e2
  refine ⟨by omega, by omega, ?_, by rw [sz]; omega⟩
  unfold Builtin.Range.small
  rw [sz, if_pos (by omega)]
  have fit : ∀ x : Int, 0 ≤ x → x ≤ 100 → Builtin.Range.rangeFitsLong x = true := fun x a b => by
    unfold Builtin.Range.rangeFitsLong
    simp
    omega
  rw [fit 0 (by omega) (by omega), fit (t * k) (by omega) (by omega), fit t (by omega) (by omega), fit k (by omega) (by omega), fit (t * k + (t - 1)) (by omega) (by omega)]
  simp
/-- [x for x in xs if ..] over whole numbers -/
theorem lc_filtI {J : It} {n i : Nat} {G : Hp → Prop} {σ : L2.St} {own : List Nat} {tt : TT} {H1 : Hp} {L : Addr} {Qd : Hp → Prop} {xs : List Int} {Pred : Int → Bool} (w : Walk J n G (YAt (xs.map V.int))) (hL : H1 L = none) (hn : n = xs.length) (hG : ∀ H', Same H1 H' → G H') (hl : xs.length ≤ 100000)
    (k : ∀ H3 : Hp, Same H1 H3 → H3 L = some (.lst ((xs.filter Pred).map V.int)) → Qd H3)
    (hw : ∀ x : V, wipe ((wipe σ own).set i (some x)) own = wipe σ own) (hv : ∀ x : V, ((wipe σ own).set i (some x))[i]? = some (some x))
    (ht : ∀ (m : Nat) (x : Int) (H3 : Hp) (C : Bool → Hp → Prop), xs[m]? = some x → Same H1 H3 → (∀ H4, Same H3 H4 → C (Pred x) H4) → tt ((wipe σ own).set i (some (.int x))) H3 C) :
    LcB J (gName i) tt (tVar i) own σ H1 L Qd := by
  have smN : ∀ {B : Hp}, (∀ b o, b ≠ L → H1 b = some o → B b = some o) → Same H1 B := fun hA b o e => hA b o (fun z => by rw [z, hL] at e; cases e) e
  refine lc_it w (fun m H3 => H3 L = some (.lst (((xs.take m).filter Pred).map V.int)) ∧ ∀ b o, b ≠ L → H1 b = some o → H3 b = some o) ⟨upd_same, fun b o hb e => by rw [upd_ne hb]; exact e⟩ (fun m H3 _ h => ?_) (fun m x H3 H4 hm h y => ?_) (fun H3 h => ?_)
  · exact hG _ (smN h.2)
  · obtain ⟨rfl, hx⟩ := y
    obtain ⟨hA, kp⟩ := h
    have s4 := smN kp
    obtain ⟨v, hv2, rfl⟩ := at_ints hx
    have tk : xs.take (m + 1) = xs.take m ++ [v] := by rw [List.take_add_one, hv2]; rfl
    refine ⟨hw _, ht m v H4 _ hv2 s4 fun H5 s5 => ?_⟩
    have hA5 := s5 _ _ hA
    have al : ((xs.take m).filter Pred).length ≤ xs.length := Nat.le_trans (List.length_filter_le _ _) (by rw [List.length_take]; exact Nat.min_le_right _ _)
    by_cases h : Pred v = true
    · rw [if_pos h]
      refine ⟨_, hv _, _, hA5, by rw [List.length_map, sizeLine_eq]; omega, ?_, fun b o hb e => ?_⟩
      · rw [upd_same, tk, List.filter_append]
        have : [v].filter Pred = [v] := by simp [h]
        rw [this, List.map_append]
        rfl
      · rw [upd_ne hb]
        exact s5 _ _ (kp b o hb e)
    · have h' : Pred v = false := by simpa using h
      rw [if_neg h]
      refine ⟨?_, fun b o hb e => s5 _ _ (kp b o hb e)⟩
      rw [hA5, tk, List.filter_append]
      have : [v].filter Pred = [] := by simp [h']
      rw [this, List.append_nil]
  · obtain ⟨hA, kp⟩ := h
    rw [hn, List.take_length] at hA
    exact k H3 (smN kp) hA
theorem allC_len {h w : Int} (hw : h * w ≤ 16) : (allC h w).length ≤ 16 := by
  unfold allC nI
  rw [List.length_map, List.length_range]
  omega
theorem fromTo_rg (a b : Int) : rgV a b = (fromTo a (b - a)).map V.int := by
  unfold rgV fromTo
  rw [List.map_map]
  rfl
section
variable {P : Program} {w : World} {K : PySem.W.Frag} {mg : Str → Option Value} {base : Heap} {f f1 f2 f3 : Addr} {fd fd1 fd2 fd3 : FuncData}
theorem ok_rowLots (B : Bl mg) (D : Df K mg "_row_lots" sRowLots ["grid"] f fd) (D1 : Df K mg "row_cells" sRowCells ["grid", "r"] f1 fd1) (G1 : FnOk P w K mg base CX0 2 f1 fd1 ["grid", "r"] spRowCells) : FnOk P w K mg base CX0 3 f fd ["grid"] spRowLots := by
  refine D.F.ok scRowLots (fun vs H Q E h => ?_) (fun cdv A outer s H vs Q E hr h => ?_)
  · obtain ⟨g, h, w, rfl, _⟩ := h
    rfl
  · obtain ⟨g, h, w, rfl, hg, k⟩ := h
    refine ⟨_, pss_one (ps_ret (pe_lc (own := [("r", 1)]) rfl scRowLots.nd (pi_range1 (by rfl) B.range (pa_cons (pe_ix ix_tup (pv 0) pe_int (fun _ _ => rfl)) pa_nil)) (blkOk_by (N := ["grid", "r"]) (sc := defScope sRowLots) (by decide +kernel))
      (fun _ _ _ _ _ => pg_name (i := 1) scRowLots.nd rfl (by first | exact .inl rfl | exact .inr rfl)) (fun _ _ _ _ _ => pts_nil) (fun _ _ _ _ _ => pe_call G1 (hr.mono (by decide)) (by rfl) D1.g D1.F.kp D1.b .nil pass0 (pa_cons (pv 0) (pa_cons (pv 1) pa_nil))))), ?_⟩
    have le := hg.le
    obtain ⟨⟨a, rfl, ha⟩, h1, w1, hw⟩ := id hg
    refine ⟨_, rfl, a, _, 0, _, rfl, rfl, sqt ha, rfl, _, rfl, by omega, by omega, fun L hL => ?_⟩
    refine lc_mapR (walk_range (lo := 0) (n := h.toNat)) hL (fun r => rowC w ((r : Nat) : Int)) (fun _ _ => trivial) (by omega) (fun i x H' H'' hi s y C kk => ?_) (fun H' ys s hA pA => ?_)
    · obtain ⟨rfl, rfl⟩ := y
      refine ⟨rfl, _, rfl, _, rfl, .ref a, h, w, _, rfl, hg.kt (kt_same s), fun v H4 s4 i4 => kk v H4 s4 ?_⟩
      rw [Int.zero_add] at i4
      exact i4
    · exact k _ _ s ⟨L, ys, rfl, hA, pA⟩
theorem ok_colLots (B : Bl mg) (D : Df K mg "_column_lots" sColumnLots ["grid"] f fd) (D1 : Df K mg "column_cells" sColumnCells ["grid", "c"] f1 fd1) (G1 : FnOk P w K mg base CX0 2 f1 fd1 ["grid", "c"] spColCells) : FnOk P w K mg base CX0 3 f fd ["grid"] spColLots := by
  refine D.F.ok scColumnLots (fun vs H Q E h => ?_) (fun cdv A outer s H vs Q E hr h => ?_)
  · obtain ⟨g, h, w, rfl, _⟩ := h
    rfl
  · obtain ⟨g, h, w, rfl, hg, k⟩ := h
    refine ⟨_, pss_one (ps_ret (pe_lc (own := [("c", 1)]) rfl scColumnLots.nd (pi_range1 (by rfl) B.range (pa_cons (pe_ix ix_tup (pv 0) pe_int (fun _ _ => rfl)) pa_nil)) (blkOk_by (N := ["grid", "c"]) (sc := defScope sColumnLots) (by decide +kernel))
      (fun _ _ _ _ _ => pg_name (i := 1) scColumnLots.nd rfl (by first | exact .inl rfl | exact .inr rfl)) (fun _ _ _ _ _ => pts_nil) (fun _ _ _ _ _ => pe_call G1 (hr.mono (by decide)) (by rfl) D1.g D1.F.kp D1.b .nil pass0 (pa_cons (pv 0) (pa_cons (pv 1) pa_nil))))), ?_⟩
    have le := hg.le
    obtain ⟨⟨a, rfl, ha⟩, h1, w1, hw⟩ := id hg
    refine ⟨_, rfl, a, _, 1, _, rfl, rfl, sqt ha, rfl, _, rfl, by omega, by omega, fun L hL => ?_⟩
    refine lc_mapR (walk_range (lo := 0) (n := w.toNat)) hL (fun c => colC h w ((c : Nat) : Int)) (fun _ _ => trivial) (by omega) (fun i x H' H'' hi s y C kk => ?_) (fun H' ys s hA pA => ?_)
    · obtain ⟨rfl, rfl⟩ := y
      refine ⟨rfl, _, rfl, _, rfl, .ref a, h, w, _, rfl, hg.kt (kt_same s), fun v H4 s4 i4 => kk v H4 s4 ?_⟩
      rw [Int.zero_add] at i4
      exact i4
    · exact k _ _ s ⟨L, ys, rfl, hA, pA⟩
theorem ok_doms (B : Bl mg) (D : Df K mg "_same_domains" sSameDomains ["grid", "low", "high"] f fd) (D1 : Df K mg "_all_cells" sAllCells ["grid"] f1 fd1) (G1 : FnOk P w K mg base CX0 1 f1 fd1 ["grid"] spAllCells) : FnOk P w K mg base CX0 2 f fd ["grid", "low", "high"] spDoms := by
  refine D.F.ok scSameDomains (fun vs H Q E h => ?_) (fun cdv A outer s H vs Q E hr h => ?_)
  · obtain ⟨g, h, w, lo, hi, rfl, _⟩ := h
    rfl
  · obtain ⟨g, h, w, lo, hi, rfl, hg, lo0, lo1, hi0, hi1, k⟩ := h
    refine ⟨_, pss_one (ps_ret (pe_callTy (tupleOf K) (by rfl) B.tuple PyProof.Rows.boot_tuple (pa_cons (pe_lc (own := [("_", 3)]) rfl scSameDomains.nd (pi_tup (pe_call G1 (hr.mono (by decide)) (by rfl) D1.g D1.F.kp D1.b .nil pass0 (pa_cons (pv 0) pa_nil))) (blkOk_by (N := ["grid", "low", "high", "_"]) (sc := defScope sSameDomains) (by decide +kernel))
      (fun _ _ _ _ _ => pg_name (i := 3) scSameDomains.nd rfl (by first | exact .inl rfl | exact .inr rfl)) (fun _ _ _ _ _ => pts_nil) (fun _ _ _ _ _ => pe_tupRg rfl (by rfl) B.tuple (prg_2 (by rfl) B.range (pv 1) (pe_op op_add (pv 2) pe_int)))) pa_nil))), ?_⟩
    have le := hg.le
    obtain ⟨_, h1, w1, hw⟩ := id hg
    refine ⟨_, rfl, g, h, w, rfl, hg, fun v1 H1 s1 ⟨a1, e1, q1⟩ => ?_⟩
    subst e1
    have al := allC_len hw
    refine ⟨a1, rfl, ⟨_, sqt q1⟩, fun L hL => ?_⟩
    refine lc_mapR (walk_tup (xs := (allC h w).map V.int)) hL (fun _ => fromTo lo (hi + 1 - lo)) (fun H' s => sqt (s _ _ q1)) (by rw [List.length_map]; omega) (fun i x H' H'' hi2 s y C kk => ?_) (fun H' ys s hA pA => ?_)
    · obtain ⟨rfl, _⟩ := y
      refine ⟨rfl, _, rfl, _, rfl, _, _, rfl, rfl, _, _, rfl, rfl, RgOk.of_le (by omega) (by omega) (by omega) (by omega), fun T hT => ?_⟩
      refine kk _ _ (same_new hT) ⟨T, rfl, ?_⟩
      rw [upd_same, fromTo_rg]
    · refine ⟨L, _, rfl, .inl ⟨sql hA, fun T hT => ?_⟩⟩
      have sT := same_new (o := .tup ys) hT
      refine k _ _ (Same.tr s1 (Same.tr s sT)) ⟨T, ys, rfl, upd_same, ?_⟩
      have e : (List.range ((allC h w).map V.int).length).map (fun _ => fromTo lo (hi + 1 - lo)) = List.replicate (h * w).toNat (fromTo lo (hi + 1 - lo)) := by
        rw [List.map_const', List.length_range, List.length_map]
        unfold allC nI
        rw [List.length_map, List.length_range]
      rw [← e]
      exact paired_mono (fun _ _ z => IH.kt (kt_same sT) z) pA
theorem ok_about (B : Bl mg) (D : Df K mg "cells_about" sCellsAbout ["grid", "cell"] f fd) (D1 : Df K mg "_all_cells" sAllCells ["grid"] f1 fd1) (G1 : FnOk P w K mg base CX0 1 f1 fd1 ["grid"] spAllCells) (D2 : Df K mg "_gaps" sGaps ["grid", "one", "other"] f2 fd2) (G2 : FnOk P w K mg base CX0 2 f2 fd2 ["grid", "one", "other"] spGaps) : FnOk P w K mg base CX0 3 f fd ["grid", "cell"] spAbout := by
  refine D.F.ok scCellsAbout (fun vs H Q E h => ?_) (fun cdv A outer s H vs Q E hr h => ?_)
  · obtain ⟨g, h, w, c, rfl, _⟩ := h
    rfl
  · obtain ⟨g, h, w, c, rfl, hg, k⟩ := h
    refine ⟨_, pss_one (ps_ret (pe_callTy (tupleOf K) (by rfl) B.tuple PyProof.Rows.boot_tuple (pa_cons (pe_lc (own := [("other", 2)]) rfl scCellsAbout.nd (pi_tup (pe_call G1 (hr.mono (by decide)) (by rfl) D1.g D1.F.kp D1.b .nil pass0 (pa_cons (pv 0) pa_nil))) (blkOk_by (N := ["grid", "cell", "other"]) (sc := defScope sCellsAbout) (by decide +kernel))
      (fun _ _ _ _ _ => pg_name (i := 2) scCellsAbout.nd rfl (by first | exact .inl rfl | exact .inr rfl)) (fun _ _ _ _ _ => pts_one (pt_cmpR op_eq (pe_callB (maxK K rfl) (by rfl) B.max PyProof.Rows.boot_max (pa_cons (pe_call G2 (hr.mono (by decide)) (by rfl) D2.g D2.F.kp D2.b .nil pass0 (pa_cons (pv 0) (pa_cons (pv 1) (pa_cons (pv 2) pa_nil)))) pa_nil)) pe_int (nomark _)))
      (fun _ _ _ _ _ => pv 2)) pa_nil))), ?_⟩
    have le := hg.le
    obtain ⟨_, h1, w1, hw⟩ := id hg
    refine ⟨_, rfl, g, h, w, rfl, hg, fun v1 H1 s1 ⟨a1, e1, q1⟩ => ?_⟩
    subst e1
    have al := allC_len hw
    refine ⟨a1, rfl, ⟨_, sqt q1⟩, fun L hL => ?_⟩
    refine lc_filtI (i := 2) (Pred := fun j => decide (max (gapD w c j) (gapO w c j) = 1)) (walk_tup (xs := (allC h w).map V.int)) hL (by rw [List.length_map]) (fun H' s => sqt (s _ _ q1)) (by omega) (fun H3 s hA => ?_) (fun _ => rfl) (fun _ => rfl) (fun m x H3 C hx s kk => ?_)
    · refine ⟨L, _, rfl, .inl ⟨sql hA, fun T hT => ?_⟩⟩
      exact k _ _ (Same.tr s1 (Same.tr s (same_new hT))) ⟨T, rfl, upd_same⟩
    · refine ⟨_, rfl, _, rfl, _, rfl, g, h, w, c, x, rfl, hg.kt (kt_same (Same.tr s1 s)), fun v4 H4 s4 ⟨a4, e4, q4⟩ => ?_⟩
      subst e4
      refine ⟨a4, _, rfl, sqt q4, (show 0 < 2 by decide), fun mx hm hle => ⟨rfl, _, rfl, ?_⟩⟩
      have e : mx = max (gapD w c x) (gapO w c x) := by
        have l1 := hle (gapD w c x) (List.mem_cons_self ..)
        have l2 := hle (gapO w c x) (List.mem_cons_of_mem _ (List.mem_cons_self ..))
        rcases List.mem_cons.mp hm with z | z
        · have z : mx = gapD w c x := z
          omega
        · have z : mx = gapO w c x := List.mem_singleton.mp z
          omega
      have d : decide (V.int mx = V.int 1) = decide (max (gapD w c x) (gapO w c x) = 1) := by
        rw [e]
        by_cases g1 : max (gapD w c x) (gapO w c x) = 1
        · rw [decide_eq_true g1, g1]
          exact decide_eq_true rfl
        · rw [decide_eq_false g1]
          exact decide_eq_false fun z => g1 (V.int.inj z)
      rw [d]
      exact kk H4 s4
end
end G9

set_option Elab.async false
set_option linter.all false
set_option maxRecDepth 100000
set_option maxHeartbeats 8000000
/-! side_ties, box_lots -/
namespace G9
open PySem PySem.Spec PyProof.Rows L2 GX
theorem flat_take {α β : Type} (f : α → List β) {xs : List α} {i : Nat} {x : α} (h : xs[i]? = some x) : (xs.take (i + 1)).flatMap f = (xs.take i).flatMap f ++ f x := by
  rw [List.take_add_one, h, List.flatMap_append]
  simp
theorem flat_len {α β : Type} (f : α → List β) {b : Nat} : ∀ {xs : List α}, (∀ x ∈ xs, (f x).length ≤ b) → (xs.flatMap f).length ≤ xs.length * b
  | [], _ => by simp
  | x :: xs, h => by
    have ih := flat_len f (xs := xs) fun y hy => h y (List.mem_cons_of_mem _ hy)
    have := h x (List.mem_cons_self ..)
    rw [List.flatMap_cons, List.length_append, List.length_cons, Nat.succ_mul]
    omega
theorem sumTK (K : PySem.W.Frag) {X : Cx} (hc : X.calm = true) (h : X.K = K := by rfl) : CallR X (.builtin "sum") (fun vs H Q => ∃ (a : Addr) (ns : List Int), vs = [V.ref a] ∧ SqT K H a (ns.map V.int) ∧ Q (.int ns.sum) H) := h ▸ cr_sumT hc
section
variable {P : Program} {w : World} {K : PySem.W.Frag} {mg : Str → Option Value} {base : Heap} {f f1 f2 f3 : Addr} {fd fd1 fd2 fd3 : FuncData}
theorem ok_sideTies (B : Bl mg) (D : Df K mg "side_ties" sSideTies ["grid"] f fd) (D1 : Df K mg "_all_cells" sAllCells ["grid"] f1 fd1) (G1 : FnOk P w K mg base CX0 1 f1 fd1 ["grid"] spAllCells) (D2 : Df K mg "_gaps" sGaps ["grid", "one", "other"] f2 fd2) (G2 : FnOk P w K mg base CX0 2 f2 fd2 ["grid", "one", "other"] spGaps) : FnOk P w K mg base CX0 3 f fd ["grid"] spSideTies := by
  refine D.F.ok scSideTies (fun vs H Q E h => ?_) (fun cdv A outer s H vs Q E hr h => ?_)
  · obtain ⟨g, h, w, rfl, _⟩ := h
    rfl
  · obtain ⟨g, h, w, rfl, hg, k⟩ := h
    refine ⟨_, pss_cons (ps_set (i := 1) scSideTies.nd rfl (by first | exact .inl rfl | exact .inr rfl) (pe_call G1 (hr.mono (by decide)) (by rfl) D1.g D1.F.kp D1.b .nil pass0 (pa_cons (pv 0) pa_nil)))
      (pss_one (ps_ret (pe_callTy (tupleOf K) (by rfl) B.tuple PyProof.Rows.boot_tuple (pa_cons (pe_lc2 (own := [("i", 2), ("j", 3)]) (vs1 := [3]) rfl scSideTies.nd (pi_tup (pv 1)) (blkOk_by (N := ["grid", "cells", "i", "j"]) (sc := defScope sSideTies) (by decide +kernel)) (by decide)
      (fun _ _ _ _ _ => pg_name (i := 2) scSideTies.nd rfl (by first | exact .inl rfl | exact .inr rfl)) (fun _ _ _ _ _ => pts_nil) (fun _ _ _ _ _ => piT K (pv 1)) (fun _ _ _ _ _ => pg_name (i := 3) scSideTies.nd rfl (by first | exact .inl rfl | exact .inr rfl))
      (fun _ _ _ _ _ => pts_one (pw_and (pt_cmpR op_lt (pv 2) (pv 3) (nomark _)) (pw_and1 (pt_cmpR op_eq (pe_callB (sumTK K rfl) (by rfl) B.sum PyProof.Rows.boot_sum (pa_cons (pe_call G2 (hr.mono (by decide)) (by rfl) D2.g D2.F.kp D2.b .nil pass0 (pa_cons (pv 0) (pa_cons (pv 2) (pa_cons (pv 3) pa_nil)))) pa_nil)) pe_int (nomark _)))).pt)
      (fun _ _ _ _ _ => pe_tup (pa_cons (pv 2) (pa_cons (pv 3) pa_nil)))) pa_nil)))), ?_⟩
    have le := hg.le
    obtain ⟨_, h1, w1, hw⟩ := id hg
    refine ⟨_, rfl, g, h, w, rfl, hg, fun v1 H1 s1 ⟨a1, e1, q1⟩ => ?_⟩
    subst e1
    have al := allC_len hw
    have hg1 := hg.kt (kt_same s1)
    unfold tiesL at k
    generalize allC h w = cs at *
    have PD : ∃ Pd : Int → Int → Bool, Pd = fun i j => decide (i < j) && decide (gapD w i j + gapO w i j = 1) := ⟨_, rfl⟩
    obtain ⟨Pd, hPd⟩ := PD
    have k : ∀ (v : V) (H' : Hp), Same H H' → RowsH H' v (cs.flatMap fun i => (cs.filter (Pd i)).map fun j => [i, j]) → Q v H' := by
      rw [hPd]
      exact k
    refine ⟨_, rfl, a1, rfl, ⟨_, sqt q1⟩, fun L hL => ?_⟩
    have sm : ∀ {B : Hp}, (∀ b o, b ≠ L → H1 b = some o → B b = some o) → Same H1 B := fun kp b o e => kp b o (fun z => by rw [z, hL] at e; cases e) e
    refine lc2_it (walk_tup (xs := cs.map V.int)) (fun i H' => ∃ acc, H' L = some (.lst acc) ∧ Paired (IH H') acc ((cs.take i).flatMap fun i => (cs.filter (Pd i)).map fun j => [i, j]) ∧ ∀ b o, b ≠ L → H1 b = some o → H' b = some o) ⟨[], upd_same, .nil, fun b o hb e => by rw [upd_ne hb]; exact e⟩ (fun i H' _ h => ?_) (fun i x H' H'' hi h y => ?_) (fun H' h => ?_)
    · obtain ⟨_, _, _, kp⟩ := h
      exact sqt (sm kp _ _ q1)
    · obtain ⟨rfl, hx⟩ := y
      obtain ⟨ci, hci, rfl⟩ := at_ints hx
      obtain ⟨acc, hA, pA, kp⟩ := h
      refine ⟨rfl, _, rfl, a1, rfl, ⟨_, sqt (sm kp _ _ q1)⟩, ?_⟩
      refine inner_it (walk_tup (xs := cs.map V.int)) (fun j H3 => ∃ acc, H3 L = some (.lst acc) ∧ Paired (IH H3) acc (((cs.take i).flatMap fun i => (cs.filter (Pd i)).map fun j => [i, j]) ++ ((cs.take j).filter (Pd ci)).map fun j => [ci, j]) ∧ ∀ b o, b ≠ L → H1 b = some o → H3 b = some o) ⟨acc, hA, by rw [List.take_zero, List.filter_nil, List.map_nil, List.append_nil]; exact pA, kp⟩ (fun j H3 _ h => ?_) (fun j x H3 H4 hj h y => ?_) (fun H3 h => ?_)
      · obtain ⟨_, _, _, kp⟩ := h
        exact sqt (sm kp _ _ q1)
      · obtain ⟨rfl, hx⟩ := y
        obtain ⟨cj, hcj, rfl⟩ := at_ints hx
        obtain ⟨acc3, hA3, pA3, kp3⟩ := h
        have accl : acc3.length ≤ 272 := by
          rw [pA3.length, List.length_append, List.length_map]
          have l1 := flat_len (b := 16) (fun i => (cs.filter (Pd i)).map fun j => [i, j]) (xs := cs.take i) fun x _ => by
            rw [List.length_map]
            exact Nat.le_trans (List.length_filter_le _ _) al
          have l2 : (cs.take i).length ≤ 16 := by rw [List.length_take]; omega
          have l3 : ((cs.take j).filter (Pd ci)).length ≤ 16 := Nat.le_trans (List.length_filter_le _ _) (by rw [List.length_take]; omega)
          have l4 : (cs.take i).length * 16 ≤ 16 * 16 := Nat.mul_le_mul_right _ l2
          omega
        have tk : cs.take (j + 1) = cs.take j ++ [cj] := by rw [List.take_add_one, hcj]; rfl
        -- what follows
        have no : ∀ {Hx : Hp}, Same H4 Hx → Pd ci cj = false → ∃ acc, Hx L = some (.lst acc) ∧ Paired (IH Hx) acc (((cs.take i).flatMap fun i => (cs.filter (Pd i)).map fun j => [i, j]) ++ ((cs.take (j + 1)).filter (Pd ci)).map fun j => [ci, j]) ∧ ∀ b o, b ≠ L → H1 b = some o → Hx b = some o := fun {Hx} sx g => by
          refine ⟨acc3, sx _ _ hA3, ?_, fun b o hb e => sx _ _ (kp3 b o hb e)⟩
          rw [tk, List.filter_append]
          have : [cj].filter (Pd ci) = [] := by simp [g]
          rw [this, List.append_nil]
          exact paired_mono (fun _ _ z => IH.kt (kt_same sx) z) pA3
        refine ⟨rfl, _, rfl, _, rfl, _, _, rfl, rfl, _, rfl, ?_⟩
        by_cases g1 : ci < cj
        · refine ifT (decide_eq_true g1) ?_
          refine ⟨_, rfl, _, rfl, _, rfl, g, h, w, ci, cj, rfl, hg1.kt (kt_same (sm kp3)), fun v5 H5 s5 ⟨a5, e5, q5⟩ => ?_⟩
          subst e5
          refine ⟨a5, _, rfl, sqt q5, rfl, _, rfl, ?_⟩
          have e : decide (V.int ([((ci / w - cj / w).natAbs : Int), ((ci % w - cj % w).natAbs : Int)].sum) = V.int 1) = Pd ci cj := by
            rw [hPd]
            have es : [((ci / w - cj / w).natAbs : Int), ((ci % w - cj % w).natAbs : Int)].sum = gapD w ci cj + gapO w ci cj := by
              simp [gapD, gapO]
            show _ = (decide (ci < cj) && decide (gapD w ci cj + gapO w ci cj = 1))
            rw [es, decide_eq_true g1, Bool.true_and]
            by_cases g2 : gapD w ci cj + gapO w ci cj = 1
            · rw [decide_eq_true g2, g2]
              exact decide_eq_true rfl
            · rw [decide_eq_false g2]
              exact decide_eq_false fun z => g2 (V.int.inj z)
          rw [e]
          have hA5 := s5 _ _ hA3
          by_cases g2 : Pd ci cj = true
          · refine ifT g2 ⟨_, rfl, _, rfl, (show 2 ≤ sizeLine by decide), fun T hT => ⟨acc3, upd_at hT hA5, by rw [sizeLine_eq]; omega, acc3 ++ [.ref T], upd_same, ?_, fun b o hb e => ?_⟩⟩
            · rw [tk, List.filter_append]
              have : [cj].filter (Pd ci) = [cj] := by simp [g2]
              rw [this, List.map_append, ← List.append_assoc]
              have nT : T ≠ L := (ne_of_none hA5 hT).symm
              refine paired_app (paired_mono (fun _ _ z => IH.kt (ktL (upd_at hT hA5)) (IH.kt (kt_same (Same.tr s5 (same_new hT))) z)) pA3) (paired_one ⟨T, rfl, ?_⟩)
              rw [upd_ne nT, upd_same]
              rfl
            · rw [upd_ne hb]
              exact upd_at hT (s5 _ _ (kp3 b o hb e))
          · have g3 : Pd ci cj = false := by simpa using g2
            exact ifF g3 (no s5 g3)
        · refine ifF (decide_eq_false g1) (no (same_refl H4) ?_)
          rw [hPd]
          show (decide (ci < cj) && _) = false
          rw [decide_eq_false g1, Bool.false_and]
      · obtain ⟨acc3, hA3, pA3, kp3⟩ := h
        rw [List.length_map, List.take_length, ← flat_take (fun i => (cs.filter (Pd i)).map fun j => [i, j]) hci] at pA3
        exact ⟨acc3, hA3, pA3, kp3⟩
    · obtain ⟨acc, hA, pA, kp⟩ := h
      rw [List.length_map, List.take_length] at pA
      refine ⟨L, _, rfl, .inl ⟨sql hA, fun T hT => ?_⟩⟩
      exact k _ _ (Same.tr s1 (Same.tr (sm kp) (same_new hT))) ⟨T, acc, rfl, upd_same, paired_mono (fun _ _ z => IH.kt (kt_same (same_new hT)) z) pA⟩
theorem ok_boxLots (B : Bl mg) (D : Df K mg "box_lots" sBoxLots ["grid", "tall", "wide"] f fd) (D1 : Df K mg "_cells_within" sCellsWithin ["grid", "rows", "columns"] f1 fd1) (G1 : FnOk P w K mg base CX0 2 f1 fd1 ["grid", "rows", "columns"] spWithin) : FnOk P w K mg base CX0 3 f fd ["grid", "tall", "wide"] spBoxLots := by
  refine D.F.ok scBoxLots (fun vs H Q E h => ?_) (fun cdv A outer s H vs Q E hr h => ?_)
  · obtain ⟨g, h, w, t, d, rfl, _⟩ := h
    rfl
  · obtain ⟨g, h, w, t, d, rfl, hg, t1, th, d1, dw, k⟩ := h
    refine ⟨_, pss_cons (ps_asg (pv 0) (pg_tupK K (n := 2) rfl (pgs_cons (pg_name (i := 3) scBoxLots.nd rfl (by first | exact .inl rfl | exact .inr rfl)) (pgs_cons (pg_name (i := 4) scBoxLots.nd rfl (by first | exact .inl rfl | exact .inr rfl)) pgs_nil))))
      (pss_cons (ps_setLc2 (i := 5) (own := [("r", 6), ("c", 7)]) (vs1 := [7]) rfl scBoxLots.nd rfl rfl (sw_true rfl rfl rfl (by decide +kernel)) (pi_range3 (by rfl) B.range (pa_cons pe_int (pa_cons (pv 3) (pa_cons (pv 1) pa_nil)))) (blkOk_by (N := ["grid", "tall", "wide", "height", "width", "corners", "r", "c"]) (sc := defScope sBoxLots) (by decide +kernel)) (by decide)
        (fun _ _ _ _ _ => pg_name (i := 6) scBoxLots.nd rfl (by first | exact .inl rfl | exact .inr rfl)) (fun _ _ _ _ _ => pts_nil) (fun _ _ _ _ _ => pi_range3 (by rfl) B.range (pa_cons pe_int (pa_cons (pv 4) (pa_cons (pv 2) pa_nil)))) (fun _ _ _ _ _ => pg_name (i := 7) scBoxLots.nd rfl (by first | exact .inl rfl | exact .inr rfl)) (fun _ _ _ _ _ => pts_nil)
        (fun _ _ _ _ _ => pe_tup (pa_cons (pv 6) (pa_cons (pv 7) pa_nil))))
      (pss_one (ps_ret (pe_callTy (tupleOf K) (by rfl) B.tuple PyProof.Rows.boot_tuple (pa_cons (pe_lc (own := [("r", 6), ("c", 7)]) rfl scBoxLots.nd (pi_list (pv 5)) (blkOk_by (N := ["grid", "tall", "wide", "height", "width", "corners", "r", "c"]) (sc := defScope sBoxLots) (by decide +kernel))
        (fun _ _ _ _ _ => pg_tupK K (n := 2) rfl (pgs_cons (pg_name (i := 6) scBoxLots.nd rfl (by first | exact .inl rfl | exact .inr rfl)) (pgs_cons (pg_name (i := 7) scBoxLots.nd rfl (by first | exact .inl rfl | exact .inr rfl)) pgs_nil))) (fun _ _ _ _ _ => pts_nil)
        (fun _ _ _ _ _ => pe_call G1 (hr.mono (by decide)) (by rfl) D1.g D1.F.kp D1.b .nil pass0 (pa_cons (pv 0) (pa_cons (pe_listRg rfl (by rfl) B.list (prg_2 (by rfl) B.range (pv 6) (pe_op op_add (pv 6) (pv 1)))) (pa_cons (pe_listRg rfl (by rfl) B.list (prg_2 (by rfl) B.range (pv 7) (pe_op op_add (pv 7) (pv 2)))) pa_nil))))) pa_nil))))), ?_⟩
    have le := hg.le
    obtain ⟨⟨ga, rfl, hga⟩, h1, w1, hw⟩ := id hg
    have rh := rg_c h1 le.1 t1 th
    have rw_ := rg_c w1 le.2 d1 dw
    have tl : t ≤ 16 := by
      have := Int.le_of_dvd (by omega) th
      omega
    have dl : d ≤ 16 := by
      have := Int.le_of_dvd (by omega) dw
      omega
    have nh : (h / t).toNat ≤ 16 := by
      have : h / t ≤ h := Int.ediv_le_self _ (by omega)
      omega
    have nw : (w / d).toNat ≤ 16 := by
      have : w / d ≤ w := Int.ediv_le_self _ (by omega)
      omega
    refine ⟨_, rfl, ga, _, rfl, sqt hga, rfl, _, _, rfl, _, _, rfl, rfl, ?_⟩
    refine ⟨_, rfl, _, rfl, _, _, _, _, rfl, rh, fun L hL => ?_⟩
    have sm : ∀ {B : Hp}, (∀ b o, b ≠ L → H b = some o → B b = some o) → Same H B := fun kp b o e => kp b o (fun z => by rw [z, hL] at e; cases e) e
    refine lc2_it walk_rangeC (fun i H' => ∃ acc, H' L = some (.lst acc) ∧ Paired (IH H') acc ((List.range i).flatMap fun i => (List.range (w / d).toNat).map fun j => [((i : Nat) : Int) * t, ((j : Nat) : Int) * d]) ∧ ∀ b o, b ≠ L → H b = some o → H' b = some o) ⟨[], upd_same, .nil, fun b o hb e => by rw [upd_ne hb]; exact e⟩ (fun _ _ _ _ => trivial) (fun i x H' H'' hi h y => ?_) (fun H' h => ?_)
    · obtain ⟨rfl, rfl⟩ := y
      obtain ⟨acc, hA, pA, kp⟩ := h
      refine ⟨rfl, _, rfl, _, rfl, _, _, _, _, rfl, rw_, ?_⟩
      refine inner_it walk_rangeC (fun j H3 => ∃ acc, H3 L = some (.lst acc) ∧ Paired (IH H3) acc (((List.range i).flatMap fun i => (List.range (w / d).toNat).map fun j => [((i : Nat) : Int) * t, ((j : Nat) : Int) * d]) ++ (List.range j).map fun j => [((i : Nat) : Int) * t, ((j : Nat) : Int) * d]) ∧ ∀ b o, b ≠ L → H b = some o → H3 b = some o) ⟨acc, hA, by rw [List.range_zero, List.map_nil, List.append_nil]; exact pA, kp⟩ (fun _ _ _ _ => trivial) (fun j x H3 H4 hj h y => ?_) (fun H3 h => ?_)
      · obtain ⟨rfl, rfl⟩ := y
        obtain ⟨acc3, hA3, pA3, kp3⟩ := h
        have accl : acc3.length ≤ 272 := by
          rw [pA3.length, List.length_append, List.length_map, List.length_range]
          have l1 := flat_len (b := 16) (fun i : Nat => (List.range (w / d).toNat).map fun j => [((i : Nat) : Int) * t, ((j : Nat) : Int) * d]) (xs := List.range i) fun x _ => by
            rw [List.length_map, List.length_range]
            exact nw
          rw [List.length_range] at l1
          omega
        refine ⟨rfl, _, rfl, _, rfl, (show 2 ≤ sizeLine by decide), fun T hT => ⟨acc3, upd_at hT hA3, by rw [sizeLine_eq]; omega, acc3 ++ [.ref T], upd_same, ?_, fun b o hb e => ?_⟩⟩
        · rw [List.range_succ, List.map_append, ← List.append_assoc]
          have nT : T ≠ L := (ne_of_none hA3 hT).symm
          refine paired_app (paired_mono (fun _ _ z => IH.kt (ktL (upd_at hT hA3)) (IH.kt (kt_same (same_new hT)) z)) pA3) (paired_one ⟨T, rfl, ?_⟩)
          rw [upd_ne nT, upd_same]
          simp
        · rw [upd_ne hb]
          exact upd_at hT (kp3 b o hb e)
      · obtain ⟨acc3, hA3, pA3, kp3⟩ := h
        refine ⟨acc3, hA3, ?_, kp3⟩
        rw [List.range_succ, List.flatMap_append]
        simpa using pA3
    · obtain ⟨acc, hA, pA, kp⟩ := h
      have al : acc.length ≤ 256 := by
        rw [pA.length]
        have l1 := flat_len (b := 16) (fun i : Nat => (List.range (w / d).toNat).map fun j => [((i : Nat) : Int) * t, ((j : Nat) : Int) * d]) (xs := List.range (h / t).toNat) fun x _ => by
          rw [List.length_map, List.length_range]
          exact nw
        rw [List.length_range] at l1
        omega
      have s2 := sm kp
      have hg2 := hg.kt (kt_same s2)
      change Paired (IH H') acc (boxCorners h w t d) at pA
      have hcs : ∀ c ∈ boxCorners h w t d, ∃ a b, c = [a, b] ∧ 0 ≤ a ∧ a ≤ 256 ∧ 0 ≤ b ∧ b ≤ 256 := fun c hc => by
        obtain ⟨i, hi, hc⟩ := List.mem_flatMap.mp hc
        obtain ⟨j, hj, rfl⟩ := List.mem_map.mp hc
        have hi := List.mem_range.mp hi
        have hj := List.mem_range.mp hj
        have b1 : ((i : Nat) : Int) * t ≤ 16 * 16 := Int.mul_le_mul (by omega) (by omega) (by omega) (by omega)
        have b2 : ((j : Nat) : Int) * d ≤ 16 * 16 := Int.mul_le_mul (by omega) (by omega) (by omega) (by omega)
        exact ⟨_, _, rfl, Int.mul_nonneg (by omega) (by omega), b1, Int.mul_nonneg (by omega) (by omega), b2⟩
      unfold boxesL at k
      generalize boxCorners h w t d = cs at *
      refine ⟨_, rfl, L, rfl, ⟨_, sql hA⟩, fun L2 hL2 => ?_⟩
      refine lc_mapR (walk_list (xs := acc)) hL2 (fun i => boxOf w t d (cs.getD i [])) (fun H' s => sql (s _ _ hA)) (by omega) (fun i x H3 H4 hi s y C kk => ?_) (fun H3 ys s hA3 pA3 => ?_)
      · obtain ⟨rfl, hx⟩ := y
        obtain ⟨c, hc, ic⟩ := paired_at pA hx
        obtain ⟨a, b, rfl, a0, a1, b0, b1⟩ := hcs c (List.mem_of_getElem? hc)
        have s3 := Same.tr s2 s
        obtain ⟨y, rfl, hy⟩ := ic.kt (kt_same s)
        have eg : cs.getD i [] = [a, b] := by rw [List.getD_eq_getElem?_getD, hc]; rfl
        refine ⟨y, _, rfl, sqt hy, rfl, _, _, rfl, _, _, rfl, rfl, rfl, ?_⟩
        refine ⟨_, rfl, _, rfl, _, rfl, _, rfl, _, _, rfl, rfl, _, _, rfl, rfl, RgOk.of_le (by omega) (by omega) (by omega) (by omega), fun q1 hq1 => ?_⟩
        refine ⟨_, rfl, _, rfl, _, rfl, _, _, rfl, rfl, _, _, rfl, rfl, RgOk.of_le (by omega) (by omega) (by omega) (by omega), fun q2 hq2 => ?_⟩
        have l1 : ∀ a n : Int, (fromTo a n).length = n.toNat := fun a n => by unfold fromTo; rw [List.length_map, List.length_range]
        have f1 : ∀ a n : Int, rgV a (a + n) = (fromTo a n).map V.int := fun a n => by rw [fromTo_rg, show a + n - a = n by omega]
        refine ⟨.ref ga, h, w, q1, q2, fromTo a t, fromTo b d, rfl, hg.kt (kt_same (Same.tr s3 (Same.tr (same_new hq1) (same_new hq2)))), ?_, ?_, by rw [l1]; omega, by rw [l1]; omega, fun v H5 s5 i5 => kk v H5 (Same.tr (same_new hq1) (Same.tr (same_new hq2) s5)) ?_⟩
        · exact (upd_at hq2 upd_same).trans (by rw [f1])
        · rw [upd_same, f1]
        · rw [eg]
          exact i5
      · refine ⟨L2, _, rfl, .inl ⟨sql hA3, fun T hT => ?_⟩⟩
        have sT := same_new (o := .tup ys) hT
        refine k _ _ (Same.tr s2 (Same.tr s sT)) ⟨T, ys, rfl, upd_same, ?_⟩
        have e : (List.range acc.length).map (fun i => boxOf w t d (cs.getD i [])) = cs.map (boxOf w t d) := by
          rw [pA.length]
          refine List.ext_getElem? fun j => ?_
          rw [List.getElem?_map, List.getElem?_map]
          by_cases jl : j < cs.length
          · rw [List.getElem?_range jl, List.getElem?_eq_getElem jl]
            simp [List.getD, jl]
          · rw [List.getElem?_eq_none (by rw [List.length_range]; omega), List.getElem?_eq_none (by omega)]
            rfl
        rw [← e]
        exact paired_mono (fun _ _ z => IH.kt (kt_same sT) z) pA3
end
end G9

set_option Elab.async false
set_option linter.all false
set_option maxRecDepth 100000
set_option maxHeartbeats 4000000
/-! a puzzle as data -/
namespace G9
open PySem PySem.Spec PyProof.Rows L2 GX
def dRul : Rul → PyData
  | .table cs rows => .tuple [.str "table", dI cs, dRows rows]
  | .unlike cs => .tuple [.str "unlike", dI cs]
  | .sum cs lo hi => .tuple [.str "sum", dI cs, .int lo, .int hi]
  | .count cs vs lo hi => .tuple [.str "count", dI cs, dI vs, .int lo, .int hi]
  | .below a b => .tuple [.str "below", .int a, .int b]
  | .runs cs ls => .tuple [.str "runs", dI cs, dI ls]
  | .joined cs ties vs => .tuple [.str "joined", dI cs, dRows (ties.map tie2), dI vs]
def dPuz (p : Puz) : PyData := .tuple [dRows p.doms, .tuple (p.rules.map dRul)]
theorem rul_dp {K : PySem.W.Frag} {H : Hp} {v : V} : ∀ {r : Rul}, RuH H v r → Dp K H v (dRul r)
  | .table _ _, ⟨a, x, y, e, q, i, j⟩ => by rw [e]; exact .tup (sqt q) (.cons (.str _) (.cons i.dp (.cons (RowsH.dp j) .nil)))
  | .unlike _, ⟨a, x, e, q, i⟩ => by rw [e]; exact .tup (sqt q) (.cons (.str _) (.cons i.dp .nil))
  | .sum _ _ _, ⟨a, x, e, q, i⟩ => by rw [e]; exact .tup (sqt q) (.cons (.str _) (.cons i.dp (.cons (.int _) (.cons (.int _) .nil))))
  | .count _ _ _ _, ⟨a, x, y, e, q, i, j⟩ => by rw [e]; exact .tup (sqt q) (.cons (.str _) (.cons i.dp (.cons j.dp (.cons (.int _) (.cons (.int _) .nil)))))
  | .below _ _, ⟨a, e, q⟩ => by rw [e]; exact .tup (sqt q) (.cons (.str _) (.cons (.int _) (.cons (.int _) .nil)))
  | .runs _ _, ⟨a, x, y, e, q, i, j⟩ => by rw [e]; exact .tup (sqt q) (.cons (.str _) (.cons i.dp (.cons j.dp .nil)))
  | .joined _ _ _, ⟨a, x, y, z, e, q, i, j, k⟩ => by rw [e]; exact .tup (sqt q) (.cons (.str _) (.cons i.dp (.cons (RowsH.dp j) (.cons k.dp .nil))))
theorem rul_all {K : PySem.W.Frag} {H : Hp} : ∀ {vs : List V} {rs : List Rul}, Paired (RuH H) vs rs → DpAll K H vs (rs.map dRul)
  | _, _, .nil => .nil
  | _, _, .cons a r => .cons (rul_dp a) (rul_all r)
theorem puz_dp {K : PySem.W.Frag} {H : Hp} {v : V} {p : Puz} (h : PzH H v p) : Dp K H v (dPuz p) := by
  obtain ⟨a, x, y, rfl, q, hx, b, vs, rfl, q2, pv⟩ := h
  exact .tup (sqt q) (.cons (RowsH.dp hx) (.cons (.tup (sqt q2) (rul_all pv)) .nil))
structure CmA (ds : List PyData) (k : Nat) : Prop where
  c : PyData.canLayAll0 ds = true
  d : PyData.depthAll ds ≤ k
structure Cm (e : PyData) (k : Nat) : Prop where
  c : e.canLay0 = true
  d : e.depth ≤ k
theorem CmA.nil {k : Nat} : CmA [] k := ⟨by simp [PyData.canLayAll0], by simp [PyData.depthAll]⟩
theorem CmA.cons {e : PyData} {ds : List PyData} {k : Nat} (h : Cm e k) (g : CmA ds k) : CmA (e :: ds) k := ⟨by simp only [PyData.canLayAll0, h.c, g.c, Bool.and_true], by
  simp only [PyData.depthAll]
  exact Nat.max_le.mpr ⟨h.d, g.d⟩⟩
theorem CmA.tuple {ds : List PyData} {k : Nat} (h : CmA ds k) : Cm (.tuple ds) (k + 1) := ⟨by unfold PyData.canLay0; exact h.c, by
  have := h.d
  unfold PyData.depth
  omega⟩
theorem cm_int (i : Int) (k : Nat) : Cm (.int i) k := ⟨rfl, by unfold PyData.depth; omega⟩
theorem cm_str (x : Str) (k : Nat) (h : (PyData.str x).canLay0 = true) : Cm (.str x) k := ⟨h, by unfold PyData.depth; omega⟩
theorem cm_dI (ns : List Int) (k : Nat) : Cm (dI ns) (k + 1) := ⟨can_dI ns, by rw [depth_dI]; omega⟩
theorem cm_rows (rows : List (List Int)) (k : Nat) : Cm (dRows rows) (k + 2) := ⟨(cmp_rows rows).1, by
  have := depth_rows rows
  unfold dRows PyData.depth
  omega⟩
theorem cm_rul : ∀ r : Rul, Cm (dRul r) 3
  | .table _ _ => CmA.tuple (.cons (cm_str _ _ (by first | rfl | decide +kernel)) (.cons (cm_dI _ _) (.cons (cm_rows _ _) .nil)))
  | .unlike _ => CmA.tuple (.cons (cm_str _ _ (by first | rfl | decide +kernel)) (.cons (cm_dI _ _) .nil))
  | .sum _ _ _ => CmA.tuple (.cons (cm_str _ _ (by first | rfl | decide +kernel)) (.cons (cm_dI _ _) (.cons (cm_int _ _) (.cons (cm_int _ _) .nil))))
  | .count _ _ _ _ => CmA.tuple (.cons (cm_str _ _ (by first | rfl | decide +kernel)) (.cons (cm_dI _ _) (.cons (cm_dI _ _) (.cons (cm_int _ _) (.cons (cm_int _ _) .nil)))))
  | .below _ _ => CmA.tuple (.cons (cm_str _ _ (by first | rfl | decide +kernel)) (.cons (cm_int _ _) (.cons (cm_int _ _) .nil)))
  | .runs _ _ => CmA.tuple (.cons (cm_str _ _ (by first | rfl | decide +kernel)) (.cons (cm_dI _ _) (.cons (cm_dI _ _) .nil)))
  | .joined _ _ _ => CmA.tuple (.cons (cm_str _ _ (by first | rfl | decide +kernel | simp [PyData.canLay0])) (.cons (cm_dI _ _) (.cons (cm_rows _ _) (.cons (cm_dI _ _) .nil))))
theorem cm_ruls : ∀ rs : List Rul, CmA (rs.map dRul) 3
  | [] => .nil
  | r :: rs => .cons (cm_rul r) (cm_ruls rs)
theorem cmp_puz (p : Puz) : Cmp (dPuz p) := by
  have h : Cm (dPuz p) 5 := CmA.tuple (.cons (cm_rows _ _) (.cons (cm_ruls _).tuple .nil))
  exact ⟨h.c, Nat.le_trans h.d (by decide)⟩
theorem eqv_puz (p : Puz) : PyData.eqv (dPuz p) (dPuz p) = true := PySem.SeqAt.eqv_refl _ (cmp_puz p).1
end G9

set_option Elab.async false
set_option linter.all false
set_option maxRecDepth 100000
set_option maxHeartbeats 4000000
/-! zip of a list and a tuple -/
namespace GX
open PySem PySem.Spec PyProof.Rows L2
def ItzL (K : PySem.W.Frag) (a b : Addr) : It where
  go i H := ∃ xs ys x y, SqL K H a xs ∧ SqT K H b ys ∧ xs[i]? = some x ∧ ys[i]? = some y
  yld i H v H' := ∃ T x y, v = .ref T ∧ H T = none ∧ H' = upd H T (.tup [x, y]) ∧ (∀ xs, SqL K H a xs → xs[i]? = some x) ∧ ∀ ys, SqT K H b ys → ys[i]? = some y
  stop i H := ∃ xs ys, SqL K H a xs ∧ SqT K H b ys ∧ min xs.length ys.length = i
theorem walk_zipL {K : PySem.W.Frag} {a b : Addr} {xs ys : List V} {n : Nat} (hn : n = min xs.length ys.length) : Walk (ItzL K a b) n (fun H => SqL K H a xs ∧ SqT K H b ys) (YPair (fun i => xs[i]?) (fun i => ys[i]?)) where
  goes := fun i H hi hq => ⟨xs, ys, xs[i]'(by omega), ys[i]'(by omega), hq.1, hq.2, List.getElem?_eq_getElem _, List.getElem?_eq_getElem _⟩
  stops := fun H hq => ⟨xs, ys, hq.1, hq.2, hn.symm⟩
  yields := fun i H x H' hi hq ⟨T, u, v, e, nn, w, z1, z2⟩ => ⟨T, u, v, e, nn, w, z1 xs hq.1, z2 ys hq.2⟩
theorem turn_zipL {P : Program} {w : World} {K : PySem.W.Frag} {elts : List Expr} {kk : Nat} {tpos : Pos} {a b z TI TO i1 i2 : Addr} (S : ZipSep2 z TI TO i1 i2 [i1, a] [i2, b]) (na : a ≠ i1) (nb : b ≠ i2) :
    Turn P w K (.Tuple elts kk tpos) (ItzL K a b) [z, TI, TO, i1, i2] z (fun i h => IsZip h z TI TO .none ∧ IsTupOf2 h TI (.ref i1) (.ref i2) ∧ (∃ u v, IsTupOf2 h TO u v) ∧ h.IsListIter i1 a i ∧ h.IsTupleIter i2 b i) where
  mem := List.mem_cons_self ..
  obj := fun i h st c hc => by
    obtain ⟨hz, hTI, ⟨x, y, hTO⟩, ⟨o1, e1, _, d1⟩, ⟨o2, e2, _, d2⟩⟩ := st
    simp only [List.mem_cons, List.not_mem_nil, or_false] at hc
    rcases hc with rfl | rfl | rfl | rfl | rfl
    · exact ⟨_, hz, fun v q => nomatch q⟩
    · exact ⟨_, hTI, fun v q => nomatch q⟩
    · exact ⟨_, hTO, fun v q => nomatch q⟩
    · exact ⟨o1, e1, fun v q => by rw [d1] at q; cases q⟩
    · exact ⟨o2, e2, fun v q => by rw [d2] at q; cases q⟩
  keep := fun i h h' st k => by
    obtain ⟨hz, hTI, ⟨x, y, hTO⟩, h1, h2⟩ := st
    exact ⟨k z (by simp) _ hz, k TI (by simp) _ hTI, ⟨x, y, k TO (by simp) _ hTO⟩, h1.at fun o q => k i1 (by simp) o q, h2.at fun o q => k i2 (by simp) o q⟩
  item := by
    intro X hP hw hK hc i pins s σ H E I hf st hg
    subst hP hw hK
    obtain ⟨hz, hTI, hTO, h1, h2⟩ := st
    obtain ⟨xs, ys, x, y, hqx, hqy, hx, hy⟩ := hg
    obtain ⟨its, rv, p, _⟩ := I.list hqx
    obtain ⟨its2, rv2, p2, _⟩ := I.tuple hqy
    have t2 : s.heap.IsTuple b its2.toArray := p2
    obtain ⟨u, hu, ru⟩ := rv.get hx
    obtain ⟨u2, hu2, ru2⟩ := rv2.get hy
    have hd := I.ok.hd hc
    have W := WalksT.zipD2 (A := X.A) (prog := X.prog) (w := X.w) S (Draws.list (A := X.A.in1) hd i1 a na its.toArray) (Draws.tuple (A := X.A.in1) hd i2 b nb its2.toArray)
    have lt1 : i < its.length := by
      rcases Nat.lt_or_ge i its.length with q | q
      · exact q
      · rw [List.getElem?_eq_none q] at hu
        cases hu
    have lt2 : i < its2.length := by
      rcases Nat.lt_or_ge i its2.length with q | q
      · exact q
      · rw [List.getElem?_eq_none q] at hu2
        cases hu2
    refine W.item i s _ E (by simp; omega) ⟨hz, hTI, hTO, ⟨h1, p.isList⟩, h2, t2⟩ fun T vals h' tk hv hle hT mid hk => ⟨.ref T, rfl, ?_⟩
    refine W.go elts kk tpos i T { s with heap := h', toks := tk } _ E mid fun h'' st'' hk2 => ?_
    obtain ⟨v1, v2, e1, e2, rfl⟩ := hv
    have q1 : v1 = u := by
      have q : its[i]? = some v1 := by simpa using e1
      rw [hu] at q
      exact (Option.some.inj q).symm
    have q2 : v2 = u2 := by
      have q : its2[i]? = some v2 := by simpa using e2
      rw [hu2] at q
      exact (Option.some.inj q).symm
    subst q1 q2
    obtain ⟨oT, eT, cT, nT, dT⟩ := hT
    have TnW := W.apart i T h' mid
    have eT2 : h''.get? T = some oT := hk2 T oT TnW eT
    have new : ObjOk X.prog X.w (upd H T (.tup [x, y])) h'' T (.tup [x, y]) := ⟨by show 2 ≤ sizeLine; decide, [v1, v2], .cons ru (.cons ru2 .nil), ⟨oT, eT2, cT, nT, dT⟩⟩
    have sub : ∀ c, c ∉ [z, TI, TO, i1, i2] → c ∉ [z, TO, i1, i2] := fun c hn q => hn (by simp at q ⊢; rcases q with q | q | q | q <;> simp [q])
    have I1 : Inv X pins σ (upd H T (.tup [x, y])) { s with heap := h'', toks := tk } :=
      I.turnedNew (t' := tk) (ch := [z, TI, TO, i1, i2]) (fun c o hb q => hk2 c o (sub c hb) (hk c o (sub c hb) q)) hf hle new
    have hTn : H T = none := I.hok.fresh hle
    obtain ⟨z'', TI'', TO'', ⟨i1'', _⟩, i2'', _⟩ := st''
    refine ⟨.ref T, _, I1, rfl, ⟨T, x, y, rfl, hTn, rfl, fun l hl => by rw [I.list_inj hl hqx]; exact hx, fun l hl => by rw [I.tuple_inj hl hqy]; exact hy⟩, ⟨z'', TI'', TO'', i1'', i2''⟩, fun c hcm => ?_⟩
    have hlt : c < s.heap.objs.size := by
      obtain ⟨u0, v0, hTO⟩ := hTO
      simp only [List.mem_cons, List.not_mem_nil, or_false] at hcm
      rcases hcm with rfl | rfl | rfl | rfl | rfl
      · exact Heap.lt_size hz
      · exact Heap.lt_size hTI
      · exact Heap.lt_size hTO
      · obtain ⟨_, e1, _⟩ := h1; exact Heap.lt_size e1
      · obtain ⟨_, e2, _⟩ := h2; exact Heap.lt_size e2
    rw [upd_ne (Nat.ne_of_lt (Nat.lt_of_lt_of_le hlt hle))]
    exact (hf c hcm).1
  done := by
    intro X hP hw hK hc i pins s σ H E I hf st hg
    subst hP hw hK
    obtain ⟨hz, hTI, hTO, h1, h2⟩ := st
    obtain ⟨xs, ys, hqx, hqy, hend⟩ := hg
    obtain ⟨its, rv, p, _⟩ := I.list hqx
    obtain ⟨its2, rv2, p2, _⟩ := I.tuple hqy
    have t2 : s.heap.IsTuple b its2.toArray := p2
    have hd := I.ok.hd hc
    have l1 := rv.length
    have l2 := rv2.length
    have W := WalksT.zipD2 (A := X.A) (prog := X.prog) (w := X.w) S (Draws.list (A := X.A.in1) hd i1 a na its.toArray) (Draws.tuple (A := X.A.in1) hd i2 b nb its2.toArray)
    have en : min its.toArray.size its2.toArray.size = i := by
      rw [List.size_toArray, List.size_toArray]
      omega
    rw [en] at W
    have sub : ∀ c, c ∉ [z, TI, TO, i1, i2] → c ∉ [z, TO, i1, i2] := fun c hn q => hn (by simp at q ⊢; rcases q with q | q | q | q <;> simp [q])
    exact W.done s _ E ⟨hz, hTI, hTO, ⟨h1, p.isList⟩, h2, t2⟩ fun h' tk hk => ⟨rfl, I.turnedL (t' := tk) (ch := [z, TI, TO, i1, i2]) (fun c o hb q => hk c o (sub c hb) q) hf⟩
  self := fun A i s Q E st h => wpAny_pyIter_zip st.1 h
def iZipL (K : PySem.W.Frag) (ta : TA) : TI := fun σ H R => ta σ H fun vs H1 => ∃ a b xs ys, vs = [.ref a, .ref b] ∧ SqL K H1 a xs ∧ SqT K H1 b ys ∧ R (ItzL K a b) H1
theorem pi_zipL {X : Cx} {e e2 : Expr} {ta : TA} {p pos tpos : Pos} {elts : List Expr} {kk : Nat} (hg : Gl X "zip") (hm : X.mg "zip" = none) (ha : PA X [e, e2] ta)
    (hs : starEach [e, e2] X.env = (false, eval e X.env) :: starEach [e2] X.env := by rfl) (hpl : (backTo pos (starEach [e2] X.env)).any (·.1) = false := by rfl) :
    PI X (.Tuple elts kk tpos) (.Call (.Name "zip" p) [e, e2] [] pos) (iZipL X.K ta) := by
  refine ⟨fun pins s σ H R I h => Call_ (ld_blt I hg hm PyProof.Rows.boot_zip (PyProof.Rows.callWith_type1 (thn (ha.run pos pins s σ H _ I h) fun us s1 hx => ?_) hs hpl))⟩
  obtain ⟨vs, H1, I1, r1, a, b, xs, ys, rfl, hqx, hqy, q⟩ := hx
  cases r1 with
  | cons r rr =>
    cases rr with
    | cons r' rr =>
      cases rr
      cases r
      cases r'
      obtain ⟨its, rv, p1, _⟩ := I1.list hqx
      obtain ⟨its2, rv2, p2, _⟩ := I1.tuple hqy
      have t2 : s1.heap.IsTuple b its2.toArray := p2
      have la : a < s1.heap.objs.size := by obtain ⟨_, e, _⟩ := id p1.isList; exact Heap.lt_size e
      have lb : b < s1.heap.objs.size := by obtain ⟨_, e, _⟩ := id t2; exact Heap.lt_size e
      refine zip_begins2 (begins_list a its.toArray) (begins_tuple b its2.toArray) p1.isList t2 fun h' hz hTI hTO h1 h2 hsz hk => wpAny_pyIter_zip hz ?_
      have I2 : Inv X pins σ H1 { s1 with heap := h' } := I1.kept (t' := s1.toks) hk
      refine ⟨s1.heap.objs.size + 4, [s1.heap.objs.size + 4, s1.heap.objs.size + 2, s1.heap.objs.size + 3, s1.heap.objs.size, s1.heap.objs.size + 1], _, _, H1, rfl, I2, turn_zipL (zsep _ a b la lb) (Nat.ne_of_lt la) (Nat.ne_of_lt (Nat.lt_succ_of_lt lb)), ⟨hz, hTI, ⟨_, _, hTO⟩, ⟨_, h1, rfl, rfl⟩, ⟨_, h2, rfl, rfl⟩⟩, fun c hcm => ?_, q⟩
      have hle : s1.heap.objs.size ≤ c := by
        simp only [List.mem_cons, List.not_mem_nil, or_false] at hcm
        rcases hcm with rfl | rfl | rfl | rfl | rfl
        · exact Nat.le_add_right _ _
        · exact Nat.le_add_right _ _
        · exact Nat.le_add_right _ _
        · exact Nat.le_refl _
        · exact Nat.le_add_right _ _
      exact I1.fpOk hle (I1.hok.fresh hle)
theorem piZipL (K : PySem.W.Frag) {X : Cx} {e e2 : Expr} {ta : TA} {p pos tpos : Pos} {elts : List Expr} {kk : Nat} (hg : Gl X "zip") (hm : X.mg "zip" = none) (ha : PA X [e, e2] ta) (hK : X.K = K := by rfl)
    (hs : starEach [e, e2] X.env = (false, eval e X.env) :: starEach [e2] X.env := by rfl) (hpl : (backTo pos (starEach [e2] X.env)).any (·.1) = false := by rfl) :
    PI X (.Tuple elts kk tpos) (.Call (.Name "zip" p) [e, e2] [] pos) (iZipL K ta) := hK ▸ pi_zipL hg hm ha hs hpl
end GX

set_option Elab.async false
set_option linter.all false
set_option maxRecDepth 100000
set_option maxHeartbeats 8000000
/-! comprehensions of rules; squares, boxed, signed -/
namespace G9
open PySem PySem.Spec PyProof.Rows L2 GX
theorem paired_of {α β : Type} {R : α → β → Prop} {F : Nat → β} : ∀ {ys : List α} (m : Nat), (∀ j y, ys[j]? = some y → R y (F (m + j))) → Paired R ys ((List.range' m ys.length).map F)
  | [], m, _ => .nil
  | y :: ys, m, h => by
    rw [List.length_cons, List.range'_succ, List.map_cons]
    exact .cons (h 0 y rfl) (paired_of (m + 1) fun j z e => by have := h (j + 1) z (by simpa using e); rwa [show m + (j + 1) = m + 1 + j by omega] at this)
theorem lc_mapG {α : Type} {J : It} {n : Nat} {G : Hp → Prop} {Y : Nat → Hp → V → Hp → Prop} {g : TG} {te : TE} {vs : List Nat} {σ : L2.St} {H1 : Hp} {D : Addr} {Qd : Hp → Prop} (w : Walk J n G Y) (hD : H1 D = none) (Rel : Hp → V → α → Prop) (st : ∀ {H H' : Hp} {v : V} {a : α}, Kt H H' → Rel H v a → Rel H' v a) (F : List α) (hF : F.length = n) (hG : ∀ H', Same H1 H' → G H') (hn : n ≤ 100000)
    (turn : ∀ i x H' H'' a, F[i]? = some a → Same H1 H' → Y i H' x H'' → ∀ C : V → Hp → Prop, (∀ y H4, Same H' H4 → Rel H4 y a → C y H4) → g x (wipe σ vs) H'' fun σ2 H2 => wipe σ2 vs = wipe σ vs ∧ te σ2 H2 C)
    (fin : ∀ H' ys, Same H1 H' → H' D = some (.lst ys) → Paired (Rel H') ys F → Qd H') : LcB J g tYes te vs σ H1 D Qd := by
  refine lc_map w hD (fun i H v => ∀ a, F[i]? = some a → Rel H v a) (fun _ _ _ _ k h a e => st k (h a e)) hG hn (fun i x H' H'' hi s y C kk => ?_) fun H' ys s hA yl hR => fin H' ys s hA ?_
  · have e : F[i]? = some (F[i]'(by omega)) := List.getElem?_eq_getElem _
    exact turn i x H' H'' _ e s y C fun y H4 s4 h => kk y H4 s4 fun a e2 => by rw [e] at e2; cases e2; exact h
  · clear fin turn w
    have h : ∀ {ys : List V} {F : List α}, ys.length = F.length → (∀ j y, ys[j]? = some y → ∀ a, F[j]? = some a → Rel H' y a) → Paired (Rel H') ys F := fun {ys F} => by
      induction ys generalizing F with
      | nil => intro l _; cases F with | nil => exact .nil | cons _ _ => cases l
      | cons y ys ih =>
        intro l h
        cases F with
        | nil => cases l
        | cons a F => exact .cons (h 0 y rfl a rfl) (ih (by simpa using l) fun j z e b e2 => h (j + 1) z (by simpa using e) b (by simpa using e2))
    exact h (by omega) hR
def sqRules (n : Int) : List Rul := (rowLots n n ++ colLots n n).map .unlike
def sqDoms (n : Int) : List (List Int) := List.replicate (n * n).toNat (fromTo 1 n)
def sqP (n : Int) : Puz := ⟨sqDoms n, sqRules n⟩
def boxP (t d : Int) : Puz := ⟨sqDoms (t * d), sqRules (t * d) ++ (boxesL (t * d) (t * d) t d).map .unlike⟩
def belowR (p : List Int) : Rul := .below (p.getD 0 0) (p.getD 1 0)
def signP (n : Int) (ps : List (List Int)) : Puz := ⟨sqDoms n, sqRules n ++ ps.map belowR⟩
def spSquares : Sp := fun vs H Q _ => ∃ n, vs = [.int n] ∧ 1 ≤ n ∧ n ≤ 4 ∧ ∀ v H', Same H H' → PzH H' v (sqP n) → Q v H'
def spBoxed : Sp := fun vs H Q _ => ∃ t d, vs = [.int t, .int d] ∧ 1 ≤ t ∧ 1 ≤ d ∧ t * d ≤ 4 ∧ ∀ v H', Same H H' → PzH H' v (boxP t d) → Q v H'
def spSigned : Sp := fun vs H Q _ => ∃ n u ps, vs = [.int n, u] ∧ 1 ≤ n ∧ n ≤ 4 ∧ RowsH H u ps ∧ (∀ p ∈ ps, p.length = 2) ∧ ps.length ≤ 100 ∧ ∀ v H', Same H H' → PzH H' v (signP n ps) → Q v H'
theorem rowLots_len (h w : Int) : (rowLots h w).length = h.toNat := by unfold rowLots; rw [List.length_map, List.length_range]
theorem colLots_len (h w : Int) : (colLots h w).length = w.toNat := by unfold colLots; rw [List.length_map, List.length_range]
theorem boxes_len {t d : Int} (t1 : 1 ≤ t) (d1 : 1 ≤ d) (td : t * d ≤ 4) : (boxesL (t * d) (t * d) t d).length ≤ 16 := by
  unfold boxesL boxCorners
  rw [List.length_map]
  have e1 : t * d / t = d := Int.mul_ediv_cancel_left d (by omega)
  have e2 : t * d / d = t := Int.mul_ediv_cancel t (by omega)
  rw [e1, e2]
  have a1 : t * 1 ≤ t * d := Int.mul_le_mul_of_nonneg_left d1 (by omega)
  have a2 : 1 * d ≤ t * d := Int.mul_le_mul_of_nonneg_right t1 (by omega)
  have l1 := flat_len (b := 4) (fun i : Nat => (List.range t.toNat).map fun j => [((i : Nat) : Int) * t, ((j : Nat) : Int) * d]) (xs := List.range d.toNat) fun x _ => by
    rw [List.length_map, List.length_range]
    omega
  rw [List.length_range] at l1
  omega
section
variable {P : Program} {w : World} {K : PySem.W.Frag} {mg : Str → Option Value} {base : Heap} {f f1 f2 f3 : Addr} {fd fd1 fd2 fd3 : FuncData}
theorem ok_squares (B : Bl mg) (D : Df K mg "squares" sSquares ["size"] f fd) (D1 : Df K mg "_row_lots" sRowLots ["grid"] f1 fd1) (G1 : FnOk P w K mg base CX0 3 f1 fd1 ["grid"] spRowLots) (D2 : Df K mg "_column_lots" sColumnLots ["grid"] f2 fd2) (G2 : FnOk P w K mg base CX0 3 f2 fd2 ["grid"] spColLots) (D3 : Df K mg "_same_domains" sSameDomains ["grid", "low", "high"] f3 fd3) (G3 : FnOk P w K mg base CX0 2 f3 fd3 ["grid", "low", "high"] spDoms) : FnOk P w K mg base CX0 4 f fd ["size"] spSquares := by
  refine D.F.ok scSquares (fun vs H Q E h => ?_) (fun cdv A outer s H vs Q E hr h => ?_)
  · obtain ⟨n, rfl, _⟩ := h
    rfl
  · obtain ⟨n, rfl, n1, n4, k⟩ := h
    refine ⟨_, pss_cons (ps_set (i := 1) scSquares.nd rfl (by first | exact .inl rfl | exact .inr rfl) (pe_tup (pa_cons (pv 0) (pa_cons (pv 0) pa_nil))))
      (pss_cons (ps_setLc (i := 2) (own := [("cells", 3)]) rfl scSquares.nd rfl rfl (sw_true rfl rfl rfl (by decide +kernel)) (pi_list (pe_op op_cat (pe_call G1 (hr.mono (by decide)) (by rfl) D1.g D1.F.kp D1.b .nil pass0 (pa_cons (pv 1) pa_nil)) (pe_call G2 (hr.mono (by decide)) (by rfl) D2.g D2.F.kp D2.b .nil pass0 (pa_cons (pv 1) pa_nil)))) (blkOk_by (N := ["size", "grid", "rules", "cells"]) (sc := defScope sSquares) (by decide +kernel))
        (fun _ _ _ _ _ => pg_name (i := 3) scSquares.nd rfl (by first | exact .inl rfl | exact .inr rfl)) (fun _ _ _ _ _ => pts_nil) (fun _ _ _ _ _ => pe_tup (pa_cons pe_str (pa_cons (pv 3) pa_nil))))
      (pss_one (ps_ret (pe_tup (pa_cons (pe_call G3 (hr.mono (by decide)) (by rfl) D3.g D3.F.kp D3.b .nil pass0 (pa_cons (pv 1) (pa_cons pe_int (pa_cons (pv 0) pa_nil)))) (pa_cons (pe_callTy (tupleOf K) (by rfl) B.tuple PyProof.Rows.boot_tuple (pa_cons (pv 2) pa_nil)) pa_nil)))))), ?_⟩
    have nn : n * n ≤ 4 * 4 := Int.mul_le_mul (by omega) (by omega) (by omega) (by omega)
    refine ⟨_, rfl, _, rfl, (show 2 ≤ sizeLine by decide), fun T hT => ?_⟩
    have sT := same_new (o := .tup [.int n, .int n]) hT
    have hg : GrH (upd H T (.tup [.int n, .int n])) (.ref T) n n := ⟨⟨T, rfl, upd_same⟩, n1, n1, nn⟩
    generalize upd H T (.tup [.int n, .int n]) = H0 at *
    refine ⟨_, rfl, .ref T, n, n, rfl, hg, fun l1 H1 s1 ⟨_, ys1, e1, q1, p1⟩ => ?_⟩
    cases e1
    refine ⟨_, rfl, .ref T, n, n, rfl, hg.kt (kt_same s1), fun l2 H2 s2 ⟨_, ys2, e2, q2, p2⟩ => ?_⟩
    cases e2
    have len1 : ys1.length = n.toNat := by rw [p1.length, rowLots_len]
    have len2 : ys2.length = n.toNat := by rw [p2.length, colLots_len]
    refine ⟨l1, l2, ys1, ys2, rfl, rfl, s2 _ _ q1, q2, by rw [sizeLine_eq]; omega, fun c hc => ?_⟩
    have sc := same_new (o := .lst (ys1 ++ ys2)) hc
    have hL : upd H2 c (.lst (ys1 ++ ys2)) c = some (.lst (ys1 ++ ys2)) := upd_same
    have pL : Paired (IH (upd H2 c (.lst (ys1 ++ ys2)))) (ys1 ++ ys2) (rowLots n n ++ colLots n n) := paired_app (paired_mono (fun _ _ z => IH.kt (kt_same (Same.tr s2 sc)) z) p1) (paired_mono (fun _ _ z => IH.kt (kt_same sc) z) p2)
    have s3 := Same.tr sT (Same.tr s1 (Same.tr s2 sc))
    have hg3 := hg.kt (kt_same (Same.tr s1 (Same.tr s2 sc)))
    have lenL : (ys1 ++ ys2).length ≤ 8 := by rw [List.length_append]; omega
    unfold sqP sqRules sqDoms at k
    have pln := pL.length
    generalize ys1 ++ ys2 = ys at *
    generalize rowLots n n ++ colLots n n = rs at *
    generalize upd H2 c (.lst ys) = H3 at *
    refine ⟨c, rfl, ⟨_, sql hL⟩, fun L hLn => ?_⟩
    refine lc_mapG (walk_list (xs := ys)) hLn RuH (fun k h => h.kt k) (rs.map .unlike) (by rw [List.length_map]; omega) (fun H' s => sql (s _ _ hL)) (by omega) (fun i x H' H'' a ha s y C kk => ?_) (fun H' us s hA pA => ?_)
    · obtain ⟨rfl, hx⟩ := y
      obtain ⟨r, hr, ir⟩ := paired_at pL hx
      rw [List.getElem?_map, hr] at ha
      cases ha
      refine ⟨rfl, _, rfl, (show 2 ≤ sizeLine by decide), fun T2 hT2 => kk _ _ (same_new hT2) ⟨T2, x, rfl, upd_same, ir.kt (kt_same (Same.tr s (same_new hT2)))⟩⟩
    · refine ⟨_, rfl, _, rfl, .ref T, n, n, 1, n, rfl, hg3.kt (kt_same s), by decide, by decide, by omega, by omega, fun v4 H4 s4 r4 => ?_⟩
      rw [show n + 1 - 1 = n by omega] at r4
      refine ⟨_, rfl, L, us, rfl, .inl ⟨sql (s4 _ _ hA), fun T5 hT5 => ⟨(show 2 ≤ sizeLine by decide), fun T6 hT6 => ?_⟩⟩⟩
      have s5 := same_new (o := .tup us) hT5
      have s6 := Same.tr s5 (same_new (o := .tup [v4, .ref T5]) hT6)
      exact k _ _ (Same.tr s3 (Same.tr s (Same.tr s4 s6))) ⟨T6, v4, .ref T5, rfl, upd_same, r4.kt (kt_same s6), T5, us, rfl, upd_at hT6 upd_same, paired_mono (fun _ _ z => RuH.kt (kt_same (Same.tr s4 s6)) z) pA⟩
theorem ok_boxed (B : Bl mg) (D : Df K mg "boxed" sBoxed ["tall", "wide"] f fd) (D1 : Df K mg "squares" sSquares ["size"] f1 fd1) (G1 : FnOk P w K mg base CX0 4 f1 fd1 ["size"] spSquares) (D2 : Df K mg "box_lots" sBoxLots ["grid", "tall", "wide"] f2 fd2) (G2 : FnOk P w K mg base CX0 3 f2 fd2 ["grid", "tall", "wide"] spBoxLots) : FnOk P w K mg base CX0 5 f fd ["tall", "wide"] spBoxed := by
  refine D.F.ok scBoxed (fun vs H Q E h => ?_) (fun cdv A outer s H vs Q E hr h => ?_)
  · obtain ⟨t, d, rfl, _⟩ := h
    rfl
  · obtain ⟨t, d, rfl, t1, d1, td, k⟩ := h
    refine ⟨_, pss_cons (ps_set (i := 2) scBoxed.nd rfl (by first | exact .inl rfl | exact .inr rfl) (pe_op op_mul (pv 0) (pv 1)))
      (pss_cons (ps_asg (pe_call G1 (hr.mono (by decide)) (by rfl) D1.g D1.F.kp D1.b .nil pass0 (pa_cons (pv 2) pa_nil)) (pg_tupK K (n := 2) rfl (pgs_cons (pg_name (i := 3) scBoxed.nd rfl (by first | exact .inl rfl | exact .inr rfl)) (pgs_cons (pg_name (i := 4) scBoxed.nd rfl (by first | exact .inl rfl | exact .inr rfl)) pgs_nil))))
      (pss_one (ps_ret (pe_tup (pa_cons (pv 3) (pa_cons (pe_op (catA K) (pv 4) (pe_callTy (tupleOf K) (by rfl) B.tuple PyProof.Rows.boot_tuple (pa_cons (pe_lc (own := [("cells", 5)]) rfl scBoxed.nd (pi_tup (pe_call G2 (hr.mono (by decide)) (by rfl) D2.g D2.F.kp D2.b .nil pass0 (pa_cons (pe_tup (pa_cons (pv 2) (pa_cons (pv 2) pa_nil))) (pa_cons (pv 0) (pa_cons (pv 1) pa_nil))))) (blkOk_by (N := ["tall", "wide", "size", "domains", "rules", "cells"]) (sc := defScope sBoxed) (by decide +kernel))
        (fun _ _ _ _ _ => pg_name (i := 5) scBoxed.nd rfl (by first | exact .inl rfl | exact .inr rfl)) (fun _ _ _ _ _ => pts_nil) (fun _ _ _ _ _ => pe_tup (pa_cons pe_str (pa_cons (pv 5) pa_nil)))) pa_nil))) pa_nil)))))), ?_⟩
    have a1 : t * 1 ≤ t * d := Int.mul_le_mul_of_nonneg_left d1 (by omega)
    have a2 : 1 * d ≤ t * d := Int.mul_le_mul_of_nonneg_right t1 (by omega)
    have bl := boxes_len t1 d1 td
    have dv1 : t ∣ t * d := ⟨d, rfl⟩
    have dv2 : d ∣ t * d := ⟨t, Int.mul_comm t d⟩
    have sl : (sqRules (t * d)).length ≤ 8 := by
      unfold sqRules
      rw [List.length_map, List.length_append, rowLots_len, colLots_len]
      omega
    unfold boxP at k
    refine ⟨_, rfl, _, rfl, _, _, rfl, rfl, .inr ⟨by omega, by omega⟩, ?_⟩
    show gName 2 (V.int (t * d)) _ _ _
    have n1 : 1 ≤ t * d := by omega
    generalize hn : t * d = n at *
    have nn : n * n ≤ 4 * 4 := Int.mul_le_mul (by omega) (by omega) (by omega) (by omega)
    refine ⟨_, rfl, n, rfl, n1, td, fun v H1 s1 ⟨a, x, y, e, q, hx, hy⟩ => ?_⟩
    subst e
    refine ⟨a, _, rfl, sqt q, rfl, _, _, rfl, _, _, rfl, rfl, ?_⟩
    refine ⟨_, rfl, _, rfl, _, rfl, _, rfl, (show 2 ≤ sizeLine by decide), fun T hT => ?_⟩
    have sT := same_new (o := .tup [.int n, .int n]) hT
    refine ⟨_, rfl, _, rfl, .ref T, n, n, t, d, rfl, ⟨⟨T, rfl, upd_same⟩, n1, n1, nn⟩, t1, dv1, d1, dv2, fun v2 H2 s2 ⟨b, ys, e2, q2, p2⟩ => ?_⟩
    subst e2
    have len2 : ys.length ≤ 16 := by rw [p2.length]; exact bl
    have pln := p2.length
    generalize boxesL n n t d = bs at *
    refine ⟨b, rfl, ⟨_, sqt q2⟩, fun L hLn => ?_⟩
    refine lc_mapG (walk_tup (xs := ys)) hLn RuH (fun k h => h.kt k) (bs.map .unlike) (by rw [List.length_map]; omega) (fun H' s => sqt (s _ _ q2)) (by omega) (fun i x2 H' H'' a2 ha s y2 C kk => ?_) (fun H' us s hA pA => ?_)
    · obtain ⟨rfl, hx2⟩ := y2
      obtain ⟨r, hr2, ir⟩ := paired_at p2 hx2
      rw [List.getElem?_map, hr2] at ha
      cases ha
      refine ⟨rfl, _, rfl, (show 2 ≤ sizeLine by decide), fun T2 hT2 => kk _ _ (same_new hT2) ⟨T2, x2, rfl, upd_same, ir.kt (kt_same (Same.tr s (same_new hT2)))⟩⟩
    · refine ⟨L, us, rfl, .inl ⟨sql hA, fun T5 hT5 => ?_⟩⟩
      have s5 := same_new (o := .tup us) hT5
      have s6 := Same.tr sT (Same.tr s2 (Same.tr s s5))
      refine cat_rules (hy.kt (kt_same s6)) ⟨T5, us, rfl, upd_same, paired_mono (fun _ _ z => RuH.kt (kt_same s5) z) pA⟩ (by rw [List.length_map]; show (sqRules n).length + _ ≤ 1000; omega) fun w7 H7 s7 r7 => ⟨(show 2 ≤ sizeLine by decide), fun T8 hT8 => ?_⟩
      have s8 := same_new (o := .tup [x, w7]) hT8
      exact k _ _ (Same.tr s1 (Same.tr s6 (Same.tr s7 s8))) ⟨T8, x, w7, rfl, upd_same, RowsH.kt (kt_same (Same.tr s6 (Same.tr s7 s8))) hx, r7.kt (kt_same s8)⟩
theorem ok_signed (B : Bl mg) (D : Df K mg "signed" sSigned ["size", "pairs"] f fd) (D1 : Df K mg "squares" sSquares ["size"] f1 fd1) (G1 : FnOk P w K mg base CX0 4 f1 fd1 ["size"] spSquares) : FnOk P w K mg base CX0 5 f fd ["size", "pairs"] spSigned := by
  refine D.F.ok scSigned (fun vs H Q E h => ?_) (fun cdv A outer s H vs Q E hr h => ?_)
  · obtain ⟨n, u, ps, rfl, _⟩ := h
    rfl
  · obtain ⟨n, u, ps, rfl, n1, n4, ⟨b, ys, rfl, q2, p2⟩, two, l100, k⟩ := h
    refine ⟨_, pss_cons (ps_asg (pe_call G1 (hr.mono (by decide)) (by rfl) D1.g D1.F.kp D1.b .nil pass0 (pa_cons (pv 0) pa_nil)) (pg_tupK K (n := 2) rfl (pgs_cons (pg_name (i := 2) scSigned.nd rfl (by first | exact .inl rfl | exact .inr rfl)) (pgs_cons (pg_name (i := 3) scSigned.nd rfl (by first | exact .inl rfl | exact .inr rfl)) pgs_nil))))
      (pss_one (ps_ret (pe_tup (pa_cons (pv 2) (pa_cons (pe_op (catA K) (pv 3) (pe_callTy (tupleOf K) (by rfl) B.tuple PyProof.Rows.boot_tuple (pa_cons (pe_lc (own := [("i", 4), ("j", 5)]) rfl scSigned.nd (pi_tup (pv 1)) (blkOk_by (N := ["size", "pairs", "domains", "rules", "i", "j"]) (sc := defScope sSigned) (by decide +kernel))
        (fun _ _ _ _ _ => pg_tupK K (n := 2) rfl (pgs_cons (pg_name (i := 4) scSigned.nd rfl (by first | exact .inl rfl | exact .inr rfl)) (pgs_cons (pg_name (i := 5) scSigned.nd rfl (by first | exact .inl rfl | exact .inr rfl)) pgs_nil))) (fun _ _ _ _ _ => pts_nil) (fun _ _ _ _ _ => pe_tup (pa_cons pe_str (pa_cons (pv 4) (pa_cons (pv 5) pa_nil))))) pa_nil))) pa_nil))))), ?_⟩
    have sl : (sqRules n).length ≤ 8 := by
      unfold sqRules
      rw [List.length_map, List.length_append, rowLots_len, colLots_len]
      omega
    unfold signP at k
    have len2 : ys.length ≤ 100 := by rw [p2.length]; exact l100
    have pln := p2.length
    refine ⟨_, rfl, n, rfl, n1, n4, fun v H1 s1 ⟨a, x, y, e, q, hx, hy⟩ => ?_⟩
    subst e
    refine ⟨a, _, rfl, sqt q, rfl, _, _, rfl, _, _, rfl, rfl, ?_⟩
    refine ⟨_, rfl, _, rfl, _, rfl, b, rfl, ⟨_, sqt (s1 _ _ q2)⟩, fun L hLn => ?_⟩
    refine lc_mapG (walk_tup (xs := ys)) hLn RuH (fun k h => h.kt k) (ps.map belowR) (by rw [List.length_map]; omega) (fun H' s => sqt (s _ _ (s1 _ _ q2))) (by omega) (fun i x2 H' H'' a2 ha s y2 C kk => ?_) (fun H' us s hA pA => ?_)
    · obtain ⟨rfl, hx2⟩ := y2
      obtain ⟨r, hr2, ir⟩ := paired_at p2 hx2
      rw [List.getElem?_map, hr2] at ha
      cases ha
      have l2 := two r (List.mem_of_getElem? hr2)
      obtain ⟨z, rfl, hz⟩ := ir.kt (kt_same (Same.tr s1 s))
      match r, l2, hz with
      | [i1, i2], _, hz =>
        refine ⟨z, _, rfl, sqt hz, rfl, _, _, rfl, _, _, rfl, rfl, rfl, _, rfl, _, rfl, (show 3 ≤ sizeLine by decide), fun T2 hT2 => kk _ _ (same_new hT2) ⟨T2, rfl, upd_same⟩⟩
    · refine ⟨L, us, rfl, .inl ⟨sql hA, fun T5 hT5 => ?_⟩⟩
      have s5 := same_new (o := .tup us) hT5
      have s6 := Same.tr s s5
      refine cat_rules (hy.kt (kt_same s6)) ⟨T5, us, rfl, upd_same, paired_mono (fun _ _ z => RuH.kt (kt_same s5) z) pA⟩ (by rw [List.length_map]; show (sqRules n).length + _ ≤ 1000; omega) fun w7 H7 s7 r7 => ⟨(show 2 ≤ sizeLine by decide), fun T8 hT8 => ?_⟩
      have s8 := same_new (o := .tup [x, w7]) hT8
      exact k _ _ (Same.tr s1 (Same.tr s6 (Same.tr s7 s8))) ⟨T8, x, w7, rfl, upd_same, RowsH.kt (kt_same (Same.tr s6 (Same.tr s7 s8))) hx, r7.kt (kt_same s8)⟩
end
end G9

set_option Elab.async false
set_option linter.all false
set_option maxRecDepth 100000
set_option maxHeartbeats 8000000
/-! comprehensions with a test; summed, painted -/
namespace G9
open PySem PySem.Spec PyProof.Rows L2 GX
theorem lc_filtG {α β : Type} {J : It} {n : Nat} {G : Hp → Prop} {Y : Nat → Hp → V → Hp → Prop} {g : TG} {tt : TT} {te : TE} {vs : List Nat} {σ : L2.St} {H1 : Hp} {D : Addr} {Qd : Hp → Prop} (w : Walk J n G Y) (hD : H1 D = none) (Rel : Hp → V → β → Prop) (st : ∀ {H H' : Hp} {v : V} {a : β}, Kt H H' → Rel H v a → Rel H' v a) (F : List α) (hF : F.length = n) (Pd : α → Bool) (fn : α → β) (hG : ∀ H', Same H1 H' → G H') (hn : n ≤ 100000)
    (turn : ∀ i x H' H'' a, F[i]? = some a → Same H1 H' → Y i H' x H'' → ∀ (C1 : V → Hp → Prop) (C0 : Hp → Prop), (∀ y H4, Same H' H4 → Pd a = true → Rel H4 y (fn a) → C1 y H4) → (∀ H4, Same H' H4 → Pd a = false → C0 H4) → g x (wipe σ vs) H'' fun σ2 H2 => wipe σ2 vs = wipe σ vs ∧ tt σ2 H2 fun b H3 => if b = true then te σ2 H3 C1 else C0 H3)
    (fin : ∀ H' ys, Same H1 H' → H' D = some (.lst ys) → Paired (Rel H') ys ((F.filter Pd).map fn) → Qd H') : LcB J g tt te vs σ H1 D Qd := by
  have sm : ∀ {B : Hp}, (∀ b o, b ≠ D → H1 b = some o → B b = some o) → Same H1 B := fun kp b o e => kp b o (fun z => by rw [z, hD] at e; cases e) e
  refine lc_it w (fun i H' => ∃ ys, H' D = some (.lst ys) ∧ Paired (Rel H') ys (((F.take i).filter Pd).map fn) ∧ ∀ b o, b ≠ D → H1 b = some o → H' b = some o) ⟨[], upd_same, .nil, fun b o hb e => by rw [upd_ne hb]; exact e⟩ (fun i H' _ h => ?_) (fun i x H' H'' hi h y => ?_) (fun H' h => ?_)
  · obtain ⟨_, _, _, kp⟩ := h
    exact hG _ (sm kp)
  · obtain ⟨ys, hA, pA, kp⟩ := h
    have ha : F[i]? = some (F[i]'(by omega)) := List.getElem?_eq_getElem _
    generalize F[i]'(by omega) = a at ha
    have tk : F.take (i + 1) = F.take i ++ [a] := by rw [List.take_add_one, ha]; rfl
    have al : ys.length ≤ 100000 := by
      rw [pA.length, List.length_map]
      exact Nat.le_trans (List.length_filter_le _ _) (by rw [List.length_take]; omega)
    refine turn i x H' H'' a ha (sm kp) y _ _ (fun v H4 s4 hp hv => ?_) (fun H4 s4 hp => ?_)
    · have hA4 := s4 _ _ hA
      refine ⟨ys, hA4, by rw [sizeLine_eq]; omega, ys ++ [v], upd_same, ?_, fun b o hb e => ?_⟩
      · rw [tk, List.filter_append]
        have : [a].filter Pd = [a] := by simp [hp]
        rw [this, List.map_append]
        exact paired_app (paired_mono (fun _ _ q => st (ktL hA4) (st (kt_same s4) q)) pA) (paired_one (st (ktL hA4) hv))
      · rw [upd_ne hb]
        exact s4 _ _ (kp b o hb e)
    · refine ⟨ys, s4 _ _ hA, ?_, fun b o hb e => s4 _ _ (kp b o hb e)⟩
      rw [tk, List.filter_append]
      have : [a].filter Pd = [] := by simp [hp]
      rw [this, List.append_nil]
      exact paired_mono (fun _ _ q => st (kt_same s4) q) pA
  · obtain ⟨ys, hA, pA, kp⟩ := h
    rw [← hF, List.take_length] at pA
    exact fin H' ys (sm kp) hA pA
/-- a lot and a number -/
def LotH (H : Hp) (v : V) (c : List Int × Int) : Prop := ∃ a x, v = .ref a ∧ H a = some (.tup [x, .int c.2]) ∧ IH H x c.1
theorem LotH.kt {H H' : Hp} {v : V} {c : List Int × Int} (k : Kt H H') (h : LotH H v c) : LotH H' v c := let ⟨a, x, e, q, i⟩ := h; ⟨a, x, e, k _ _ q, i.kt k⟩
def LotsH (H : Hp) (u : V) (ls : List (List Int × Int)) : Prop := ∃ a ys, u = .ref a ∧ H a = some (.tup ys) ∧ Paired (LotH H) ys ls
theorem LotsH.kt {H H' : Hp} {v : V} {c : List (List Int × Int)} (k : Kt H H') (h : LotsH H v c) : LotsH H' v c := let ⟨a, x, e, q, i⟩ := h; ⟨a, x, e, k _ _ q, paired_mono (fun _ _ => LotH.kt k) i⟩
def sumR (c : List Int × Int) : List Rul := [.unlike c.1, .sum c.1 c.2 c.2]
def sumP (h w m : Int) (ls : List (List Int × Int)) : Puz := ⟨List.replicate (h * w).toNat (fromTo 1 m), ls.flatMap sumR⟩
def bitDoms (h w : Int) : List (List Int) := List.replicate (h * w).toNat (fromTo 0 2)
def paintP (h w : Int) (rs cs : List (List Int)) : Puz := ⟨bitDoms h w, List.zipWith Rul.runs (rowLots h w ++ colLots h w) (rs ++ cs)⟩
def spSummed : Sp := fun vs H Q _ => ∃ g h w m u ls, vs = [g, .int m, u] ∧ GrH H g h w ∧ 1 ≤ m ∧ m ≤ 20 ∧ LotsH H u ls ∧ ls.length ≤ 100 ∧ ∀ v H', Same H H' → PzH H' v (sumP h w m ls) → Q v H'
def spPainted : Sp := fun vs H Q _ => ∃ g h w x y rs cs, vs = [g, x, y] ∧ GrH H g h w ∧ RowsH H x rs ∧ RowsH H y cs ∧ rs.length = h.toNat ∧ cs.length = w.toNat ∧ ∀ v H', Same H H' → PzH H' v (paintP h w rs cs) → Q v H'
section
variable {P : Program} {w : World} {K : PySem.W.Frag} {mg : Str → Option Value} {base : Heap} {f f1 f2 f3 : Addr} {fd fd1 fd2 fd3 : FuncData}
theorem ok_summed (B : Bl mg) (D : Df K mg "summed" sSummed ["grid", "most", "lots"] f fd) (D3 : Df K mg "_same_domains" sSameDomains ["grid", "low", "high"] f3 fd3) (G3 : FnOk P w K mg base CX0 2 f3 fd3 ["grid", "low", "high"] spDoms) : FnOk P w K mg base CX0 3 f fd ["grid", "most", "lots"] spSummed := by
  refine D.F.ok scSummed (fun vs H Q E h => ?_) (fun cdv A outer s H vs Q E hr h => ?_)
  · obtain ⟨g, h, w, m, u, ls, rfl, _⟩ := h
    rfl
  · obtain ⟨g, h, w, m, u, ls, rfl, hg, m1, m20, ⟨b, ys, rfl, q2, p2⟩, l100, k⟩ := h
    refine ⟨_, pss_cons (ps_set (i := 3) scSummed.nd rfl (by first | exact .inl rfl | exact .inr rfl) (pe_lst pa_nil))
      (pss_cons (ps_for PassesOwn.never rfl (pi_tup (pv 2)) (pg_tupK K (n := 2) rfl (pgs_cons (pg_name (i := 4) scSummed.nd rfl (by first | exact .inl rfl | exact .inr rfl)) (pgs_cons (pg_name (i := 5) scSummed.nd rfl (by first | exact .inl rfl | exact .inr rfl)) pgs_nil)))
        (pss_cons (ps_expr (pe_bm PySem.F.plainAttrs_list PySem.F.slot_list_append PySem.F.type_list_append mt_append (pv 3) (pa_cons (pe_tup (pa_cons pe_str (pa_cons (pv 4) pa_nil))) pa_nil)))
        (pss_one (ps_expr (pe_bm PySem.F.plainAttrs_list PySem.F.slot_list_append PySem.F.type_list_append mt_append (pv 3) (pa_cons (pe_tup (pa_cons pe_str (pa_cons (pv 4) (pa_cons (pv 5) (pa_cons (pv 5) pa_nil))))) pa_nil))))))
      (pss_one (ps_ret (pe_tup (pa_cons (pe_call G3 (hr.mono (by decide)) (by rfl) D3.g D3.F.kp D3.b .nil pass0 (pa_cons (pv 0) (pa_cons pe_int (pa_cons (pv 1) pa_nil)))) (pa_cons (pe_callTy (tupleOf K) (by rfl) B.tuple PyProof.Rows.boot_tuple (pa_cons (pv 3) pa_nil)) pa_nil)))))), ?_⟩
    refine ⟨by decide, fun L hL => ?_⟩
    have sm : ∀ {B : Hp}, (∀ b o, b ≠ L → H b = some o → B b = some o) → Same H B := fun kp b o e => kp b o (fun z => by rw [z, hL] at e; cases e) e
    have pln := p2.length
    refine ⟨_, rfl, b, rfl, ⟨_, sqt (same_new hL _ _ q2)⟩, ?_⟩
    refine for_it (walk_tup (xs := ys)) (fun i σ H' => ∃ (acc : List V) (o4 o5 : Option V), σ = [some g, some (.int m), some (.ref b), some (.ref L), o4, o5] ∧ H' L = some (.lst acc) ∧ Paired (RuH H') acc ((ls.take i).flatMap sumR) ∧ ∀ b o, b ≠ L → H b = some o → H' b = some o)
      ⟨[], none, none, rfl, upd_same, .nil, fun b o hb e => by rw [upd_ne hb]; exact e⟩ (fun i σ H' _ h => ?_) (fun i x σ H' H'' hi h y => ?_) (fun σ H' h => ?_)
    · obtain ⟨_, _, _, _, _, _, kp⟩ := h
      exact sqt (sm kp _ _ q2)
    · obtain ⟨acc, o4, o5, rfl, hA, pA, kp⟩ := h
      obtain ⟨rfl, hx⟩ := y
      obtain ⟨c, hc, z, x1, rfl, hz, ix⟩ := paired_at p2 hx
      have s0 := sm kp
      have al : acc.length ≤ 200 := by
        rw [pA.length]
        have := flat_len (b := 2) sumR (xs := ls.take i) fun _ _ => Nat.le_refl _
        rw [List.length_take] at this
        omega
      refine ⟨z, _, rfl, sqt (s0 _ _ hz), rfl, _, _, rfl, _, _, rfl, rfl, ?_⟩
      have tk : ls.take (i + 1) = ls.take i ++ [c] := by rw [List.take_add_one, hc]; rfl
      refine ⟨_, rfl, .inl ⟨rfl, _, sql hA⟩, _, rfl, (show 2 ≤ sizeLine by decide), fun T hT => ⟨L, acc, _, rfl, rfl, upd_at hT hA, by rw [sizeLine_eq]; omega, ?_⟩⟩
      have sT := same_new (o := .tup [.str "unlike", x1]) hT
      have nT : T ≠ L := (ne_of_none hA hT).symm
      have hA1 : upd (upd H'' T (.tup [.str "unlike", x1])) L (.lst (acc ++ [.ref T])) L = some (.lst (acc ++ [.ref T])) := upd_same
      have e1 : upd (upd H'' T (.tup [.str "unlike", x1])) L (.lst (acc ++ [.ref T])) T = some (.tup [.str "unlike", x1]) := by rw [upd_ne nT, upd_same]
      have k1 : Kt H'' (upd (upd H'' T (.tup [.str "unlike", x1])) L (.lst (acc ++ [.ref T]))) := Kt.trans (kt_same sT) (ktL (sT _ _ hA))
      have n1 : ∀ b o, b ≠ L → H'' b = some o → upd (upd H'' T (.tup [.str "unlike", x1])) L (.lst (acc ++ [.ref T])) b = some o := fun b o hb e => by rw [upd_ne hb]; exact sT _ _ e
      generalize upd (upd H'' T (.tup [.str "unlike", x1])) L (.lst (acc ++ [.ref T])) = H2 at *
      refine ⟨_, rfl, .inl ⟨rfl, _, sql hA1⟩, _, rfl, _, rfl, _, rfl, (show 4 ≤ sizeLine by decide), fun T2 hT2 => ⟨L, _, _, rfl, rfl, upd_at hT2 hA1, by rw [List.length_append, sizeLine_eq]; show acc.length + 1 < _; omega, _, _, _, rfl, upd_same, ?_, fun b o hb e => ?_⟩⟩
      · have s2 := same_new (o := .tup [.str "sum", x1, .int c.2, .int c.2]) hT2
        have nT2 : T2 ≠ L := (ne_of_none hA1 hT2).symm
        have k2 : Kt H2 (upd (upd H2 T2 (.tup [.str "sum", x1, .int c.2, .int c.2])) L (.lst (acc ++ [.ref T] ++ [.ref T2]))) := Kt.trans (kt_same s2) (ktL (s2 _ _ hA1))
        rw [tk, List.flatMap_append]
        have ixx := ix.kt (Kt.trans (kt_same s0) (Kt.trans k1 k2))
        have two : Paired (RuH (upd (upd H2 T2 (.tup [.str "sum", x1, .int c.2, .int c.2])) L (.lst (acc ++ [.ref T] ++ [.ref T2])))) ([.ref T] ++ [.ref T2]) ([c].flatMap sumR) := .cons ⟨T, x1, rfl, k2 _ _ e1, ixx⟩ (.cons ⟨T2, x1, rfl, by rw [upd_ne nT2, upd_same], ixx⟩ .nil)
        have key := paired_app (paired_mono (fun _ _ q => RuH.kt (Kt.trans k1 k2) q) pA) two
        rw [← List.append_assoc] at key
        exact key
      · rw [upd_ne hb]
        exact upd_at hT2 (n1 b o hb (kp b o hb e))
    · obtain ⟨acc, o4, o5, rfl, hA, pA, kp⟩ := h
      have s0 := sm kp
      rw [pln, List.take_length] at pA
      refine ⟨_, rfl, _, rfl, g, h, w, 1, m, rfl, hg.kt (kt_same s0), by decide, by decide, by omega, by omega, fun v4 H4 s4 r4 => ?_⟩
      rw [show m + 1 - 1 = m by omega] at r4
      refine ⟨_, rfl, L, acc, rfl, .inl ⟨sql (s4 _ _ hA), fun T5 hT5 => ⟨(show 2 ≤ sizeLine by decide), fun T6 hT6 => ?_⟩⟩⟩
      have s5 := same_new (o := .tup acc) hT5
      have s6 := Same.tr s5 (same_new (o := .tup [v4, .ref T5]) hT6)
      exact k _ _ (Same.tr s0 (Same.tr s4 s6)) ⟨T6, v4, .ref T5, rfl, upd_same, r4.kt (kt_same s6), T5, acc, rfl, upd_at hT6 upd_same, paired_mono (fun _ _ z => RuH.kt (kt_same (Same.tr s4 s6)) z) pA⟩
theorem ok_painted (B : Bl mg) (D : Df K mg "painted" sPainted ["grid", "rows", "columns"] f fd) (D1 : Df K mg "_row_lots" sRowLots ["grid"] f1 fd1) (G1 : FnOk P w K mg base CX0 3 f1 fd1 ["grid"] spRowLots) (D2 : Df K mg "_column_lots" sColumnLots ["grid"] f2 fd2) (G2 : FnOk P w K mg base CX0 3 f2 fd2 ["grid"] spColLots) (D3 : Df K mg "_same_domains" sSameDomains ["grid", "low", "high"] f3 fd3) (G3 : FnOk P w K mg base CX0 2 f3 fd3 ["grid", "low", "high"] spDoms) : FnOk P w K mg base CX0 4 f fd ["grid", "rows", "columns"] spPainted := by
  refine D.F.ok scPainted (fun vs H Q E h => ?_) (fun cdv A outer s H vs Q E hr h => ?_)
  · obtain ⟨g, h, w, x, y, rs, cs, rfl, _⟩ := h
    rfl
  · obtain ⟨g, h, w, x, y, rs, cs, rfl, hg, hx, hy, lx, ly, k⟩ := h
    refine ⟨_, pss_cons (ps_set (i := 3) scPainted.nd rfl (by first | exact .inl rfl | exact .inr rfl) (pe_op op_cat (pe_call G1 (hr.mono (by decide)) (by rfl) D1.g D1.F.kp D1.b .nil pass0 (pa_cons (pv 0) pa_nil)) (pe_call G2 (hr.mono (by decide)) (by rfl) D2.g D2.F.kp D2.b .nil pass0 (pa_cons (pv 0) pa_nil))))
      (pss_cons (ps_setLc (i := 4) (own := [("cells", 5), ("lengths", 6)]) rfl scPainted.nd rfl rfl (sw_true rfl rfl rfl (by decide +kernel)) (pi_zipL (by rfl) B.zip (pa_cons (pv 3) (pa_cons (pe_op (catA K) (pv 1) (pv 2)) pa_nil))) (blkOk_by (N := ["grid", "rows", "columns", "lots", "rules", "cells", "lengths"]) (sc := defScope sPainted) (by decide +kernel))
        (fun _ _ _ _ _ => pg_tupK K (n := 2) rfl (pgs_cons (pg_name (i := 5) scPainted.nd rfl (by first | exact .inl rfl | exact .inr rfl)) (pgs_cons (pg_name (i := 6) scPainted.nd rfl (by first | exact .inl rfl | exact .inr rfl)) pgs_nil))) (fun _ _ _ _ _ => pts_nil) (fun _ _ _ _ _ => pe_tup (pa_cons pe_str (pa_cons (pv 5) (pa_cons (pv 6) pa_nil)))))
      (pss_one (ps_ret (pe_tup (pa_cons (pe_call G3 (hr.mono (by decide)) (by rfl) D3.g D3.F.kp D3.b .nil pass0 (pa_cons (pv 0) (pa_cons pe_int (pa_cons pe_int pa_nil)))) (pa_cons (pe_callTy (tupleOf K) (by rfl) B.tuple PyProof.Rows.boot_tuple (pa_cons (pv 4) pa_nil)) pa_nil)))))), ?_⟩
    have le := hg.le
    have h1 := hg.2.1
    have w1 := hg.2.2.1
    refine ⟨_, rfl, g, h, w, rfl, hg, fun l1 H1 s1 ⟨_, ys1, e1, q1, p1⟩ => ?_⟩
    cases e1
    refine ⟨_, rfl, g, h, w, rfl, hg.kt (kt_same s1), fun l2 H2 s2 ⟨_, ys2, e2, q2, p2⟩ => ?_⟩
    cases e2
    have len1 : ys1.length = h.toNat := by rw [p1.length, rowLots_len]
    have len2 : ys2.length = w.toNat := by rw [p2.length, colLots_len]
    refine ⟨l1, l2, ys1, ys2, rfl, rfl, s2 _ _ q1, q2, by rw [sizeLine_eq]; omega, fun c hc => ?_⟩
    have sc := same_new (o := .lst (ys1 ++ ys2)) hc
    have hL : upd H2 c (.lst (ys1 ++ ys2)) c = some (.lst (ys1 ++ ys2)) := upd_same
    have pL : Paired (IH (upd H2 c (.lst (ys1 ++ ys2)))) (ys1 ++ ys2) (rowLots h w ++ colLots h w) := paired_app (paired_mono (fun _ _ z => IH.kt (kt_same (Same.tr s2 sc)) z) p1) (paired_mono (fun _ _ z => IH.kt (kt_same sc) z) p2)
    have s3 := Same.tr s1 (Same.tr s2 sc)
    have lenL : (ys1 ++ ys2).length = h.toNat + w.toNat := by rw [List.length_append]; omega
    unfold paintP at k
    have pln := pL.length
    generalize ys1 ++ ys2 = ys at *
    generalize rowLots h w ++ colLots h w = lots at *
    generalize upd H2 c (.lst ys) = H3 at *
    refine ⟨_, rfl, _, rfl, _, rfl, cat_rows (hx.kt (kt_same s3)) (hy.kt (kt_same s3)) (by omega) fun w4 H4 s4 ⟨b, zs, e4, q4, p4⟩ => ?_⟩
    subst e4
    have l4 := p4.length
    rw [List.length_append] at l4
    refine ⟨c, b, ys, zs, rfl, sql (s4 _ _ hL), sqt q4, fun L hLn => ?_⟩
    refine lc_mapG (walk_zipL (n := ys.length) (xs := ys) (ys := zs) (by omega)) hLn RuH (fun k h => h.kt k) (List.zipWith Rul.runs lots (rs ++ cs)) (by rw [List.length_zipWith, List.length_append]; omega) (fun H' s => ⟨sql (s _ _ (s4 _ _ hL)), sqt (s _ _ q4)⟩) (by omega) (fun i x2 H' H'' a2 ha s y2 C kk => ?_) (fun H' us s hA pA => ?_)
    · obtain ⟨T, u, v, rfl, nT, rfl, hu, hv⟩ := y2
      obtain ⟨r, hr2, ir⟩ := paired_at pL hu
      obtain ⟨r3, hr3, ir3⟩ := paired_at p4 hv
      have e : (List.zipWith Rul.runs lots (rs ++ cs))[i]? = some (.runs r r3) := by rw [List.getElem?_zipWith, hr2, hr3]
      rw [e] at ha
      cases ha
      have sT := same_new (o := .tup [u, v]) nT
      refine ⟨T, _, rfl, sqt upd_same, rfl, _, _, rfl, _, _, rfl, rfl, rfl, _, rfl, _, rfl, (show 3 ≤ sizeLine by decide), fun T2 hT2 => kk _ _ (Same.tr sT (same_new hT2)) ⟨T2, u, v, rfl, upd_same, ir.kt (kt_same (Same.tr s4 (Same.tr s (Same.tr sT (same_new hT2))))), ir3.kt (kt_same (Same.tr s (Same.tr sT (same_new hT2))))⟩⟩
    · refine ⟨_, rfl, g, h, w, 0, 1, rfl, hg.kt (kt_same (Same.tr s3 (Same.tr s4 s))), by decide, by decide, by decide, by decide, fun v5 H5 s5 r5 => ?_⟩
      refine ⟨_, rfl, L, us, rfl, .inl ⟨sql (s5 _ _ hA), fun T5 hT5 => ⟨(show 2 ≤ sizeLine by decide), fun T6 hT6 => ?_⟩⟩⟩
      have s7 := same_new (o := .tup us) hT5
      have s6 := Same.tr s7 (same_new (o := .tup [v5, .ref T5]) hT6)
      exact k _ _ (Same.tr s3 (Same.tr s4 (Same.tr s (Same.tr s5 s6)))) ⟨T6, v5, .ref T5, rfl, upd_same, r5.kt (kt_same s6), T5, us, rfl, upd_at hT6 upd_same, paired_mono (fun _ _ z => RuH.kt (kt_same (Same.tr s5 s6)) z) pA⟩
end
end G9

set_option Elab.async false
set_option linter.all false
set_option maxRecDepth 100000
set_option maxHeartbeats 8000000
/-! mined, roaded -/
namespace G9
open PySem PySem.Spec PyProof.Rows L2 GX
theorem inSeqK (K : PySem.W.Frag) {X : Cx} (h : X.K = K := by rfl) : OpR X (compareOp .In) (rIn K false) := h ▸ op_in_seq
def tiesP (h w : Int) : List (Int × Int) := (tiesL h w).map fun p => (p.getD 0 0, p.getD 1 0)
theorem ties_two (h w : Int) : (tiesP h w).map tie2 = tiesL h w := by
  unfold tiesP
  rw [List.map_map]
  refine (List.map_congr_left fun p hp => ?_).trans (List.map_id _)
  unfold tiesL at hp
  obtain ⟨i, _, hp⟩ := List.mem_flatMap.mp hp
  obtain ⟨j, _, rfl⟩ := List.mem_map.mp hp
  rfl
def cntR (l : List Int) (n : Int) : Rul := .count l [1] n n
def roadP (h w : Int) (rs cs : List Int) : Puz := ⟨bitDoms h w, List.zipWith cntR (rowLots h w ++ colLots h w) (rs ++ cs) ++ [.joined (allC h w) (tiesP h w) [1]]⟩
def freeL (ts : List (List Int)) : List Int := ts.map (·.getD 0 0)
def mineD (ts : List (List Int)) (c : Int) : List Int := if (freeL ts).any (· == c) = true then [0] else [0, 1]
def mineT (h w : Int) (t : List Int) : List Int × Int := (aboutL h w (t.getD 0 0), t.getD 1 0)
def mineB (c : List Int × Int) : Bool := decide (c.1 ≠ [])
def mineP (h w : Int) (ts : List (List Int)) : Puz := ⟨(allC h w).map (mineD ts), ((ts.map (mineT h w)).filter mineB).map fun c => cntR c.1 c.2⟩
def spRoaded : Sp := fun vs H Q _ => ∃ g h w x y rs cs, vs = [g, x, y] ∧ GrH H g h w ∧ IH H x rs ∧ IH H y cs ∧ rs.length = h.toNat ∧ cs.length = w.toNat ∧ ∀ v H', Same H H' → PzH H' v (roadP h w rs cs) → Q v H'
/-- a tuple of tuples of ints, its own object known or not -/
def RdRows (H : Hp) (u : V) (ts : List (List Int)) : Prop := ∃ a ys, u = .ref a ∧ Rd H a (.tup ys) ∧ Paired (IH H) ys ts
theorem rds {H H' : Hp} {a : Addr} {u : HO} (s : Same H H') (h : Rd H a u) : Rd H' a u := h.elim (fun e => .inl (s _ _ e)) fun ⟨o, e⟩ => .inr ⟨o, s _ _ e⟩
def spMined : Sp := fun vs H Q _ => ∃ g h w u ts, vs = [g, u] ∧ GrH H g h w ∧ RdRows H u ts ∧ (∀ t ∈ ts, t.length = 2) ∧ ts.length ≤ 100 ∧ ∀ v H', Same H H' → PzH H' v (mineP h w ts) → Q v H'
section
variable {P : Program} {w : World} {K : PySem.W.Frag} {mg : Str → Option Value} {base : Heap} {f f1 f2 f3 f4 f5 : Addr} {fd fd1 fd2 fd3 fd4 fd5 : FuncData}
theorem ok_roaded (B : Bl mg) (D : Df K mg "roaded" sRoaded ["grid", "rows", "columns"] f fd) (D1 : Df K mg "_row_lots" sRowLots ["grid"] f1 fd1) (G1 : FnOk P w K mg base CX0 3 f1 fd1 ["grid"] spRowLots) (D2 : Df K mg "_column_lots" sColumnLots ["grid"] f2 fd2) (G2 : FnOk P w K mg base CX0 3 f2 fd2 ["grid"] spColLots) (D3 : Df K mg "_same_domains" sSameDomains ["grid", "low", "high"] f3 fd3) (G3 : FnOk P w K mg base CX0 2 f3 fd3 ["grid", "low", "high"] spDoms) (D4 : Df K mg "_all_cells" sAllCells ["grid"] f4 fd4) (G4 : FnOk P w K mg base CX0 1 f4 fd4 ["grid"] spAllCells) (D5 : Df K mg "side_ties" sSideTies ["grid"] f5 fd5) (G5 : FnOk P w K mg base CX0 3 f5 fd5 ["grid"] spSideTies) : FnOk P w K mg base CX0 4 f fd ["grid", "rows", "columns"] spRoaded := by
  refine D.F.ok scRoaded (fun vs H Q E h => ?_) (fun cdv A outer s H vs Q E hr h => ?_)
  · obtain ⟨g, h, w, x, y, rs, cs, rfl, _⟩ := h
    rfl
  · obtain ⟨g, h, w, x, y, rs, cs, rfl, hg, hx, hy, lx, ly, k⟩ := h
    refine ⟨_, pss_cons (ps_set (i := 3) scRoaded.nd rfl (by first | exact .inl rfl | exact .inr rfl) (pe_op op_cat (pe_call G1 (hr.mono (by decide)) (by rfl) D1.g D1.F.kp D1.b .nil pass0 (pa_cons (pv 0) pa_nil)) (pe_call G2 (hr.mono (by decide)) (by rfl) D2.g D2.F.kp D2.b .nil pass0 (pa_cons (pv 0) pa_nil))))
      (pss_cons (ps_setLc (i := 4) (own := [("cells", 5), ("number", 6)]) rfl scRoaded.nd rfl rfl (sw_true rfl rfl rfl (by decide +kernel)) (pi_zipL (by rfl) B.zip (pa_cons (pv 3) (pa_cons (pe_op (catA K) (pv 1) (pv 2)) pa_nil))) (blkOk_by (N := ["grid", "rows", "columns", "lots", "counts", "cells", "number", "joined"]) (sc := defScope sRoaded) (by decide +kernel))
        (fun _ _ _ _ _ => pg_tupK K (n := 2) rfl (pgs_cons (pg_name (i := 5) scRoaded.nd rfl (by first | exact .inl rfl | exact .inr rfl)) (pgs_cons (pg_name (i := 6) scRoaded.nd rfl (by first | exact .inl rfl | exact .inr rfl)) pgs_nil))) (fun _ _ _ _ _ => pts_nil) (fun _ _ _ _ _ => pe_tup (pa_cons pe_str (pa_cons (pv 5) (pa_cons (pe_tup (pa_cons pe_int pa_nil)) (pa_cons (pv 6) (pa_cons (pv 6) pa_nil)))))))
      (pss_cons (ps_set (i := 7) scRoaded.nd rfl (by first | exact .inl rfl | exact .inr rfl) (pe_tup (pa_cons pe_str (pa_cons (pe_call G4 (hr.mono (by decide)) (by rfl) D4.g D4.F.kp D4.b .nil pass0 (pa_cons (pv 0) pa_nil)) (pa_cons (pe_call G5 (hr.mono (by decide)) (by rfl) D5.g D5.F.kp D5.b .nil pass0 (pa_cons (pv 0) pa_nil)) (pa_cons (pe_tup (pa_cons pe_int pa_nil)) pa_nil))))))
      (pss_one (ps_ret (pe_tup (pa_cons (pe_call G3 (hr.mono (by decide)) (by rfl) D3.g D3.F.kp D3.b .nil pass0 (pa_cons (pv 0) (pa_cons pe_int (pa_cons pe_int pa_nil)))) (pa_cons (pe_op (catA K) (pe_callTy (tupleOf K) (by rfl) B.tuple PyProof.Rows.boot_tuple (pa_cons (pv 4) pa_nil)) (pe_tup (pa_cons (pv 7) pa_nil))) pa_nil))))))), ?_⟩
    have le := hg.le
    have h1 := hg.2.1
    have w1 := hg.2.2.1
    refine ⟨_, rfl, g, h, w, rfl, hg, fun l1 H1 s1 ⟨_, ys1, e1, q1, p1⟩ => ?_⟩
    cases e1
    refine ⟨_, rfl, g, h, w, rfl, hg.kt (kt_same s1), fun l2 H2 s2 ⟨_, ys2, e2, q2, p2⟩ => ?_⟩
    cases e2
    have len1 : ys1.length = h.toNat := by rw [p1.length, rowLots_len]
    have len2 : ys2.length = w.toNat := by rw [p2.length, colLots_len]
    refine ⟨l1, l2, ys1, ys2, rfl, rfl, s2 _ _ q1, q2, by rw [sizeLine_eq]; omega, fun c hc => ?_⟩
    have sc := same_new (o := .lst (ys1 ++ ys2)) hc
    have hL : upd H2 c (.lst (ys1 ++ ys2)) c = some (.lst (ys1 ++ ys2)) := upd_same
    have pL : Paired (IH (upd H2 c (.lst (ys1 ++ ys2)))) (ys1 ++ ys2) (rowLots h w ++ colLots h w) := paired_app (paired_mono (fun _ _ z => IH.kt (kt_same (Same.tr s2 sc)) z) p1) (paired_mono (fun _ _ z => IH.kt (kt_same sc) z) p2)
    have s3 := Same.tr s1 (Same.tr s2 sc)
    have lenL : (ys1 ++ ys2).length = h.toNat + w.toNat := by rw [List.length_append]; omega
    unfold roadP at k
    have pln := pL.length
    generalize ys1 ++ ys2 = ys at *
    generalize rowLots h w ++ colLots h w = lots at *
    generalize upd H2 c (.lst ys) = H3 at *
    refine ⟨_, rfl, _, rfl, _, rfl, cat_two (hx.kt (kt_same s3)) (hy.kt (kt_same s3)) (by omega) fun w4 H4 s4 ⟨b, e4, q4⟩ => ?_⟩
    subst e4
    have l4 : (rs ++ cs).length = ys.length := by rw [List.length_append]; omega
    refine ⟨c, b, ys, _, rfl, sql (s4 _ _ hL), sqt q4, fun L hLn => ?_⟩
    refine lc_mapG (walk_zipL (n := ys.length) (xs := ys) (ys := (rs ++ cs).map V.int) (by rw [List.length_map]; omega)) hLn RuH (fun k h => h.kt k) (List.zipWith cntR lots (rs ++ cs)) (by rw [List.length_zipWith]; omega) (fun H' s => ⟨sql (s _ _ (s4 _ _ hL)), sqt (s _ _ q4)⟩) (by omega) (fun i x2 H' H'' a2 ha s y2 C kk => ?_) (fun H' us s hA pA => ?_)
    · obtain ⟨T, u, v, rfl, nT, rfl, hu, hv⟩ := y2
      obtain ⟨r, hr2, ir⟩ := paired_at pL hu
      obtain ⟨r3, hr3, rfl⟩ := at_ints hv
      have e : (List.zipWith cntR lots (rs ++ cs))[i]? = some (cntR r r3) := by rw [List.getElem?_zipWith, hr2, hr3]
      rw [e] at ha
      cases ha
      have sT := same_new (o := .tup [u, .int r3]) nT
      refine ⟨T, _, rfl, sqt upd_same, rfl, _, _, rfl, _, _, rfl, rfl, rfl, _, rfl, (show 1 ≤ sizeLine by decide), fun T1 hT1 => ⟨_, rfl, _, rfl, (show 5 ≤ sizeLine by decide), fun T2 hT2 => ?_⟩⟩
      have sT1 := same_new (o := .tup [.int 1]) hT1
      have sT2 := same_new (o := .tup [.str "count", u, .ref T1, .int r3, .int r3]) hT2
      exact kk _ _ (Same.tr sT (Same.tr sT1 sT2)) ⟨T2, u, .ref T1, rfl, upd_same, ir.kt (kt_same (Same.tr s4 (Same.tr s (Same.tr sT (Same.tr sT1 sT2))))), T1, rfl, upd_at hT2 upd_same⟩
    · refine ⟨_, rfl, g, h, w, rfl, hg.kt (kt_same (Same.tr s3 (Same.tr s4 s))), fun v5 H5 s5 r5 => ⟨_, rfl, g, h, w, rfl, hg.kt (kt_same (Same.tr s3 (Same.tr s4 (Same.tr s s5)))), fun v6 H6 s6 r6 => ⟨(show 1 ≤ sizeLine by decide), fun T7 hT7 => ⟨(show 4 ≤ sizeLine by decide), fun T8 hT8 => ?_⟩⟩⟩⟩
      have s7 := same_new (o := .tup [.int 1]) hT7
      have s8 := same_new (o := .tup [.str "joined", v5, v6, .ref T7]) hT8
      have rj : RuH (upd (upd H6 T7 (.tup [.int 1])) T8 (.tup [.str "joined", v5, v6, .ref T7])) (.ref T8) (.joined (allC h w) (tiesP h w) [1]) := ⟨T8, v5, v6, .ref T7, rfl, upd_same, r5.kt (kt_same (Same.tr s6 (Same.tr s7 s8))), by rw [ties_two]; exact r6.kt (kt_same (Same.tr s7 s8)), T7, rfl, upd_at hT8 upd_same⟩
      have s58 := Same.tr s5 (Same.tr s6 (Same.tr s7 s8))
      generalize upd (upd H6 T7 (.tup [.int 1])) T8 (.tup [.str "joined", v5, v6, .ref T7]) = H8 at *
      refine ⟨_, rfl, g, h, w, 0, 1, rfl, hg.kt (kt_same (Same.tr s3 (Same.tr s4 (Same.tr s s58)))), by decide, by decide, by decide, by decide, fun v9 H9 s9 r9 => ?_⟩
      refine ⟨_, rfl, L, us, rfl, .inl ⟨sql (s9 _ _ (s58 _ _ hA)), fun T5 hT5 => ⟨_, rfl, (show 1 ≤ sizeLine by decide), fun T6 hT6 => ?_⟩⟩⟩
      have t5 := same_new (o := .tup us) hT5
      have t6 := same_new (o := .tup [.ref T8]) hT6
      have t56 := Same.tr t5 t6
      refine cat_rules ⟨T5, us, rfl, upd_at hT6 upd_same, paired_mono (fun _ _ z => RuH.kt (kt_same (Same.tr s58 (Same.tr s9 t56))) z) pA⟩ ⟨T6, _, rfl, upd_same, paired_one (rj.kt (kt_same (Same.tr s9 t56)))⟩ (by rw [List.length_zipWith]; show _ + 1 ≤ 1000; omega) fun w7 H7 s7' r7 => ⟨(show 2 ≤ sizeLine by decide), fun T9 hT9 => ?_⟩
      have t9 := same_new (o := .tup [v9, w7]) hT9
      exact k _ _ (Same.tr s3 (Same.tr s4 (Same.tr s (Same.tr s58 (Same.tr s9 (Same.tr t56 (Same.tr s7' t9))))))) ⟨T9, v9, w7, rfl, upd_same, r9.kt (kt_same (Same.tr t56 (Same.tr s7' t9))), r7.kt (kt_same t9)⟩
theorem ok_mined (B : Bl mg) (D : Df K mg "mined" sMined ["grid", "told"] f fd) (D1 : Df K mg "_all_cells" sAllCells ["grid"] f1 fd1) (G1 : FnOk P w K mg base CX0 1 f1 fd1 ["grid"] spAllCells) (D2 : Df K mg "cells_about" sCellsAbout ["grid", "cell"] f2 fd2) (G2 : FnOk P w K mg base CX0 3 f2 fd2 ["grid", "cell"] spAbout) : FnOk P w K mg base CX0 4 f fd ["grid", "told"] spMined := by
  refine D.F.ok scMined (fun vs H Q E h => ?_) (fun cdv A outer s H vs Q E hr h => ?_)
  · obtain ⟨g, h, w, u, ts, rfl, _⟩ := h
    rfl
  · obtain ⟨g, h, w, u, ts, rfl, hg, ⟨a, ys, rfl, ha, pt⟩, two, l100, k⟩ := h
    refine ⟨_, pss_cons (ps_set (i := 2) scMined.nd rfl (by first | exact .inl rfl | exact .inr rfl) (pe_lc (own := [("cell", 3), ("_", 4)]) rfl scMined.nd (pi_tup (pv 1)) (blkOk_by (N := ["grid", "told", "free", "cell", "_", "domains", "lots", "number", "rules", "cells"]) (sc := defScope sMined) (by decide +kernel))
        (fun _ _ _ _ _ => pg_tupK K (n := 2) rfl (pgs_cons (pg_name (i := 3) scMined.nd rfl (by first | exact .inl rfl | exact .inr rfl)) (pgs_cons (pg_name (i := 4) scMined.nd rfl (by first | exact .inl rfl | exact .inr rfl)) pgs_nil))) (fun _ _ _ _ _ => pts_nil) (fun _ _ _ _ _ => pv 3)))
      (pss_cons (ps_setLc (i := 5) (own := [("cell", 3)]) rfl scMined.nd rfl rfl (sw_true rfl rfl rfl (by decide +kernel)) (pi_tup (pe_call G1 (hr.mono (by decide)) (by rfl) D1.g D1.F.kp D1.b .nil pass0 (pa_cons (pv 0) pa_nil))) (blkOk_by (N := ["grid", "told", "free", "cell", "_", "domains", "lots", "number", "rules", "cells"]) (sc := defScope sMined) (by decide +kernel))
        (fun _ _ _ _ _ => pg_name (i := 3) scMined.nd rfl (by first | exact .inl rfl | exact .inr rfl)) (fun _ _ _ _ _ => pts_nil) (fun _ _ _ _ _ => pe_ifExp (pt_cmpR (inSeqK K) (pv 3) (pv 2) (by rfl)) (pe_tup (pa_cons pe_int pa_nil)) (pe_tup (pa_cons pe_int (pa_cons pe_int pa_nil)))))
      (pss_cons (ps_setLc (i := 6) (own := [("cell", 3), ("number", 7)]) rfl scMined.nd rfl rfl (sw_true rfl rfl rfl (by decide +kernel)) (pi_tup (pv 1)) (blkOk_by (N := ["grid", "told", "free", "cell", "_", "domains", "lots", "number", "rules", "cells"]) (sc := defScope sMined) (by decide +kernel))
        (fun _ _ _ _ _ => pg_tupK K (n := 2) rfl (pgs_cons (pg_name (i := 3) scMined.nd rfl (by first | exact .inl rfl | exact .inr rfl)) (pgs_cons (pg_name (i := 7) scMined.nd rfl (by first | exact .inl rfl | exact .inr rfl)) pgs_nil))) (fun _ _ _ _ _ => pts_nil) (fun _ _ _ _ _ => pe_tup (pa_cons (pe_call G2 (hr.mono (by decide)) (by rfl) D2.g D2.F.kp D2.b .nil pass0 (pa_cons (pv 0) (pa_cons (pv 3) pa_nil))) (pa_cons (pv 7) pa_nil))))
      (pss_cons (ps_setLc (i := 8) (own := [("cells", 9), ("number", 7)]) rfl scMined.nd rfl rfl (sw_true rfl rfl rfl (by decide +kernel)) (pi_list (pv 6)) (blkOk_by (N := ["grid", "told", "free", "cell", "_", "domains", "lots", "number", "rules", "cells"]) (sc := defScope sMined) (by decide +kernel))
        (fun _ _ _ _ _ => pg_tupK K (n := 2) rfl (pgs_cons (pg_name (i := 9) scMined.nd rfl (by first | exact .inl rfl | exact .inr rfl)) (pgs_cons (pg_name (i := 7) scMined.nd rfl (by first | exact .inl rfl | exact .inr rfl)) pgs_nil))) (fun _ _ _ _ _ => pts_one (pt_cmpR op_gt (pe_callB (lenK K) (by rfl) B.len PySem.boot_len (pa_cons (pv 9) pa_nil)) pe_int (nomark _))) (fun _ _ _ _ _ => pe_tup (pa_cons pe_str (pa_cons (pv 9) (pa_cons (pe_tup (pa_cons pe_int pa_nil)) (pa_cons (pv 7) (pa_cons (pv 7) pa_nil)))))))
      (pss_one (ps_ret (pe_tup (pa_cons (pe_callTy (tupleOf K) (by rfl) B.tuple PyProof.Rows.boot_tuple (pa_cons (pv 5) pa_nil)) (pa_cons (pe_callTy (tupleOf K) (by rfl) B.tuple PyProof.Rows.boot_tuple (pa_cons (pv 8) pa_nil)) pa_nil)))))))), ?_⟩
    have pln := pt.length
    have hw16 := hg.2.2.2
    -- the cells told
    refine ⟨_, rfl, a, rfl, ⟨_, .inl ha⟩, fun L1 hL1 => ?_⟩
    refine lc_mapI (walk_tup (xs := ys)) hL1 (fun i => (freeL ts).getD i 0) (fun H' s => .inl (rds s ha)) (by omega) (fun i x H' H'' hi s y C kk => ?_) (fun H1 s1 hA1 => ?_)
    · obtain ⟨rfl, hx⟩ := y
      obtain ⟨r, hr2, ir⟩ := paired_at pt hx
      have l2 := two r (List.mem_of_getElem? hr2)
      obtain ⟨z, rfl, hz⟩ := ir.kt (kt_same s)
      match r, l2, hz, hr2 with
      | [i1, i2], _, hz, hr2 =>
        have e : (freeL ts).getD i 0 = i1 := by
          unfold freeL
          rw [List.getD_eq_getElem?_getD, List.getElem?_map, hr2]
          rfl
        refine ⟨z, _, rfl, sqt hz, rfl, _, _, rfl, _, _, rfl, rfl, rfl, _, rfl, ?_⟩
        rw [e] at kk
        exact kk _ (same_refl _)
    have fe : (List.range ys.length).map (fun i => (freeL ts).getD i 0) = freeL ts := by
      have fl : (freeL ts).length = ys.length := by unfold freeL; rw [List.length_map]; omega
      refine List.ext_getElem? fun j => ?_
      rw [List.getElem?_map]
      by_cases jl : j < ys.length
      · rw [List.getElem?_range jl, List.getElem?_eq_getElem (by omega)]
        simp [List.getD, List.getElem?_eq_getElem (show j < (freeL ts).length by omega)]
      · rw [List.getElem?_eq_none (by rw [List.length_range]; omega), List.getElem?_eq_none (by omega)]
        rfl
    rw [fe] at hA1
    -- the domains
    refine ⟨_, rfl, g, h, w, rfl, hg.kt (kt_same s1), fun v2 H2 s2 ⟨b2, e2, q2⟩ => ?_⟩
    subst e2
    have al := allC_len hw16
    refine ⟨b2, rfl, ⟨_, sqt q2⟩, fun L2 hL2 => ?_⟩
    refine lc_mapG (walk_tup (xs := (allC h w).map V.int)) hL2 IH (fun k h => h.kt k) ((allC h w).map (mineD ts)) (by rw [List.length_map, List.length_map]) (fun H' s => sqt (s _ _ q2)) (by rw [List.length_map]; omega) (fun i x H' H'' r0 hr0 s y C kk => ?_) (fun H3 ds s3 hA3 pA3 => ?_)
    · obtain ⟨rfl, hx⟩ := y
      obtain ⟨c, hc, rfl⟩ := at_ints hx
      rw [List.getElem?_map, hc] at hr0
      cases hr0
      refine ⟨rfl, _, rfl, _, rfl, L1, _, rfl, .inl (sql (Same.tr s2 s _ _ hA1)), rfl, by rw [List.all_map]; simp [flatV], ?_⟩
      have iv : inV (V.int c) ((freeL ts).map V.int) = (freeL ts).any (· == c) := by
        unfold inV
        rw [List.any_map]
        rfl
      refine ⟨_, rfl, ?_⟩
      rw [if_neg (by decide), iv]
      unfold mineD at kk
      by_cases z : (freeL ts).any (· == c) = true
      · rw [if_pos z] at kk
        refine ifT z ⟨(show 1 ≤ sizeLine by decide), fun T hT => kk _ _ (same_new hT) ⟨T, rfl, upd_same⟩⟩
      · rw [if_neg z] at kk
        refine ifF (Bool.eq_false_iff.mpr z) ⟨(show 2 ≤ sizeLine by decide), fun T hT => kk _ _ (same_new hT) ⟨T, rfl, upd_same⟩⟩
    -- the lots
    have s13 := Same.tr s1 (Same.tr s2 s3)
    refine ⟨_, rfl, a, rfl, ⟨_, .inl (rds s13 ha)⟩, fun L4 hL4 => ?_⟩
    refine lc_mapG (walk_tup (xs := ys)) hL4 LotH (fun k h => h.kt k) (ts.map (mineT h w)) (by rw [List.length_map]; omega) (fun H' s => .inl (rds s (rds s13 ha))) (by omega) (fun i x H' H'' r0 hr0 s y C kk => ?_) (fun H4 us s4 hA4 pA4 => ?_)
    · obtain ⟨rfl, hx⟩ := y
      obtain ⟨r, hr2, ir⟩ := paired_at pt hx
      rw [List.getElem?_map, hr2] at hr0
      cases hr0
      have l2 := two r (List.mem_of_getElem? hr2)
      obtain ⟨z, rfl, hz⟩ := ir.kt (kt_same (Same.tr s13 s))
      match r, l2, hz, hr2 with
      | [i1, i2], _, hz, hr2 =>
        refine ⟨z, _, rfl, sqt hz, rfl, _, _, rfl, _, _, rfl, rfl, rfl, _, rfl, _, rfl, g, h, w, i1, rfl, hg.kt (kt_same (Same.tr s13 s)), fun v5 H5 s5 r5 => ⟨_, rfl, (show 2 ≤ sizeLine by decide), fun T hT => ?_⟩⟩
        exact kk _ _ (Same.tr s5 (same_new hT)) ⟨T, v5, rfl, upd_same, r5.kt (kt_same (same_new hT))⟩
    -- the rules
    have lus : us.length = ts.length := by rw [pA4.length, List.length_map]
    refine ⟨_, rfl, L4, rfl, ⟨_, sql hA4⟩, fun L5 hL5 => ?_⟩
    refine lc_filtG (walk_list (xs := us)) hL5 RuH (fun k h => h.kt k) (ts.map (mineT h w)) (by rw [List.length_map]; omega) mineB (fun c => cntR c.1 c.2) (fun H' s => sql (s _ _ hA4)) (by omega) (fun i x H' H'' c hc s y C1 C0 kk k0 => ?_) (fun H5 qs s5 hA5 pA5 => ?_)
    · obtain ⟨rfl, hx⟩ := y
      obtain ⟨c', hc', z, x1, rfl, hz, ix⟩ := paired_at pA4 hx
      rw [hc] at hc'
      cases hc'
      obtain ⟨q1, rfl, hq1⟩ := ix.kt (kt_same s)
      refine ⟨z, _, rfl, sqt (s _ _ hz), rfl, _, _, rfl, _, _, rfl, rfl, rfl, _, rfl, q1, _, rfl, .inr (sqt hq1), ?_⟩
      have dl : decide ((0 : Int) < ((c.1.map V.int).length : Int)) = mineB c := by
        unfold mineB
        rw [List.length_map]
        cases c.1 with
        | nil => rfl
        | cons b r =>
          rw [decide_eq_true (show (0 : Int) < ((b :: r).length : Int) by rw [List.length_cons]; omega), decide_eq_true (by simp)]
      refine ⟨_, _, rfl, rfl, _, rfl, ?_⟩
      rw [dl]
      by_cases zb : mineB c = true
      · refine ifT zb ⟨_, rfl, (show 1 ≤ sizeLine by decide), fun T1 hT1 => ⟨_, rfl, _, rfl, (show 5 ≤ sizeLine by decide), fun T2 hT2 => ?_⟩⟩
        have t1 := same_new (o := .tup [.int 1]) hT1
        have t2 := same_new (o := .tup [.str "count", .ref q1, .ref T1, .int c.2, .int c.2]) hT2
        exact kk _ _ (Same.tr t1 t2) zb ⟨T2, .ref q1, .ref T1, rfl, upd_same, ⟨q1, rfl, Same.tr t1 t2 _ _ hq1⟩, T1, rfl, t2 _ _ upd_same⟩
      · exact ifF (Bool.eq_false_iff.mpr zb) (k0 _ (same_refl _) (Bool.eq_false_iff.mpr zb))
    have s135 := Same.tr s13 (Same.tr s4 s5)
    refine ⟨_, rfl, L2, ds, rfl, .inl ⟨sql (s5 _ _ (s4 _ _ hA3)), fun T6 hT6 => ⟨_, rfl, L5, qs, rfl, .inl ⟨sql (same_new hT6 _ _ hA5), fun T7 hT7 => ⟨(show 2 ≤ sizeLine by decide), fun T8 hT8 => ?_⟩⟩⟩⟩⟩
    have t6 := same_new (o := .tup ds) hT6
    have t7 := same_new (o := .tup qs) hT7
    have t8 := same_new (o := .tup [.ref T6, .ref T7]) hT8
    have t78 := Same.tr t7 t8
    exact k _ _ (Same.tr s135 (Same.tr t6 t78)) ⟨T8, .ref T6, .ref T7, rfl, upd_same, ⟨T6, ds, rfl, t78 _ _ upd_same, paired_mono (fun _ _ z => IH.kt (kt_same (Same.tr s4 (Same.tr s5 (Same.tr t6 t78)))) z) pA3⟩, T7, qs, rfl, t8 _ _ upd_same, paired_mono (fun _ _ z => RuH.kt (kt_same (Same.tr t6 t78)) z) pA5⟩
end
end G9

set_option Elab.async false
set_option linter.all false
set_option maxRecDepth 100000
set_option maxHeartbeats 8000000
/-! the law's lines, the cells near, ties -/
namespace G9
open PySem PySem.Spec PyProof.Rows L2 GX
theorem none_back {H H' : Hp} {b : Addr} (s : Same H H') (h : H' b = none) : H b = none := by
  cases e : H b with
  | none => rfl
  | some o => rw [s _ _ e] at h; cases h
def spLines : Sp := fun vs H Q _ => ∃ g h w, vs = [g] ∧ GrH H g h w ∧ ∀ T l1 l2 H', H l1 = none → H l2 = none → Same H H' → H' T = some (.tup [.ref l1, .ref l2]) → LRows H' (.ref l1) (rowLots h w) → LRows H' (.ref l2) (colLots h w) → Q (.ref T) H'
def nearB (w c : Int) (k : Bool) (j : Int) : Bool := decide (j ≠ c) && (decide (max (gapD w j c) (gapO w j c) < 2) && (k || decide (gapD w j c + gapO w j c < 2)))
def nearL (h w c : Int) (k : Bool) : List Int := (allC h w).filter (nearB w c k)
def spNear : Sp := fun vs H Q _ => ∃ g h w c k, vs = [g, .int c, .bl k] ∧ GrH H g h w ∧ ∀ l H', Same H H' → H l = none → H' l = some (.lst ((nearL h w c k).map V.int)) → Q (.ref l) H'
section
variable {P : Program} {w : World} {K : PySem.W.Frag} {mg : Str → Option Value} {base : Heap} {f f1 f2 f3 : Addr} {fd fd1 fd2 fd3 : FuncData}
theorem ok_lines (B : Bl mg) (D : Df K mg "_law_lines" sLLines ["_law_grid"] f fd) : FnOk P w K mg base CX0 1 f fd ["_law_grid"] spLines := by
  refine D.F.ok scLLines (fun vs H Q E h => ?_) (fun cdv A outer s H vs Q E hr h => ?_)
  · obtain ⟨g, h, w, rfl, _⟩ := h
    rfl
  · obtain ⟨g, h, w, rfl, hg, k⟩ := h
    refine ⟨_, pss_cons (ps_asg (pv 0) (pg_tupK K (n := 2) rfl (pgs_cons (pg_name (i := 1) scLLines.nd rfl (by first | exact .inl rfl | exact .inr rfl)) (pgs_cons (pg_name (i := 2) scLLines.nd rfl (by first | exact .inl rfl | exact .inr rfl)) pgs_nil))))
      (pss_cons (ps_setLc (i := 3) (own := [("_law_r", 5)]) rfl scLLines.nd rfl rfl (sw_true rfl rfl rfl (by decide +kernel)) (pi_range1 (by rfl) B.range (pa_cons (pv 1) pa_nil)) (blkOk_by (N := ["_law_grid", "_law_tall", "_law_wide", "_law_rows", "_law_c", "_law_r"]) (sc := defScope sLLines) (by decide +kernel))
        (fun _ _ _ _ _ => pg_name (i := 5) scLLines.nd rfl (by first | exact .inl rfl | exact .inr rfl)) (fun _ _ _ _ _ => pts_nil) (fun _ _ _ _ _ => pe_callTy (tupleOf K) (by rfl) B.tuple PyProof.Rows.boot_tuple (pa_cons (pe_lc (own := [("_law_c", 4)]) rfl scLLines.nd (pi_range1 (by rfl) B.range (pa_cons (pv 2) pa_nil)) (blkOk_by (N := ["_law_grid", "_law_tall", "_law_wide", "_law_rows", "_law_c", "_law_r"]) (by rfl))
          (fun _ _ _ _ _ => pg_name (i := 4) scLLines.nd rfl (by first | exact .inl rfl | exact .inr rfl)) (fun _ _ _ _ _ => pts_nil) (fun _ _ _ _ _ => pe_op op_add (pe_op op_mul (pv 5) (pv 2)) (pv 4))) pa_nil)))
      (pss_one (ps_ret (pe_tup (pa_cons (pv 3) (pa_cons (pe_lc (own := [("_law_c", 4)]) rfl scLLines.nd (pi_range1 (by rfl) B.range (pa_cons (pv 2) pa_nil)) (blkOk_by (N := ["_law_grid", "_law_tall", "_law_wide", "_law_rows", "_law_c", "_law_r"]) (sc := defScope sLLines) (by decide +kernel))
        (fun _ _ _ _ _ => pg_name (i := 4) scLLines.nd rfl (by first | exact .inl rfl | exact .inr rfl)) (fun _ _ _ _ _ => pts_nil) (fun _ _ _ _ _ => pe_callTy (tupleOf K) (by rfl) B.tuple PyProof.Rows.boot_tuple (pa_cons (pe_lc (own := [("_law_r", 5)]) rfl scLLines.nd (pi_range1 (by rfl) B.range (pa_cons (pv 1) pa_nil)) (blkOk_by (N := ["_law_grid", "_law_tall", "_law_wide", "_law_rows", "_law_c", "_law_r"]) (by rfl))
          (fun _ _ _ _ _ => pg_name (i := 5) scLLines.nd rfl (by first | exact .inl rfl | exact .inr rfl)) (fun _ _ _ _ _ => pts_nil) (fun _ _ _ _ _ => pe_op op_add (pe_op op_mul (pv 5) (pv 2)) (pv 4))) pa_nil))) pa_nil)))))), ?_⟩
    have le := hg.le
    obtain ⟨⟨a, rfl, ha⟩, h1, w1, hw⟩ := id hg
    refine ⟨_, rfl, a, _, rfl, sqt ha, rfl, _, _, rfl, _, _, rfl, rfl, ?_⟩
    refine ⟨_, rfl, _, rfl, by omega, by omega, fun L1 hL1 => ?_⟩
    refine lc_mapR (walk_range (lo := 0) (n := h.toNat)) hL1 (fun r => rowC w ((r : Nat) : Int)) (fun _ _ => trivial) (by omega) (fun i x H' H'' hi s y C kk => ?_) (fun H2 ys s2 hA2 pA2 => ?_)
    · obtain ⟨rfl, rfl⟩ := y
      refine ⟨rfl, _, rfl, _, rfl, by omega, by omega, fun L2 hL2 => ?_⟩
      refine lc_mapI (walk_range (lo := 0) (n := w.toNat)) hL2 (fun c => ((i : Nat) : Int) * w + ((c : Nat) : Int)) (fun _ _ => trivial) (by omega) (fun j x H' H3 hi3 s3 y C3 k3 => ?_) (fun H3 s3 hA3 => ?_)
      · obtain ⟨rfl, rfl⟩ := y
        refine ⟨rfl, _, rfl, _, rfl, _, _, rfl, rfl, .inr ⟨by omega, by omega⟩, _, rfl, _, _, rfl, rfl, ?_⟩
        rw [Int.zero_add, Int.zero_add]
        exact k3 _ (same_refl _)
      · refine ⟨L2, _, rfl, .inl ⟨sql hA3, fun T hT => kk _ _ (Same.tr s3 (same_new hT)) ⟨T, rfl, upd_same⟩⟩⟩
    refine ⟨_, rfl, _, rfl, _, rfl, by omega, by omega, fun L3 hL3 => ?_⟩
    refine lc_mapR (walk_range (lo := 0) (n := w.toNat)) hL3 (fun c => colC h w ((c : Nat) : Int)) (fun _ _ => trivial) (by omega) (fun i x H' H'' hi s y C kk => ?_) (fun H4 zs s4 hA4 pA4 => ?_)
    · obtain ⟨rfl, rfl⟩ := y
      refine ⟨rfl, _, rfl, _, rfl, by omega, by omega, fun L2 hL2 => ?_⟩
      refine lc_mapI (walk_range (lo := 0) (n := h.toNat)) hL2 (fun r => ((r : Nat) : Int) * w + ((i : Nat) : Int)) (fun _ _ => trivial) (by omega) (fun j x H' H3 hi3 s3 y C3 k3 => ?_) (fun H3 s3 hA3 => ?_)
      · obtain ⟨rfl, rfl⟩ := y
        refine ⟨rfl, _, rfl, _, rfl, _, _, rfl, rfl, .inr ⟨by omega, by omega⟩, _, rfl, _, _, rfl, rfl, ?_⟩
        rw [Int.zero_add, Int.zero_add]
        exact k3 _ (same_refl _)
      · refine ⟨L2, _, rfl, .inl ⟨sql hA3, fun T hT => kk _ _ (Same.tr s3 (same_new hT)) ⟨T, rfl, upd_same⟩⟩⟩
    refine ⟨(show 2 ≤ sizeLine by decide), fun T hT => ?_⟩
    have sT := same_new (o := .tup [.ref L1, .ref L3]) hT
    exact k T L1 L3 _ hL1 (none_back s2 hL3) (Same.tr s2 (Same.tr s4 sT)) upd_same ⟨L1, ys, rfl, Same.tr s4 sT _ _ hA2, paired_mono (fun _ _ z => IH.kt (kt_same (Same.tr s4 sT)) z) pA2⟩ ⟨L3, zs, rfl, sT _ _ hA4, paired_mono (fun _ _ z => IH.kt (kt_same sT) z) pA4⟩
end
end G9

set_option Elab.async false
set_option linter.all false
set_option maxRecDepth 100000
set_option maxHeartbeats 8000000
/-! the law's cells near, ties, rules -/
namespace G9
open PySem PySem.Spec PyProof.Rows L2 GX
section
variable {P : Program} {w : World} {K : PySem.W.Frag} {mg : Str → Option Value} {base : Heap} {f f1 f2 f3 : Addr} {fd fd1 fd2 fd3 : FuncData}
theorem ok_near (B : Bl mg) (D : Df K mg "_law_near" sLNear ["_law_grid", "_law_cell", "_law_is_corner"] f fd) : FnOk P w K mg base CX0 1 f fd ["_law_grid", "_law_cell", "_law_is_corner"] spNear := by
  refine D.F.ok scLNear (fun vs H Q E h => ?_) (fun cdv A outer s H vs Q E hr h => ?_)
  · obtain ⟨g, h, w, c, k, rfl, _⟩ := h
    rfl
  · obtain ⟨g, h, w, c, kb, rfl, hg, k⟩ := h
    refine ⟨_, pss_cons (ps_par (i := 3) (j := 4) (by rfl) scLNear.nd rfl rfl (by decide) rfl rfl (pa_cons (pe_ix ix_tup (pv 0) pe_int (fun _ _ => rfl)) (pa_cons (pe_lst pa_nil) pa_nil)) (by rfl))
      (pss_cons (ps_for PassesOwn.never rfl (pi_range1 (by rfl) B.range (pa_cons (pe_op op_mul (pe_ix ix_tup (pv 0) pe_int (fun _ _ => rfl)) (pv 3)) pa_nil)) (pg_name (i := 5) scLNear.nd rfl (by first | exact .inl rfl | exact .inr rfl))
        (pss_cons (ps_par (i := 6) (j := 7) (by rfl) scLNear.nd rfl rfl (by decide) rfl rfl (pa_cons (pe_callB call_abs (by rfl) B.abs PyProof.Rows.boot_abs (pa_cons (pe_op op_sub (pe_op op_fdiv (pv 5) (pv 3)) (pe_op op_fdiv (pv 1) (pv 3))) pa_nil)) (pa_cons (pe_callB call_abs (by rfl) B.abs PyProof.Rows.boot_abs (pa_cons (pe_op op_sub (pe_op op_mod (pe_callTy call_int1 (by rfl) B.int PyProof.Rows.boot_int (pa_cons (pv 5) pa_nil)) (pv 3)) (pe_op op_mod (pe_callTy call_int1 (by rfl) B.int PyProof.Rows.boot_int (pa_cons (pv 1) pa_nil)) (pv 3))) pa_nil)) pa_nil)) (by rfl))
        (pss_one (ps_if (pw_and (pt_cmpR op_ne (pv 5) (pv 1) (nomark _)) (pw_and (pt_cmpR op_lt (pe_callB (call_max2 rfl) (by rfl) B.max PyProof.Rows.boot_max (pa_cons (pv 6) (pa_cons (pv 7) pa_nil))) pe_int (nomark _)) (pw_and1 (pw_or (pt_val (pv 2)) (pw_or1 (pt_cmpR op_lt (pe_op op_add (pv 6) (pv 7)) pe_int (nomark _)))).pt))).pt
          (pss_one (ps_expr (pe_bm PySem.F.plainAttrs_list PySem.F.slot_list_append PySem.F.type_list_append mt_append (pv 4) (pa_cons (pv 5) pa_nil)))) pss_nil))))
      (pss_one (ps_ret (pv 4)))), ?_⟩
    have le := hg.le
    obtain ⟨⟨a, rfl, ha⟩, h1, w1, hw⟩ := id hg
    have n0 : 0 ≤ h * w := Int.mul_nonneg (by omega) (by omega)
    refine ⟨_, rfl, a, _, 1, _, rfl, rfl, sqt ha, rfl, by decide, fun L hL => ⟨_, _, rfl, ?_⟩⟩
    have sm : ∀ {B : Hp}, (∀ b o, b ≠ L → H b = some o → B b = some o) → Same H B := fun kp b o e => kp b o (fun z => by rw [z, hL] at e; cases e) e
    refine ⟨_, rfl, a, _, 0, _, rfl, rfl, sqt (same_new hL _ _ ha), rfl, _, rfl, _, _, rfl, rfl, .inr ⟨by omega, by omega⟩, _, rfl, by omega, by omega, ?_⟩
    refine for_it (walk_range (lo := 0) (n := (h * w).toNat)) (fun i σ H' => ∃ (o5 o6 o7 : Option V), σ = [some (.ref a), some (.int c), some (.bl kb), some (.int w), some (.ref L), o5, o6, o7] ∧ H' L = some (.lst ((((allC h w).take i).filter (nearB w c kb)).map V.int)) ∧ ∀ b o, b ≠ L → H b = some o → H' b = some o)
      ⟨none, none, none, rfl, upd_same, fun b o hb e => by rw [upd_ne hb]; exact e⟩ (fun _ _ _ _ _ => trivial) (fun i x σ H' H'' hi h y => ?_) (fun σ H' h => ?_)
    · obtain ⟨o5, o6, o7, rfl, hA, kp⟩ := h
      obtain ⟨rfl, rfl⟩ := y
      have ab : ∀ x : Int, (if x < 0 then -x else x) = ((x.natAbs : Nat) : Int) := fun x => by split <;> omega
      have ci : (allC h w)[i]? = some ((i : Nat) : Int) := by
        unfold allC nI
        rw [List.getElem?_map, List.getElem?_range hi]
        rfl
      have tk : (allC h w).take (i + 1) = (allC h w).take i ++ [((i : Nat) : Int)] := by rw [List.take_add_one, ci]; rfl
      have wp : 0 < w ∧ w < 1073741824 := by omega
      show gName 5 (V.int (0 + ((i : Nat) : Int))) _ _ _
      rw [Int.zero_add]
      generalize ((i : Nat) : Int) = j at *
      refine ⟨_, rfl, _, rfl, _, _, rfl, rfl, wp, _, rfl, _, rfl, _, _, rfl, rfl, wp, _, _, rfl, rfl, _, rfl, _, rfl, .inl ⟨_, rfl, _, rfl, _, _, rfl, rfl, wp.1, _, rfl, .inl ⟨_, rfl, _, rfl, _, _, rfl, rfl, wp.1, _, _, rfl, rfl, _, rfl, _, _, rfl, ?_⟩⟩⟩
      rw [ab, ab]
      rw [show (((j / w - c / w).natAbs : Nat) : Int) = gapD w j c from rfl, show (((j % w - c % w).natAbs : Nat) : Int) = gapO w j c from rfl]
      have yes : nearB w c kb j = true → (((allC h w).take (i + 1)).filter (nearB w c kb)).map V.int = (((allC h w).take i).filter (nearB w c kb)).map V.int ++ [V.int j] := fun g => by
        rw [tk, List.filter_append]
        have : [j].filter (nearB w c kb) = [j] := by simp [g]
        rw [this, List.map_append]
        rfl
      have no : nearB w c kb j = false → (((allC h w).take (i + 1)).filter (nearB w c kb)).map V.int = (((allC h w).take i).filter (nearB w c kb)).map V.int := fun g => by
        rw [tk, List.filter_append]
        have : [j].filter (nearB w c kb) = [] := by simp [g]
        rw [this, List.append_nil]
      have al : ((((allC h w).take i).filter (nearB w c kb)).map V.int).length ≤ 16 := by
        rw [List.length_map]
        exact Nat.le_trans (List.length_filter_le _ _) (by rw [List.length_take]; have := allC_len hw; omega)
      refine ⟨_, rfl, _, rfl, rfl, _, rfl, ?_⟩
      by_cases g1 : j = c
      · exact ifF (by rw [g1]; simp) (ifF rfl ⟨_, _, _, rfl, by rw [no (by simp [nearB, g1])]; exact hA, kp⟩)
      refine ifT (by simp [g1]) ⟨_, rfl, _, rfl, _, _, rfl, _, _, rfl, rfl, _, rfl, ?_⟩
      have mx : (if gapO w j c > gapD w j c then gapO w j c else gapD w j c) = max (gapD w j c) (gapO w j c) := by split <;> omega
      rw [mx]
      by_cases g2 : max (gapD w j c) (gapO w j c) < 2
      · refine ifT (decide_eq_true g2) ⟨_, rfl, _, rfl, ?_⟩
        have g2' : gapD w j c < 2 ∧ gapO w j c < 2 := by omega
        cases kb with
        | true => exact ifT rfl (ifT rfl ⟨_, rfl, .inl ⟨rfl, _, sql hA⟩, _, rfl, L, _, _, rfl, rfl, hA, by rw [sizeLine_eq]; omega, _, _, _, rfl, by rw [upd_same, yes (by simp [nearB, g1, g2', g2])], fun b o hb e => by rw [upd_ne hb]; exact kp b o hb e⟩)
        | false =>
          refine ifF rfl ⟨_, rfl, _, rfl, _, _, rfl, rfl, _, _, rfl, rfl, _, rfl, ?_⟩
          by_cases g3 : gapD w j c + gapO w j c < 2
          · exact ifT (decide_eq_true g3) ⟨_, rfl, .inl ⟨rfl, _, sql hA⟩, _, rfl, L, _, _, rfl, rfl, hA, by rw [sizeLine_eq]; omega, _, _, _, rfl, by rw [upd_same, yes (by simp [nearB, g1, g2', g2, g3])], fun b o hb e => by rw [upd_ne hb]; exact kp b o hb e⟩
          · exact ifF (decide_eq_false g3) ⟨_, _, _, rfl, by rw [no (by simp [nearB, g3])]; exact hA, kp⟩
      · exact ifF (decide_eq_false g2) (ifF rfl ⟨_, _, _, rfl, by rw [no (by simp [nearB, g2])]; exact hA, kp⟩)
    · obtain ⟨o5, o6, o7, rfl, hA, kp⟩ := h
      refine ⟨_, rfl, k L H' (sm kp) hL ?_⟩
      have : (allC h w).length = (h * w).toNat := by unfold allC nI; rw [List.length_map, List.length_range]
      rw [← this, List.take_length] at hA
      exact hA
end
end G9

set_option Elab.async false
set_option linter.all false
set_option maxRecDepth 100000
set_option maxHeartbeats 8000000
/-! the law's ties, rules of lots, grids drawn -/
namespace G9
open PySem PySem.Spec PyProof.Rows L2 GX
def lTies (h w : Int) : List (List Int) := (allC h w).flatMap fun i => ((nearL h w i false).filter fun j => decide (i < j)).map fun j => [i, j]
def spLTies : Sp := fun vs H Q _ => ∃ g h w, vs = [g] ∧ GrH H g h w ∧ ∀ v H', Same H H' → RowsH H' v (lTies h w) → Q v H'
def spUnlike : Sp := fun vs H Q _ => ∃ l rows, vs = [.ref l] ∧ LRows H (.ref l) rows ∧ rows.length ≤ 1000 ∧ ∀ v H', Same H H' → RusH H' v (rows.map .unlike) → Q v H'
def spDrawGrid : Sp := fun vs H Q _ => ∃ (d cs : Addr), vs = [.ref d, .int 16] ∧ SrcAt H d cs ∧ ∀ v H' h w, GrH H' v h w → SrcAt H' d cs → Rn d cs H H' → Q v H'
theorem gap_zero {w i j : Int} (a : gapD w i j = 0) (b : gapO w i j = 0) : i = j := by
  unfold gapD at a
  unfold gapO at b
  have e1 := Int.mul_ediv_add_emod i w
  have e2 := Int.mul_ediv_add_emod j w
  have a' : i / w = j / w := by omega
  have b' : i % w = j % w := by omega
  rw [← e1, ← e2, a', b']
theorem gap_sym (w i j : Int) : gapD w i j = gapD w j i ∧ gapO w i j = gapO w j i := by
  unfold gapD gapO
  omega
theorem gap_self (w i : Int) : gapD w i i = 0 ∧ gapO w i i = 0 := by
  unfold gapD gapO
  omega
theorem gap_pos (w i j : Int) : 0 ≤ gapD w i j ∧ 0 ≤ gapO w i j := by
  unfold gapD gapO
  omega
theorem near_about (h w c : Int) : nearL h w c true = aboutL h w c := by
  unfold nearL aboutL
  refine List.filter_congr fun j _ => ?_
  unfold nearB
  have s := gap_sym w j c
  have p := gap_pos w j c
  rw [s.1, s.2] at p ⊢
  by_cases e : j = c
  · subst e
    have z := gap_self w j
    rw [z.1, z.2]
    simp
  · have n : ¬ (gapD w c j = 0 ∧ gapO w c j = 0) := fun z => e (gap_zero z.1 z.2).symm
    rw [Bool.eq_iff_iff]
    simp [e]
    omega
theorem ties_eq (h w : Int) : lTies h w = tiesL h w := by
  unfold lTies tiesL
  refine congrArg (fun f => List.flatMap f (allC h w)) (funext fun i => ?_)
  unfold nearL
  rw [List.filter_filter]
  refine congrArg (List.map _) (List.filter_congr fun j _ => ?_)
  unfold nearB
  have s := gap_sym w j i
  have p := gap_pos w j i
  rw [s.1, s.2] at p ⊢
  by_cases e : i < j
  · have ne : j ≠ i := by omega
    have n : ¬ (gapD w i j = 0 ∧ gapO w i j = 0) := fun z => ne (gap_zero z.1 z.2).symm
    rw [Bool.eq_iff_iff]
    simp [e, ne]
    omega
  · simp [e]
section
variable {P : Program} {w : World} {K : PySem.W.Frag} {mg : Str → Option Value} {base : Heap} {f f1 f2 f3 fP : Addr} {fd fd1 fd2 fd3 dP : FuncData}
theorem ok_lties (B : Bl mg) (D : Df K mg "_law_ties" sLTies ["_law_grid"] f fd) (D1 : Df K mg "_law_near" sLNear ["_law_grid", "_law_cell", "_law_is_corner"] f1 fd1) (G1 : FnOk P w K mg base CX0 1 f1 fd1 ["_law_grid", "_law_cell", "_law_is_corner"] spNear) : FnOk P w K mg base CX0 2 f fd ["_law_grid"] spLTies := by
  refine D.F.ok scLTies (fun vs H Q E h => ?_) (fun cdv A outer s H vs Q E hr h => ?_)
  · obtain ⟨g, h, w, rfl, _⟩ := h
    rfl
  · obtain ⟨g, h, w, rfl, hg, k⟩ := h
    refine ⟨_, pss_cons (ps_set (i := 1) scLTies.nd rfl (by first | exact .inl rfl | exact .inr rfl) (pe_lst pa_nil))
      (pss_cons (ps_for PassesOwn.never rfl (pi_range1 (by rfl) B.range (pa_cons (pe_op op_mul (pe_ix ix_tup (pv 0) pe_int (fun _ _ => rfl)) (pe_ix ix_tup (pv 0) pe_int (fun _ _ => rfl))) pa_nil)) (pg_name (i := 2) scLTies.nd rfl (by first | exact .inl rfl | exact .inr rfl))
        (pss_one (ps_set (i := 1) scLTies.nd rfl (by first | exact .inl rfl | exact .inr rfl) (pe_op op_cat (pv 1) (pe_lc (own := [("_law_other", 3)]) rfl scLTies.nd (pi_list (pe_call G1 (hr.mono (by decide)) (by rfl) D1.g D1.F.kp D1.b .nil pass0 (pa_cons (pv 0) (pa_cons (pv 2) (pa_cons pe_bl pa_nil))))) (blkOk_by (N := ["_law_grid", "_law_found", "_law_cell", "_law_other"]) (sc := defScope sLTies) (by decide +kernel))
          (fun _ _ _ _ _ => pg_name (i := 3) scLTies.nd rfl (by first | exact .inl rfl | exact .inr rfl)) (fun _ _ _ _ _ => pts_one (pt_cmpR op_gt (pv 3) (pv 2) (nomark _))) (fun _ _ _ _ _ => pe_tup (pa_cons (pv 2) (pa_cons (pv 3) pa_nil))))))))
      (pss_one (ps_ret (pe_callTy (tupleOf K) (by rfl) B.tuple PyProof.Rows.boot_tuple (pa_cons (pv 1) pa_nil))))), ?_⟩
    have le := hg.le
    obtain ⟨⟨a, rfl, ha⟩, h1, w1, hw⟩ := id hg
    have n0 : 0 ≤ h * w := Int.mul_nonneg (by omega) (by omega)
    have al := allC_len hw
    have nl : ∀ i, (nearL h w i false).length ≤ 16 := fun i => by
      unfold nearL
      exact Nat.le_trans (List.length_filter_le _ _) al
    refine ⟨by decide, fun L0 hL0 => ?_⟩
    have s0 := same_new (o := .lst []) hL0
    refine ⟨_, rfl, a, _, 0, _, rfl, rfl, sqt (s0 _ _ ha), rfl, _, rfl, a, _, 1, _, rfl, rfl, sqt (s0 _ _ ha), rfl, _, _, rfl, rfl, .inr ⟨by omega, by omega⟩, _, rfl, by omega, by omega, ?_⟩
    refine for_it (walk_range (lo := 0) (n := (h * w).toNat)) (fun i σ H' => ∃ (L : Addr) (acc : List V) (o2 o3 : Option V), σ = [some (.ref a), some (.ref L), o2, o3] ∧ H' L = some (.lst acc) ∧ Paired (IH H') acc (((allC h w).take i).flatMap fun i => ((nearL h w i false).filter fun j => decide (i < j)).map fun j => [i, j]) ∧ Same H H')
      ⟨L0, [], none, none, rfl, upd_same, .nil, s0⟩ (fun _ _ _ _ _ => trivial) (fun i x σ H' H'' hi h y => ?_) (fun σ H' h => ?_)
    · obtain ⟨L, acc, o2, o3, rfl, hA, pA, sA⟩ := h
      obtain ⟨rfl, rfl⟩ := y
      have ci : (allC h w)[i]? = some ((i : Nat) : Int) := by
        unfold allC nI
        rw [List.getElem?_map, List.getElem?_range hi]
        rfl
      show gName 2 (V.int (0 + ((i : Nat) : Int))) _ _ _
      rw [Int.zero_add]
      have fl := flat_take (fun i => ((nearL h w i false).filter fun j => decide (i < j)).map fun j => [i, j]) ci
      have accl : acc.length ≤ 256 := by
        rw [pA.length]
        have l1 := flat_len (b := 16) (fun i => ((nearL h w i false).filter fun j => decide (i < j)).map fun j => [i, j]) (xs := (allC h w).take i) fun x _ => by
          rw [List.length_map]
          exact Nat.le_trans (List.length_filter_le _ _) (nl x)
        rw [List.length_take] at l1
        omega
      generalize ((i : Nat) : Int) = j at *
      refine ⟨_, rfl, _, rfl, _, rfl, .ref a, h, w, j, false, rfl, hg.kt (kt_same sA), fun l H1 s1 hl1 hl => ?_⟩
      refine ⟨l, rfl, ⟨_, sql hl⟩, fun L2 hL2 => ?_⟩
      refine lc_filtG (walk_list (xs := (nearL h w j false).map V.int)) hL2 IH (fun k h => h.kt k) (nearL h w j false) (by rw [List.length_map]) (fun o => decide (j < o)) (fun o => [j, o]) (fun H' s => sql (s _ _ hl)) (by rw [List.length_map]; have := nl j; omega) (fun m x H2 H3 c hc s y C1 C0 kk k0 => ?_) (fun H5 qs s5 hA5 pA5 => ?_)
      · obtain ⟨rfl, hx⟩ := y
        obtain ⟨c', hc', rfl⟩ := at_ints hx
        rw [hc] at hc'
        cases hc'
        refine ⟨rfl, _, rfl, _, rfl, _, _, rfl, rfl, _, rfl, ?_⟩
        by_cases z : j < c
        · exact ifT (decide_eq_true z) ⟨_, rfl, _, rfl, (show 2 ≤ sizeLine by decide), fun T hT => kk _ _ (same_new hT) (decide_eq_true z) ⟨T, rfl, upd_same⟩⟩
        · exact ifF (decide_eq_false z) (k0 _ (same_refl _) (decide_eq_false z))
      · have s15 := Same.tr s1 s5
        have ql : qs.length ≤ 16 := by
          rw [pA5.length, List.length_map]
          exact Nat.le_trans (List.length_filter_le _ _) (nl j)
        refine ⟨L, L2, acc, qs, rfl, rfl, s15 _ _ hA, hA5, by rw [sizeLine_eq]; omega, fun p hp => ?_⟩
        have sp := same_new (o := .lst (acc ++ qs)) hp
        refine ⟨p, acc ++ qs, _, _, rfl, upd_same, ?_, Same.tr sA (Same.tr s15 sp)⟩
        rw [fl]
        exact paired_app (paired_mono (fun _ _ z => IH.kt (kt_same (Same.tr s15 sp)) z) pA) (paired_mono (fun _ _ z => IH.kt (kt_same sp) z) pA5)
    · obtain ⟨L, acc, o2, o3, rfl, hA, pA, sA⟩ := h
      have : (allC h w).length = (h * w).toNat := by unfold allC nI; rw [List.length_map, List.length_range]
      rw [← this, List.take_length] at pA
      refine ⟨_, rfl, L, acc, rfl, .inl ⟨sql hA, fun T hT => ?_⟩⟩
      exact k _ _ (Same.tr sA (same_new hT)) ⟨T, acc, rfl, upd_same, paired_mono (fun _ _ z => IH.kt (kt_same (same_new hT)) z) pA⟩
theorem ok_unlike (B : Bl mg) (D : Df K mg "_law_unlike" sLUnlike ["_law_lots"] f fd) : FnOk P w K mg base CX0 1 f fd ["_law_lots"] spUnlike := by
  refine D.F.ok scLUnlike (fun vs H Q E h => ?_) (fun cdv A outer s H vs Q E hr h => ?_)
  · obtain ⟨l, rows, rfl, _⟩ := h
    rfl
  · obtain ⟨l, rows, rfl, ⟨_, ys, e, hl, pl⟩, hlen, k⟩ := h
    cases e
    refine ⟨_, pss_one (ps_ret (pe_callTy (tupleOf K) (by rfl) B.tuple PyProof.Rows.boot_tuple (pa_cons (pe_lc (own := [("_law_lot", 1)]) rfl scLUnlike.nd (pi_list (pv 0)) (blkOk_by (N := ["_law_lots", "_law_lot"]) (sc := defScope sLUnlike) (by decide +kernel))
      (fun _ _ _ _ _ => pg_name (i := 1) scLUnlike.nd rfl (by first | exact .inl rfl | exact .inr rfl)) (fun _ _ _ _ _ => pts_nil) (fun _ _ _ _ _ => pe_tup (pa_cons pe_str (pa_cons (pv 1) pa_nil)))) pa_nil))), ?_⟩
    have pln := pl.length
    refine ⟨_, rfl, l, rfl, ⟨_, sql hl⟩, fun L hL => ?_⟩
    refine lc_mapG (walk_list (xs := ys)) hL RuH (fun k h => h.kt k) (rows.map .unlike) (by rw [List.length_map]; omega) (fun H' s => sql (s _ _ hl)) (by omega) (fun i x H' H'' a ha s y C kk => ?_) (fun H' us s hA pA => ?_)
    · obtain ⟨rfl, hx⟩ := y
      obtain ⟨r, hr, ir⟩ := paired_at pl hx
      rw [List.getElem?_map, hr] at ha
      cases ha
      refine ⟨rfl, _, rfl, (show 2 ≤ sizeLine by decide), fun T2 hT2 => kk _ _ (same_new hT2) ⟨T2, x, rfl, upd_same, ir.kt (kt_same (Same.tr s (same_new hT2)))⟩⟩
    · refine ⟨L, us, rfl, .inl ⟨sql hA, fun T hT => ?_⟩⟩
      exact k _ _ (Same.tr s (same_new hT)) ⟨T, us, rfl, upd_same, paired_mono (fun _ _ z => RuH.kt (kt_same (same_new hT)) z) pA⟩
theorem ok_drawGrid (B : Bl mg) (D : Df K mg "_law_draw_grid" sLDrawGrid ["_law_source", "_law_most"] f fd) (DP : Df K mg "_law_pick" sPick ["_law_source", "_law_most"] fP dP) (GP : FnOk P w K mg base CX0 1 fP dP ["_law_source", "_law_most"] spPick) : FnOk P w K mg base CX0 2 f fd ["_law_source", "_law_most"] spDrawGrid := by
  refine D.F.ok scLDrawGrid (fun vs H Q E h => ?_) (fun cdv A outer s H vs Q E hr h => ?_)
  · obtain ⟨d, cs, rfl, _⟩ := h
    rfl
  · obtain ⟨d, cs, rfl, hs, k⟩ := h
    refine ⟨_, pss_cons (ps_set (i := 2) scLDrawGrid.nd rfl (by first | exact .inl rfl | exact .inr rfl) (pe_op op_add pe_int (pe_call GP (hr.mono (by decide)) (by rfl) DP.g DP.F.kp DP.b .nil pass0 (pa_cons (pv 0) (pa_cons (pe_ifExp (pt_cmpR op_gt (pe_call GP (hr.mono (by decide)) (by rfl) DP.g DP.F.kp DP.b .nil pass0 (pa_cons (pv 0) (pa_cons pe_int pa_nil))) pe_int (nomark _)) pe_int (pv 1)) pa_nil)))))
      (pss_one (ps_ret (pe_tup (pa_cons (pv 2) (pa_cons (pe_op op_add pe_int (pe_call GP (hr.mono (by decide)) (by rfl) DP.g DP.F.kp DP.b .nil pass0 (pa_cons (pv 0) (pa_cons (pe_op op_fdiv (pv 1) (pv 2)) pa_nil)))) pa_nil))))), ?_⟩
    refine ⟨_, rfl, _, rfl, d, cs, 3, rfl, hs, by decide, fun r H1 _ _ hs1 rn1 => ⟨_, _, rfl, rfl, _, rfl, ?_⟩⟩
    have fin : ∀ (t : Int) (H2 : Hp), 1 ≤ t ∧ t ≤ 16 → SrcAt H2 d cs → Rn d cs H H2 → tRet (tTup (tCons (tVar 2) (tCons (tOp (rI0 fun i j => V.int (i + j)) (tC (V.int 1)) (tCall spPick [] E0 (tCons (tVar 0) (tCons (tOp (rI CDiv fun i j => V.int (i / j)) (tVar 1) (tVar 2)) tNil)))) tNil))) { nx := fun x H' => Q V.non H', rt := Q } [some (V.ref d), some (V.int 16), some (V.int t)] H2 := fun t H2 t1 hs2 rn2 => by
      have q1 : 1 ≤ 16 / t := Int.le_ediv_of_mul_le (by omega) (by omega)
      have q2 : 16 / t ≤ 16 := Int.ediv_le_self _ (by omega)
      have q3 : t * (16 / t) ≤ 16 := Int.mul_ediv_self_le (by omega)
      refine ⟨_, rfl, _, rfl, _, rfl, _, rfl, _, _, rfl, rfl, ⟨by omega, by omega⟩, d, cs, _, rfl, hs2, by show 16 / t < _; omega, fun r3 H3 z0 z1 hs3 rn3 => ⟨_, _, rfl, rfl, (show 2 ≤ sizeLine by decide), fun T hT => ?_⟩⟩
      have b3 : 0 ≤ r3 ∧ 1 + r3 ≤ 16 / t := by
        by_cases z : 16 / t < 2
        · have := z0 z
          omega
        · have := z1 (by show 2 ≤ 16 / t; omega)
          exact ⟨this.1, by have := this.2; show _; omega⟩
      have q4 : t * (1 + r3) ≤ t * (16 / t) := Int.mul_le_mul_of_nonneg_left b3.2 (by omega)
      exact k (.ref T) _ t (1 + r3) ⟨⟨T, rfl, upd_same⟩, t1.1, by omega, by omega⟩ (hs3.same (same_new hT)) (rn2.trans (Rn.trans rn3 (rn_same (same_new hT))))
    by_cases z : (0 : Int) < r
    · refine ifT (decide_eq_true z) ⟨d, cs, 4, rfl, hs1, by decide, fun r2 H2 _ r1 hs2 rn2 => ?_⟩
      have rb := r1 (by decide)
      have t1 : 1 ≤ 1 + r2 ∧ 1 + r2 ≤ 16 := by omega
      refine ⟨_, _, rfl, rfl, ?_⟩
      show gName 2 (V.int (1 + r2)) _ _ _
      generalize 1 + r2 = t at *
      exact fin t H2 t1 hs2 (Rn.trans rn1 rn2)
    · refine ifF (decide_eq_false z) ⟨_, rfl, d, cs, 16, rfl, hs1, by decide, fun r2 H2 _ r1 hs2 rn2 => ?_⟩
      have rb := r1 (by decide)
      have t1 : 1 ≤ 1 + r2 ∧ 1 + r2 ≤ 16 := by omega
      refine ⟨_, _, rfl, rfl, ?_⟩
      show gName 2 (V.int (1 + r2)) _ _ _
      generalize 1 + r2 = t at *
      exact fin t H2 t1 hs2 (Rn.trans rn1 rn2)
end
end G9

set_option Elab.async false
set_option linter.all false
set_option maxRecDepth 100000
set_option maxHeartbeats 8000000
/-! the law's boxes: a dict of tuples, sorted -/
namespace G9
open PySem PySem.Spec PyProof.Rows L2 GX
abbrev Tab := List (List L2.Key × List Int)
def tGet (tab : Tab) (k : List L2.Key) : List Int := match tab.find? (fun e => decide (e.1 = k)) with | some e => e.2 | none => []
def tPut (tab : Tab) (k : List L2.Key) (r : List Int) : Tab := if (tab.any fun e => decide (e.1 = k)) = true then tab.map (fun e => if e.1 = k then (e.1, r) else e) else tab ++ [(k, r)]
def bKey (w t d c : Int) : List L2.Key := [.inl (c / w / t), .inl (c % w / d)]
def boxStep (w t d : Int) (tab : Tab) (c : Int) : Tab := tPut tab (bKey w t d c) (tGet tab (bKey w t d c) ++ [c])
def boxTab (h w t d : Int) : Tab := (allC h w).foldl (boxStep w t d) []
def EntH (H : Hp) (kv : List L2.Key × V) (e : List L2.Key × List Int) : Prop := kv.1 = e.1 ∧ IH H kv.2 e.2
theorem EntH.kt {H H' : Hp} {kv : List L2.Key × V} {e : List L2.Key × List Int} (k : Kt H H') (h : EntH H kv e) : EntH H' kv e := ⟨h.1, h.2.kt k⟩
theorem ent_get {H : Hp} {k : List L2.Key} : ∀ {kvs : List (List L2.Key × V)} {tab : Tab}, Paired (EntH H) kvs tab → (valV kvs k = none ∧ tGet tab k = []) ∨ ∃ v, valV kvs k = some v ∧ IH H v (tGet tab k)
  | _, _, .nil => .inl ⟨rfl, rfl⟩
  | kv :: ks, e :: es, .cons a r => by
    by_cases z : kv.1 = k
    · refine .inr ⟨kv.2, valV_pos z, ?_⟩
      have : tGet (e :: es) k = e.2 := by
        unfold tGet
        rw [List.find?_cons, decide_eq_true (a.1.symm.trans z)]
      rw [this]
      exact a.2
    · have v1 : valV (kv :: ks) k = valV ks k := by unfold valV; rw [List.find?_cons, decide_eq_false z]
      have t1 : tGet (e :: es) k = tGet es k := by
        unfold tGet
        rw [List.find?_cons, decide_eq_false (fun q => z (a.1.trans q))]
      rw [v1, t1]
      exact ent_get r
theorem ent_any {H : Hp} {k : List L2.Key} : ∀ {kvs : List (List L2.Key × V)} {tab : Tab}, Paired (EntH H) kvs tab → (kvs.any fun kv => decide (kv.1 = k)) = tab.any fun e => decide (e.1 = k)
  | _, _, .nil => rfl
  | _, _, .cons a r => by rw [List.any_cons, List.any_cons, a.1, ent_any r]
theorem ent_map {H : Hp} {k : List L2.Key} {v : V} {row : List Int} (i : IH H v row) : ∀ {kvs : List (List L2.Key × V)} {tab : Tab}, Paired (EntH H) kvs tab → Paired (EntH H) (kvs.map fun kv => if kv.1 = k then (kv.1, v) else kv) (tab.map fun e => if e.1 = k then (e.1, row) else e)
  | _, _, .nil => .nil
  | kv :: _, e :: _, .cons a r => by
    refine .cons ?_ (ent_map i r)
    show EntH H (if kv.1 = k then (kv.1, v) else kv) (if e.1 = k then (e.1, row) else e)
    by_cases z : kv.1 = k
    · rw [if_pos z, if_pos (a.1.symm.trans z)]
      exact ⟨a.1, i⟩
    · rw [if_neg z, if_neg (fun q => z (a.1.trans q))]
      exact a
theorem ent_put {H : Hp} {k : List L2.Key} {v : V} {row : List Int} (i : IH H v row) {kvs : List (List L2.Key × V)} {tab : Tab} (p : Paired (EntH H) kvs tab) : Paired (EntH H) (putK kvs k v) (tPut tab k row) := by
  unfold putK tPut
  rw [ent_any p]
  split
  · exact ent_map i p
  · exact paired_app p (paired_one ⟨rfl, i⟩)
theorem tput_len (tab : Tab) (k : List L2.Key) (r : List Int) : (tPut tab k r).length ≤ tab.length + 1 := by
  unfold tPut
  split
  · rw [List.length_map]
    omega
  · rw [List.length_append]
    exact Nat.le_refl _
def boxFine (h w t d : Int) : Bool :=
  let tab := boxTab h w t d
  let bs := boxesL h w t d
  decide ((tab.map (·.1)).Nodup) && decide (tab.length < 64) && (tab.all fun e => decide (e.2.length = (t * d).toNat) && e.2.all fun c => decide (0 ≤ c ∧ c < 17)) && (tab.map (·.2)).isPerm bs && decide (bs.Pairwise fun a b => TS.code 17 a ≤ TS.code 17 b) && (bs.all fun a => bs.all fun b => decide (TS.code 17 a ≤ TS.code 17 b → TS.code 17 b ≤ TS.code 17 a → a = b))
def allGrids : List (Int × Int × Int × Int) := (nI (List.range 17)).flatMap fun h => (nI (List.range 17)).flatMap fun w => if 1 ≤ h ∧ 1 ≤ w ∧ h * w ≤ 16 then (nI (List.range 17)).flatMap fun t => if 1 ≤ t ∧ h % t = 0 then ((nI (List.range 17)).filter fun d => decide (1 ≤ d ∧ w % d = 0)).map fun d => (h, w, t, d) else [] else []
theorem all_fine : (allGrids.all fun g => boxFine g.1 g.2.1 g.2.2.1 g.2.2.2) = true := by decide +kernel
theorem mem_nI {n : Nat} {x : Int} (h0 : 0 ≤ x) (hx : x < n) : x ∈ nI (List.range n) := List.mem_map.mpr ⟨x.toNat, List.mem_range.mpr (by omega), by omega⟩
theorem box_fine {h w t d : Int} (h1 : 1 ≤ h) (w1 : 1 ≤ w) (hw : h * w ≤ 16) (h16 : h ≤ 16) (w16 : w ≤ 16) (t1 : 1 ≤ t) (th : t ∣ h) (d1 : 1 ≤ d) (dw : d ∣ w) : boxFine h w t d = true := by
  have tl := Int.le_of_dvd (by omega) th
  have dl := Int.le_of_dvd (by omega) dw
  refine List.all_eq_true.mp all_fine (h, w, t, d) ?_
  unfold allGrids
  refine List.mem_flatMap.mpr ⟨h, mem_nI (by omega) (by omega), List.mem_flatMap.mpr ⟨w, mem_nI (by omega) (by omega), ?_⟩⟩
  rw [if_pos ⟨h1, w1, hw⟩]
  refine List.mem_flatMap.mpr ⟨t, mem_nI (by omega) (by omega), ?_⟩
  rw [if_pos ⟨t1, Int.emod_eq_zero_of_dvd th⟩]
  exact List.mem_map.mpr ⟨d, List.mem_filter.mpr ⟨mem_nI (by omega) (by omega), decide_eq_true ⟨d1, Int.emod_eq_zero_of_dvd dw⟩⟩, rfl⟩
structure BoxFacts (h w t d : Int) : Prop where
  nd : ((boxTab h w t d).map (·.1)).Nodup
  len : (boxTab h w t d).length < 64
  row : ∀ e ∈ boxTab h w t d, e.2.length = (t * d).toNat ∧ TS.Bd 17 e.2
  perm : ((boxTab h w t d).map (·.2)).Perm (boxesL h w t d)
  sort : (boxesL h w t d).Pairwise fun a b => TS.code 17 a ≤ TS.code 17 b
  anti : ∀ a ∈ boxesL h w t d, ∀ b ∈ boxesL h w t d, TS.code 17 a ≤ TS.code 17 b → TS.code 17 b ≤ TS.code 17 a → a = b
theorem box_facts {h w t d : Int} (hb : boxFine h w t d = true) : BoxFacts h w t d := by
  unfold boxFine at hb
  simp only [Bool.and_eq_true, decide_eq_true_eq, List.all_eq_true] at hb
  obtain ⟨⟨⟨⟨⟨a, b⟩, c⟩, d⟩, e⟩, f⟩ := hb
  exact ⟨a, b, fun x hx => ⟨(c x hx).1, fun m hm => (c x hx).2 m hm⟩, List.isPerm_iff.mp d, e, f⟩
end G9

set_option Elab.async false
set_option linter.all false
set_option maxRecDepth 100000
set_option maxHeartbeats 8000000
/-! the law's boxes, run -/
namespace G9
open PySem PySem.Spec PyProof.Rows L2 GX
theorem paired_permL {α β : Type} {R : α → β → Prop} {ys xs : List α} (p : ys.Perm xs) : ∀ {rows : List β}, Paired R xs rows → ∃ rows', Paired R ys rows' ∧ rows'.Perm rows := by
  induction p with
  | nil => intro rows h; exact ⟨rows, h, .refl _⟩
  | cons x _ ih =>
    intro rows h
    cases h with
    | cons a r =>
      obtain ⟨rs, h1, h2⟩ := ih r
      exact ⟨_ :: rs, .cons a h1, h2.cons _⟩
  | swap x y l =>
    intro rows h
    cases h with
    | cons a r =>
      cases r with
      | cons b r => exact ⟨_, .cons b (.cons a r), .swap _ _ _⟩
  | trans _ _ ih1 ih2 =>
    intro rows h
    obtain ⟨r2, p2, q2⟩ := ih2 h
    obtain ⟨r1, p1, q1⟩ := ih1 p2
    exact ⟨r1, p1, q1.trans q2⟩
theorem paired_memR {α β : Type} {R : α → β → Prop} : ∀ {xs : List α} {ys : List β}, Paired R xs ys → ∀ y ∈ ys, ∃ x ∈ xs, R x y
  | _, _, .nil, _, h => by cases h
  | _, _, .cons a r, y, h => by
    rcases List.mem_cons.mp h with rfl | h
    · exact ⟨_, List.mem_cons_self .., a⟩
    · obtain ⟨x, hx, q⟩ := paired_memR r y h
      exact ⟨x, List.mem_cons_of_mem _ hx, q⟩
theorem pw_rows {K : PySem.W.Frag} {H : Hp} {B : Int} : ∀ {ys : List V} {rows : List (List Int)}, Paired (IH H) ys rows → ys.Pairwise (fun x y => ∀ n m, TupI K H x n → TupI K H y m → TS.code B n ≤ TS.code B m) → rows.Pairwise fun a b => TS.code B a ≤ TS.code B b
  | _, _, .nil, _ => .nil
  | _, _, .cons a r, h => by
    have tup : ∀ {v : V} {r : List Int}, IH H v r → TupI K H v r := fun ⟨t, e, q⟩ => ⟨t, e, sqt q⟩
    cases h with
    | cons h1 h2 =>
      refine .cons (fun row hr => ?_) (pw_rows r h2)
      obtain ⟨x, hx, q⟩ := paired_memR r row hr
      exact h1 x hx _ _ (tup a) (tup q)
theorem valV_at {κ : Type} [DecidableEq κ] {k : κ} {v : V} : ∀ {kvs : List (κ × V)}, (kvs.map (·.1)).Nodup → (k, v) ∈ kvs → valV kvs k = some v
  | [], _, h => by cases h
  | p :: r, nd, h => by
    rw [List.map_cons, List.nodup_cons] at nd
    rcases List.mem_cons.mp h with e | h
    · subst e
      exact valV_pos rfl
    · have ne : p.1 ≠ k := fun z => nd.1 (z ▸ List.mem_map.mpr ⟨_, h, rfl⟩)
      have : valV (p :: r) k = valV r k := by unfold valV; rw [List.find?_cons, decide_eq_false ne]
      rw [this]
      exact valV_at nd.2 h
theorem ent_keys {H : Hp} : ∀ {kvs : List (List L2.Key × V)} {tab : Tab}, Paired (EntH H) kvs tab → kvs.map (·.1) = tab.map (·.1)
  | _, _, .nil => rfl
  | _, _, .cons a r => by rw [List.map_cons, List.map_cons, a.1, ent_keys r]
theorem tget_len {tab : Tab} {n : Nat} (h : ∀ e ∈ tab, e.2.length ≤ n) (k : List L2.Key) : (tGet tab k).length ≤ n := by
  unfold tGet
  split
  · exact h _ (List.mem_of_find?_eq_some ‹_›)
  · exact Nat.zero_le _
theorem bstep_len {w t d c : Int} {tab : Tab} {n : Nat} (h : ∀ e ∈ tab, e.2.length ≤ n) : ∀ e ∈ boxStep w t d tab c, e.2.length ≤ n + 1 := fun e he => by
  have g : (tGet tab (bKey w t d c) ++ [c]).length ≤ n + 1 := by
    have := tget_len h (bKey w t d c)
    rw [List.length_append]
    exact Nat.succ_le_succ this
  unfold boxStep tPut at he
  split at he
  · obtain ⟨e', he', rfl⟩ := List.mem_map.mp he
    split
    · exact g
    · exact Nat.le_succ_of_le (h _ he')
  · rcases List.mem_append.mp he with z | z
    · exact Nat.le_succ_of_le (h _ z)
    · rw [List.mem_singleton.mp z]
      exact g
theorem ktD {H : Hp} {L : Addr} {kvs : List (List L2.Key × V)} {o : HO} (e : H L = some (.dT kvs)) : Kt H (upd H L o) := fun b xs eb => by
  have : b ≠ L := fun z => by rw [z, e] at eb; cases eb
  rw [upd_ne this]
  exact eb
def spLBoxes : Sp := fun vs H Q _ => ∃ g h w t d, vs = [g, .int t, .int d] ∧ GrH H g h w ∧ 1 ≤ t ∧ t ∣ h ∧ 1 ≤ d ∧ d ∣ w ∧ ∀ v H', Same H H' → RowsH H' v (boxesL h w t d) → Q v H'
section
variable {P : Program} {w : World} {K : PySem.W.Frag} {mg : Str → Option Value} {base : Heap} {f f1 f2 f3 fP : Addr} {fd fd1 fd2 fd3 dP : FuncData}
theorem ok_lboxes (B : Bl mg) (D : Df K mg "_law_boxes" sLBoxes ["_law_grid", "_law_tall", "_law_wide"] f fd) : FnOk P w K mg base CX0 1 f fd ["_law_grid", "_law_tall", "_law_wide"] spLBoxes := by
  refine D.F.ok scLBoxes (fun vs H Q E h => ?_) (fun cdv A outer s H vs Q E hr h => ?_)
  · obtain ⟨g, h, w, t, d, rfl, _⟩ := h
    rfl
  · obtain ⟨g, h, w, t, d, rfl, hg, t1, th, d1, dw, k⟩ := h
    have hu := hu_of hr
    have td1 : 1 ≤ (t * d).toNat := by
      have : 1 * 1 ≤ t * d := Int.mul_le_mul t1 d1 (by omega) (by omega)
      omega
    refine ⟨_, pss_cons (ps_set (i := 3) scLBoxes.nd rfl (by first | exact .inl rfl | exact .inr rfl) pe_dnewT)
      (pss_cons (ps_for PassesOwn.never rfl (pi_range1 (by rfl) B.range (pa_cons (pe_op op_mul (pe_ix ix_tup (pv 0) pe_int (fun _ _ => rfl)) (pe_ix ix_tup (pv 0) pe_int (fun _ _ => rfl))) pa_nil)) (pg_name (i := 4) scLBoxes.nd rfl (by first | exact .inl rfl | exact .inr rfl))
        (pss_cons (ps_set (i := 5) scLBoxes.nd rfl (by first | exact .inl rfl | exact .inr rfl) (pe_tup (pa_cons (pe_op op_fdiv (pe_op op_fdiv (pv 4) (pe_ix ix_tup (pv 0) pe_int (fun _ _ => rfl))) (pv 1)) (pa_cons (pe_op op_fdiv (pe_op op_mod (pe_callTy call_int1 (by rfl) B.int PyProof.Rows.boot_int (pa_cons (pv 4) pa_nil)) (pe_ix ix_tup (pv 0) pe_int (fun _ _ => rfl))) (pv 2)) pa_nil))))
        (pss_one (ps_dput hu (pv 3) (pv 5) (pe_op (catA K) (pe_dget2 hu (pv 3) (pv 5) (pe_tup pa_nil) ⟨rfl, rfl, rfl, rfl⟩) (pe_tup (pa_cons (pv 4) pa_nil))) rfl))))
      (pss_one (ps_ret (pe_callTy (tupleOf K) (by rfl) B.tuple PyProof.Rows.boot_tuple (pa_cons (pe_callB (cr_sortT (B := 17) td1) (by rfl) B.sorted PyProof.Rows.boot_sorted (pa_cons (pe_lock (pe_lc (own := [("_law_place", 5)]) rfl scLBoxes.nd (pi_keys (pv 3)) (blkOk_by (N := ["_law_grid", "_law_tall", "_law_wide", "_law_lots", "_law_cell", "_law_place"]) (sc := defScope sLBoxes) (by decide +kernel))
        (fun _ _ _ _ _ => pg_name (i := 5) scLBoxes.nd rfl (by first | exact .inl rfl | exact .inr rfl)) (fun _ _ _ _ _ => pts_nil) (fun _ _ _ _ _ => pe_dget hu (pv 3) (pv 5) (fun _ _ => rfl)))) pa_nil)) pa_nil))))), ?_⟩
    have le := hg.le
    obtain ⟨⟨a, rfl, ha⟩, h1, w1, hw⟩ := id hg
    have F := box_facts (box_fine h1 w1 hw le.1 le.2 t1 th d1 dw)
    have n0 : 0 ≤ h * w := Int.mul_nonneg (by omega) (by omega)
    have tl := Int.le_of_dvd (by omega) th
    have dl := Int.le_of_dvd (by omega) dw
    refine fun L hL => ?_
    have sm : ∀ {B : Hp}, (∀ b o, b ≠ L → H b = some o → B b = some o) → Same H B := fun kp b o e => kp b o (fun z => by rw [z, hL] at e; cases e) e
    have s0 := same_new (o := .dT []) hL
    refine ⟨_, rfl, a, _, 0, _, rfl, rfl, sqt (s0 _ _ ha), rfl, _, rfl, a, _, 1, _, rfl, rfl, sqt (s0 _ _ ha), rfl, _, _, rfl, rfl, .inr ⟨by omega, by omega⟩, _, rfl, by omega, by omega, ?_⟩
    refine for_it (walk_range (lo := 0) (n := (h * w).toNat)) (fun i σ H' => ∃ (kvs : List (List L2.Key × V)) (o4 o5 : Option V), σ = [some (.ref a), some (.int t), some (.int d), some (.ref L), o4, o5] ∧ H' L = some (.dT kvs) ∧ Paired (EntH H') kvs (((allC h w).take i).foldl (boxStep w t d) []) ∧ (∀ e ∈ ((allC h w).take i).foldl (boxStep w t d) [], e.2.length ≤ i) ∧ (((allC h w).take i).foldl (boxStep w t d) []).length ≤ i ∧ ∀ b o, b ≠ L → H b = some o → H' b = some o)
      ⟨[], none, none, rfl, upd_same, .nil, (fun e he => by cases he), Nat.le_refl _, fun b o hb e => by rw [upd_ne hb]; exact e⟩ (fun _ _ _ _ _ => trivial) (fun i x σ H' H'' hi h y => ?_) (fun σ H' h => ?_)
    · obtain ⟨kvs, o4, o5, rfl, hA, pA, rl, ll, kp⟩ := h
      obtain ⟨rfl, rfl⟩ := y
      have ci : (allC h w)[i]? = some ((i : Nat) : Int) := by
        unfold allC nI
        rw [List.getElem?_map, List.getElem?_range hi]
        rfl
      have tk : ((allC h w).take (i + 1)).foldl (boxStep w t d) [] = boxStep w t d (((allC h w).take i).foldl (boxStep w t d) []) ((i : Nat) : Int) := by
        rw [List.take_add_one, ci, List.foldl_append]
        rfl
      have i16 : i ≤ 16 := by omega
      show gName 4 (V.int (0 + ((i : Nat) : Int))) _ _ _
      rw [Int.zero_add, tk]
      generalize ((allC h w).take i).foldl (boxStep w t d) [] = tab at *
      generalize ((i : Nat) : Int) = c at *
      have sA := sm kp
      have ha2 := sA _ _ ha
      refine ⟨_, rfl, _, rfl, a, _, 1, _, rfl, rfl, sqt ha2, rfl, _, _, rfl, rfl, ⟨by omega, by omega⟩, _, rfl, _, _, rfl, rfl, ⟨by omega, by omega⟩, _, rfl, .inl ⟨_, rfl, _, rfl, a, _, 1, _, rfl, rfl, sqt ha2, rfl, _, _, rfl, rfl, by omega, _, rfl, _, _, rfl, rfl, ⟨by omega, by omega⟩, (show 2 ≤ sizeLine by decide), fun T hT => ?_⟩⟩
      have nT : T ≠ L := (ne_of_none hA hT).symm
      have sT := same_new (o := .tup [.int (c / w / t), .int (c % w / d)]) hT
      have hT2 : upd H'' T (.tup [.int (c / w / t), .int (c % w / d)]) T = some (.tup ((bKey w t d c).map kV)) := upd_same
      have hA2 := sT _ _ hA
      have pA2 := paired_mono (fun _ _ z => EntH.kt (kt_same sT) z) pA
      have kp2 : ∀ b o, b ≠ L → H b = some o → upd H'' T (.tup [.int (c / w / t), .int (c % w / d)]) b = some o := fun b o hb e => sT _ _ (kp b o hb e)
      show gName 5 (V.ref T) _ (upd H'' T (.tup [.int (c / w / t), .int (c % w / d)])) _
      generalize upd H'' T (.tup [.int (c / w / t), .int (c % w / d)]) = H2 at *
      refine ⟨_, rfl, L, rfl, .inr ⟨kvs, .inl hA2⟩, _, rfl, (show 0 ≤ sizeLine by decide), fun T0 hT0 => ⟨valV kvs (bKey w t d c), DGet.t (upd_at hT0 hA2) (upd_at hT0 hT2), _, rfl, (show 1 ≤ sizeLine by decide), fun T1 hT1 => ?_⟩⟩
      have s3 := Same.tr (same_new (o := .tup []) hT0) (same_new (o := .tup [.int c]) hT1)
      have hT1' : upd (upd H2 T0 (.tup [])) T1 (.tup [.int c]) T1 = some (.tup [.int c]) := upd_same
      have hT0' : upd (upd H2 T0 (.tup [])) T1 (.tup [.int c]) T0 = some (.tup []) := upd_at hT1 upd_same
      show rCatA K _ (V.ref T1) (upd (upd H2 T0 (.tup [])) T1 (.tup [.int c])) _
      generalize upd (upd H2 T0 (.tup [])) T1 (.tup [.int c]) = H3 at *
      have iv : IH H3 ((valV kvs (bKey w t d c)).getD (.ref T0)) (tGet tab (bKey w t d c)) := by
        rcases ent_get (k := bKey w t d c) pA2 with ⟨e1, e2⟩ | ⟨v, e1, e2⟩
        · rw [e1, e2]
          exact ⟨T0, rfl, hT0'⟩
        · rw [e1]
          exact e2.kt (kt_same s3)
      have gl := tget_len rl (bKey w t d c)
      refine cat_row iv hT1' (by omega) fun v5 H5 s5 i5 => ?_
      have s35 := Same.tr s3 s5
      have kl : kvs.length ≤ 16 := by rw [pA.length]; omega
      have hA5 := s35 _ _ hA2
      refine ⟨_, rfl, _, rfl, L, _, rfl, DPut.t hA5 (s35 _ _ hT2) (by rw [sizeLine_eq]; omega), putK kvs (bKey w t d c) v5, _, _, rfl, upd_same, ?_, ?_, ?_, fun b o hb e => ?_⟩
      · exact paired_mono (fun _ _ z => EntH.kt (ktD hA5) z) (ent_put i5 (paired_mono (fun _ _ z => EntH.kt (kt_same s35) z) pA2))
      · exact bstep_len rl
      · have := tput_len tab (bKey w t d c) (tGet tab (bKey w t d c) ++ [c])
        show (tPut tab _ _).length ≤ i + 1
        omega
      · rw [upd_ne hb]
        exact s35 _ _ (kp2 b o hb e)
    · obtain ⟨kvs, o4, o5, rfl, hA, pA, rl, ll, kp⟩ := h
      have al : (allC h w).length = (h * w).toNat := by unfold allC nI; rw [List.length_map, List.length_range]
      rw [← al, List.take_length] at pA
      change Paired (EntH H') kvs (boxTab h w t d) at pA
      have sA := sm kp
      obtain ⟨nd, len, row, perm, sort, anti⟩ := F
      have kn := pA.length
      refine ⟨L, _, hA, trivial, fun od => ?_⟩
      have hF : upd H' L (.frz od (.dT kvs)) L = some (.frz od (.dT kvs)) := upd_same
      have kF : Kt H' (upd H' L (.frz od (.dT kvs))) := ktD hA
      have bF : ∀ b o, b ≠ L → H' b = some o → upd H' L (.frz od (.dT kvs)) b = some o := fun b o hb e => by rw [upd_ne hb]; exact e
      have pF := paired_mono (fun _ _ z => EntH.kt kF z) pA
      generalize upd H' L (.frz od (.dT kvs)) = H2 at *
      refine ⟨_, rfl, L, od, rfl, .inr ⟨kvs, hF, fun D1 hD1 => ?_⟩⟩
      refine lc_mapG walk_keysT hD1 IH (fun k h => h.kt k) ((boxTab h w t d).map (·.2)) (by rw [List.length_map]; omega) (fun H3 s => s _ _ hF) (by omega) (fun i x H3 H4 r hr s y C kk => ?_) (fun H3 ys s3 hA3 pA3 => ?_)
      · obtain ⟨rfl, key, v, q, hk, rfl, hq⟩ := y
        obtain ⟨e, he, e1, e2⟩ := paired_at pF hk
        rw [List.getElem?_map, he] at hr
        cases hr
        have kv : valV kvs key = some v := valV_at (by rw [ent_keys pF]; exact nd) (List.mem_of_getElem? hk)
        exact ⟨rfl, _, rfl, _, rfl, L, v, rfl, .inr ⟨kvs, key, q, .inr ⟨od, s _ _ hF⟩, rfl, hq, kv.symm⟩, kk v _ (same_refl _) (e2.kt (kt_same s))⟩
      · refine ⟨s3 _ _ hF, ?_⟩
        have nD : D1 ≠ L := fun z => by rw [z, hF] at hD1; cases hD1
        have k6 : Kt H3 (upd H3 L (.dT kvs)) := fun b xs eb => by
          have : b ≠ L := fun z => by rw [z, s3 _ _ hF] at eb; cases eb
          rw [upd_ne this]
          exact eb
        have s6 : Same H (upd H3 L (.dT kvs)) := fun b o e => by
          have nb : b ≠ L := fun z => by rw [z, hL] at e; cases e
          rw [upd_ne nb]
          exact s3 _ _ (bF b o nb (kp b o nb e))
        have hA6 : upd H3 L (.dT kvs) D1 = some (.lst ys) := by rw [upd_ne nD]; exact hA3
        have pA6 := paired_mono (fun _ _ z => IH.kt k6 z) pA3
        generalize upd H3 L (.dT kvs) = H6 at *
        have yl : ys.length < 64 := by
          rw [pA6.length, List.length_map]
          exact len
        refine ⟨D1, ys, rfl, sql hA6, yl, fun x hx => ?_, fun zs p pz pw hp => ?_⟩
        · obtain ⟨i, hi⟩ := List.getElem?_of_mem hx
          obtain ⟨r, hr, t0, e0, q0⟩ := paired_at pA6 hi
          obtain ⟨e, he, rfl⟩ := List.mem_map.mp (List.mem_of_getElem? hr)
          exact ⟨e.2, ⟨t0, e0, sqt q0⟩, (row e he).1, (row e he).2⟩
        · obtain ⟨rows', pr, prm⟩ := paired_permL pz pA6
          have pb := prm.trans perm
          have eq : rows' = boxesL h w t d := List.Perm.eq_of_pairwise (fun x y hx hy h1 h2 => anti x (pb.mem_iff.mp hx) y hy h1 h2) (pw_rows (K := K) pr pw) sort pb
          subst eq
          refine ⟨p, zs, rfl, .inl ⟨sql upd_same, fun T hT => ?_⟩⟩
          have t2 := Same.tr (same_new (o := .lst zs) hp) (same_new (o := .tup zs) hT)
          exact k (.ref T) _ (Same.tr s6 t2) ⟨T, zs, rfl, upd_same, paired_mono (fun _ _ z => IH.kt (kt_same t2) z) pr⟩
end
end G9

set_option Elab.async false
set_option linter.all false
set_option maxRecDepth 100000
set_option maxHeartbeats 8000000
/-! the law: places are right -/
namespace G9
open PySem PySem.Spec PyProof.Rows L2 GX
def spRight : Sp := fun vs H Q _ => ∃ g h w, vs = [g] ∧ GrH H g h w ∧ ∀ H', Same H H' → Q (.bl true) H'
theorem eqv_rows_t (r : List (List Int)) : PyData.eqv (dRows r) (dRows r) = true := by rw [eqv_rows]; exact decide_eq_true rfl
theorem eqv_dI_t (r : List Int) : PyData.eqv (dI r) (dI r) = true := by rw [eqv_dI]; exact decide_eq_true rfl
theorem eqv_lrows_t (r : List (List Int)) : PyData.eqv (.list (r.map dI)) (.list (r.map dI)) = true := by rw [eqv_lrows]; exact decide_eq_true rfl
section
variable {P : Program} {w : World} {K : PySem.W.Frag} {mg : Str → Option Value} {base : Heap} {f f1 f2 f3 f4 f5 f6 f7 f8 f9 : Addr} {fd fd1 fd2 fd3 fd4 fd5 fd6 fd7 fd8 fd9 : FuncData}
theorem ok_right (B : Bl mg) (D : Df K mg "_law_places_right" sLPlacesRight ["_law_grid"] f fd)
    (D1 : Df K mg "_law_lines" sLLines ["_law_grid"] f1 fd1) (G1 : FnOk P w K mg base CX0 1 f1 fd1 ["_law_grid"] spLines)
    (D2 : Df K mg "row_cells" sRowCells ["grid", "r"] f2 fd2) (G2 : FnOk P w K mg base CX0 2 f2 fd2 ["grid", "r"] spRowCells)
    (D3 : Df K mg "column_cells" sColumnCells ["grid", "c"] f3 fd3) (G3 : FnOk P w K mg base CX0 2 f3 fd3 ["grid", "c"] spColCells)
    (D4 : Df K mg "cell_at" sCellAt ["grid", "r", "c"] f4 fd4) (G4 : FnOk P w K mg base CX0 1 f4 fd4 ["grid", "r", "c"] spCellAt)
    (D5 : Df K mg "place_of" sPlaceOf ["grid", "cell"] f5 fd5) (G5 : FnOk P w K mg base CX0 1 f5 fd5 ["grid", "cell"] spPlaceOf)
    (D6 : Df K mg "cells_about" sCellsAbout ["grid", "cell"] f6 fd6) (G6 : FnOk P w K mg base CX0 3 f6 fd6 ["grid", "cell"] spAbout)
    (D7 : Df K mg "_law_near" sLNear ["_law_grid", "_law_cell", "_law_is_corner"] f7 fd7) (G7 : FnOk P w K mg base CX0 1 f7 fd7 ["_law_grid", "_law_cell", "_law_is_corner"] spNear)
    (D8 : Df K mg "side_ties" sSideTies ["grid"] f8 fd8) (G8 : FnOk P w K mg base CX0 3 f8 fd8 ["grid"] spSideTies)
    (D9 : Df K mg "_law_ties" sLTies ["_law_grid"] f9 fd9) (G9 : FnOk P w K mg base CX0 2 f9 fd9 ["_law_grid"] spLTies) :
    FnOk P w K mg base CX0 4 f fd ["_law_grid"] spRight := by
  refine D.F.ok scLPlacesRight (fun vs H Q E h => ?_) (fun cdv A outer s H vs Q E hr h => ?_)
  · obtain ⟨g, h, w, rfl, _⟩ := h
    rfl
  · obtain ⟨g, h, w, rfl, hg, k⟩ := h
    have hu := hr.units
    refine ⟨_, pss_cons (ps_asg (pv 0) (pg_tupK K (n := 2) rfl (pgs_cons (pg_name (i := 1) scLPlacesRight.nd rfl (by first | exact .inl rfl | exact .inr rfl)) (pgs_cons (pg_name (i := 2) scLPlacesRight.nd rfl (by first | exact .inl rfl | exact .inr rfl)) pgs_nil))))
      (pss_cons (ps_asg (pe_call G1 (hr.mono (by decide)) (by rfl) D1.g D1.F.kp D1.b .nil pass0 (pa_cons (pv 0) pa_nil)) (pg_tupK K (n := 2) rfl (pgs_cons (pg_name (i := 3) scLPlacesRight.nd rfl (by first | exact .inl rfl | exact .inr rfl)) (pgs_cons (pg_name (i := 4) scLPlacesRight.nd rfl (by first | exact .inl rfl | exact .inr rfl)) pgs_nil))))
      (pss_cons (ps_if (pw_or (pt_cmpR (neDD K hu) (pe_lc (own := [("_law_r", 5)]) rfl scLPlacesRight.nd (pi_range1 (by rfl) B.range (pa_cons (pv 1) pa_nil)) (blkOk_by (N := ["_law_grid", "_law_tall", "_law_wide", "_law_rows", "_law_columns", "_law_r", "_law_c", "_law_cell"]) (sc := defScope sLPlacesRight) (by decide +kernel))
            (fun _ _ _ _ _ => pg_name (i := 5) scLPlacesRight.nd rfl (by first | exact .inl rfl | exact .inr rfl)) (fun _ _ _ _ _ => pts_nil) (fun _ _ _ _ _ => pe_call G2 (hr.mono (by decide)) (by rfl) D2.g D2.F.kp D2.b .nil pass0 (pa_cons (pv 0) (pa_cons (pv 5) pa_nil)))) (pv 3) (nomark _))
          (pw_or1 (pt_cmpR (neDD K hu) (pe_lc (own := [("_law_c", 6)]) rfl scLPlacesRight.nd (pi_range1 (by rfl) B.range (pa_cons (pv 2) pa_nil)) (blkOk_by (N := ["_law_grid", "_law_tall", "_law_wide", "_law_rows", "_law_columns", "_law_r", "_law_c", "_law_cell"]) (sc := defScope sLPlacesRight) (by decide +kernel))
            (fun _ _ _ _ _ => pg_name (i := 6) scLPlacesRight.nd rfl (by first | exact .inl rfl | exact .inr rfl)) (fun _ _ _ _ _ => pts_nil) (fun _ _ _ _ _ => pe_call G3 (hr.mono (by decide)) (by rfl) D3.g D3.F.kp D3.b .nil pass0 (pa_cons (pv 0) (pa_cons (pv 6) pa_nil)))) (pv 4) (nomark _)))).pt
          (pss_one (ps_ret pe_bl)) pss_nil)
      (pss_cons (ps_for PassesOwn.never rfl (pi_range1 (by rfl) B.range (pa_cons (pe_op op_mul (pv 1) (pv 2)) pa_nil)) (pg_name (i := 7) scLPlacesRight.nd rfl (by first | exact .inl rfl | exact .inr rfl))
        (pss_cons (ps_par (i := 5) (j := 6) (by rfl) scLPlacesRight.nd rfl rfl (by decide) rfl rfl (pa_cons (pe_op op_fdiv (pv 7) (pv 2)) (pa_cons (pe_op op_mod (pe_callTy call_int1 (by rfl) B.int PyProof.Rows.boot_int (pa_cons (pv 7) pa_nil)) (pv 2)) pa_nil)) (by rfl))
        (pss_cons (ps_if (pw_or (pt_cmpR op_ne (pe_call G4 (hr.mono (by decide)) (by rfl) D4.g D4.F.kp D4.b .nil pass0 (pa_cons (pv 0) (pa_cons (pv 5) (pa_cons (pv 6) pa_nil)))) (pv 7) (nomark _)) (pw_or1 (pt_cmpR (neDD K hu) (pe_call G5 (hr.mono (by decide)) (by rfl) D5.g D5.F.kp D5.b .nil pass0 (pa_cons (pv 0) (pa_cons (pv 7) pa_nil))) (pe_tup (pa_cons (pv 5) (pa_cons (pv 6) pa_nil))) (nomark _)))).pt
          (pss_one (ps_ret pe_bl)) pss_nil)
        (pss_one (ps_if (pt_cmpR (neDD K hu) (pe_call G6 (hr.mono (by decide)) (by rfl) D6.g D6.F.kp D6.b .nil pass0 (pa_cons (pv 0) (pa_cons (pv 7) pa_nil))) (pe_callTy (tupleOf K) (by rfl) B.tuple PyProof.Rows.boot_tuple (pa_cons (pe_call G7 (hr.mono (by decide)) (by rfl) D7.g D7.F.kp D7.b .nil pass0 (pa_cons (pv 0) (pa_cons (pv 7) (pa_cons pe_bl pa_nil)))) pa_nil)) (nomark _))
          (pss_one (ps_ret pe_bl)) pss_nil)))))
      (pss_one (ps_ret (pe_cmpR (eqDD K hu) (pe_call G8 (hr.mono (by decide)) (by rfl) D8.g D8.F.kp D8.b .nil pass0 (pa_cons (pv 0) pa_nil)) (pe_call G9 (hr.mono (by decide)) (by rfl) D9.g D9.F.kp D9.b .nil pass0 (pa_cons (pv 0) pa_nil)) (nomark _))))))), ?_⟩
    have le := hg.le
    obtain ⟨⟨a, rfl, ha⟩, h1, w1, hw⟩ := id hg
    have n0 : 0 ≤ h * w := Int.mul_nonneg (by omega) (by omega)
    refine ⟨_, rfl, a, _, rfl, sqt ha, rfl, _, _, rfl, _, _, rfl, rfl, ?_⟩
    refine ⟨_, rfl, .ref a, h, w, rfl, hg, fun T l1 l2 H1 _ _ s1 hT r1 r2 => ?_⟩
    refine ⟨T, _, rfl, sqt hT, rfl, _, _, rfl, _, _, rfl, rfl, ?_⟩
    -- the rows
    refine ⟨_, rfl, _, rfl, by omega, by omega, fun L1 hL1 => ?_⟩
    refine lc_mapR (walk_range (lo := 0) (n := h.toNat)) hL1 (fun r => rowC w ((r : Nat) : Int)) (fun _ _ => trivial) (by omega) (fun i x H' H'' hi s y C kk => ?_) (fun H2 ys s2 hA2 pA2 => ?_)
    · obtain ⟨rfl, rfl⟩ := y
      refine ⟨rfl, _, rfl, _, rfl, .ref a, h, w, _, rfl, hg.kt (kt_same (Same.tr s1 s)), fun v H4 s4 i4 => kk v H4 s4 ?_⟩
      rw [Int.zero_add] at i4
      exact i4
    have rr : LRows H2 (.ref L1) (rowLots h w) := ⟨L1, ys, rfl, hA2, pA2⟩
    have lr : ∀ {A B : Hp} {v : V} {rows : List (List Int)}, Same A B → LRows A v rows → LRows B v rows := fun s ⟨l, vs, e, q, p⟩ => ⟨l, vs, e, s _ _ q, paired_mono (fun _ _ z => IH.kt (kt_same s) z) p⟩
    refine ⟨_, rfl, _, _, LRows.dp rr, LRows.dp (lr s2 r1), cmp_lrows _, cmp_lrows _, _, rfl, ?_⟩
    rw [eqv_lrows_t]
    refine ifF rfl ?_
    -- the columns
    refine ⟨_, rfl, _, rfl, by omega, by omega, fun L2 hL2 => ?_⟩
    refine lc_mapR (walk_range (lo := 0) (n := w.toNat)) hL2 (fun c => colC h w ((c : Nat) : Int)) (fun _ _ => trivial) (by omega) (fun i x H' H'' hi s y C kk => ?_) (fun H3 zs s3 hA3 pA3 => ?_)
    · obtain ⟨rfl, rfl⟩ := y
      refine ⟨rfl, _, rfl, _, rfl, .ref a, h, w, _, rfl, hg.kt (kt_same (Same.tr s1 (Same.tr s2 s))), fun v H4 s4 i4 => kk v H4 s4 ?_⟩
      rw [Int.zero_add] at i4
      exact i4
    have rc : LRows H3 (.ref L2) (colLots h w) := ⟨L2, zs, rfl, hA3, pA3⟩
    refine ⟨_, rfl, _, _, LRows.dp rc, LRows.dp (lr (Same.tr s2 s3) r2), cmp_lrows _, cmp_lrows _, _, rfl, ?_⟩
    rw [eqv_lrows_t]
    refine ifF rfl ?_
    -- the cells
    have s03 := Same.tr s1 (Same.tr s2 s3)
    refine ⟨_, rfl, _, rfl, _, _, rfl, rfl, .inr ⟨by omega, by omega⟩, _, rfl, by omega, by omega, ?_⟩
    refine for_it (walk_range (lo := 0) (n := (h * w).toNat)) (fun i σ H' => ∃ (o5 o6 o7 : Option V), σ = [some (.ref a), some (.int h), some (.int w), some (.ref l1), some (.ref l2), o5, o6, o7] ∧ Same H H')
      ⟨_, _, _, rfl, s03⟩ (fun _ _ _ _ _ => trivial) (fun i x σ H' H'' hi h y => ?_) (fun σ H' h => ?_)
    · obtain ⟨o5, o6, o7, rfl, sA⟩ := h
      obtain ⟨rfl, rfl⟩ := y
      have wp : 0 < w ∧ w < 1073741824 := by omega
      show gName 7 (V.int (0 + ((i : Nat) : Int))) _ _ _
      rw [Int.zero_add]
      generalize ((i : Nat) : Int) = j at *
      have hg2 := hg.kt (kt_same sA)
      refine ⟨_, rfl, _, rfl, _, _, rfl, rfl, wp, _, rfl, .inl ⟨_, rfl, _, rfl, _, _, rfl, rfl, wp.1, _, _, rfl, ?_⟩⟩
      refine ⟨_, rfl, _, rfl, _, rfl, .ref a, _, w, _, _, rfl, hg2, _, rfl, rfl, _, rfl, ?_⟩
      have e1 : j / w * w + j % w = j := by
        have := Int.mul_ediv_add_emod j w
        rw [Int.mul_comm] at this
        exact this
      rw [e1]
      refine ifF (by simp) ?_
      refine ⟨_, rfl, _, rfl, .ref a, _, w, j, rfl, hg2, fun v4 H4 s4 i4 => ⟨_, rfl, _, rfl, (show 2 ≤ sizeLine by decide), fun T hT => ?_⟩⟩
      have sT := same_new (o := .tup [.int (j / w), .int (j % w)]) hT
      have iT : IH (upd H4 T (.tup [.int (j / w), .int (j % w)])) (.ref T) [j / w, j % w] := ⟨T, rfl, upd_same⟩
      refine ⟨_, _, IH.dp (i4.kt (kt_same sT)), IH.dp iT, cmp_dI _, cmp_dI _, _, rfl, ?_⟩
      rw [eqv_dI_t]
      refine ifF rfl ?_
      have s5 := Same.tr s4 sT
      generalize upd H4 T (.tup [.int (j / w), .int (j % w)]) = H5 at *
      refine ⟨_, rfl, _, rfl, .ref a, _, w, j, rfl, hg2.kt (kt_same s5), fun v6 H6 s6 i6 => ⟨_, rfl, _, rfl, .ref a, _, w, j, true, rfl, hg2.kt (kt_same (Same.tr s5 s6)), fun l H7 s7 _ hl => ⟨l, _, rfl, .inl ⟨sql hl, fun T2 hT2 => ?_⟩⟩⟩⟩
      rw [near_about]
      have t2 := same_new (o := .tup ((aboutL h w j).map V.int)) hT2
      have i2 : IH (upd H7 T2 (.tup ((aboutL h w j).map V.int))) (.ref T2) (aboutL h w j) := ⟨T2, rfl, upd_same⟩
      refine ⟨_, _, IH.dp (i6.kt (kt_same (Same.tr s7 t2))), IH.dp i2, cmp_dI _, cmp_dI _, _, rfl, ?_⟩
      rw [eqv_dI_t]
      exact ifF rfl ⟨_, _, _, rfl, Same.tr sA (Same.tr s5 (Same.tr s6 (Same.tr s7 t2)))⟩
    · obtain ⟨o5, o6, o7, rfl, sA⟩ := h
      refine ⟨_, rfl, .ref a, _, _, rfl, hg.kt (kt_same sA), fun v1 H1 t1 i1 => ⟨_, rfl, .ref a, _, _, rfl, hg.kt (kt_same (Same.tr sA t1)), fun v2 H2 t2 i2 => ?_⟩⟩
      rw [ties_eq] at i2
      refine ⟨_, _, RowsH.dp (i1.kt (kt_same t2)), RowsH.dp i2, cmp_rows _, cmp_rows _, ?_⟩
      rw [eqv_rows_t]
      exact k _ (Same.tr sA (Same.tr t1 t2))
end
end G9

set_option Elab.async false
set_option linter.all false
set_option maxRecDepth 100000
set_option maxHeartbeats 4000000
/-! tuple(xs) with its object known; dict(xs), xs such a tuple of pairs -/
namespace GX
open PySem PySem.Spec PyProof.Rows L2
section
variable {X : Cx}
theorem call_tupleF : CallR X (.type "tuple") (fun xs H Q => ∃ p ys, xs = [.ref p] ∧ SqL X.K H p ys ∧ ∀ l o, H l = none → o.dict = none → Q (.ref l) (upd H l (.frz o (.tup ys)))) := by
  intro pins s σ H xs us Q I r h
  obtain ⟨p, ys, rfl, hq, q⟩ := h
  obtain ⟨u, rfl, rx⟩ := vals1 r
  cases rx
  obtain ⟨its, r', pl, hz⟩ := I.list hq
  have hlen := r'.length
  refine call_tuple_list pl.isList (fun h' kp => ?_) (by simp only [List.size_toArray] <;> omega)
  have I1 : Inv X pins σ H { s with heap := h' } := I.kept (t' := s.toks) kp
  have I2 : Inv X pins σ (upd H h'.objs.size (.frz { cls := .type "tuple", data := .seq its.toArray } (.tup ys))) { s with heap := h'.push { cls := .type "tuple", data := .seq its.toArray } } :=
    I1.laid (t' := s.toks) (fun b o e => Heap.get?_push_of_some _ e) (Nat.le_refl _) (show ObjOk X.prog X.w _ _ _ (.frz _ (.tup ys)) from ⟨Heap.get?_push_size _ rfl, hz, its, r', IsTup.new _ _⟩)
  exact ⟨.ref h'.objs.size, _, I2, rfl, q _ _ (I1.hok.fresh (Nat.le_refl _)) rfl⟩
theorem lay_pairs {S : Nat → Key × Value → Value → Prop} : ∀ {prs : List (Key × Value)}, (∀ (j : Nat) (q : Key × Value), prs[j]? = some q → ∃ u, S j q u) → ∃ ps : List (Value × Value), ps.length = prs.length ∧ ∀ (j : Nat) (q : Key × Value), prs[j]? = some q → ∃ u, S j q u ∧ ps[j]? = some (u, q.2) := by
  intro prs
  induction prs generalizing S with
  | nil => intro _; exact ⟨[], rfl, fun j q e => by simp at e⟩
  | cons p r ih =>
    intro h
    obtain ⟨u, hu⟩ := h 0 p rfl
    obtain ⟨ps, l, hp⟩ := ih (S := fun j => S (j + 1)) fun j q e => h (j + 1) q (by simpa using e)
    refine ⟨(u, p.2) :: ps, by rw [List.length_cons, List.length_cons, l], fun j q e => ?_⟩
    cases j with
    | zero => cases e; exact ⟨u, hu, rfl⟩
    | succ j =>
      obtain ⟨v, h1, h2⟩ := hp j q (by simpa using e)
      exact ⟨v, h1, by simpa using h2⟩
theorem call_dictT (hcalm : X.calm = true) : CallR X (.type "dict") (fun xs H Q => ∃ (a : Addr) (ot : Obj) (ps : List Addr) (kvs : List (Key × V)), xs = [.ref a] ∧ H a = some (.frz ot (.tup (ps.map V.ref))) ∧ ot.dict = none ∧ Paired (fun p kv => SqT X.K H p [kV kv.1, kv.2]) ps kvs ∧
    ∀ p, H p = none → Q (.ref p) (upd H p (.dK (mergeK [] kvs)))) := by
  intro pins s σ H xs us Q I r q
  obtain ⟨a, ot, ps, kvs, ex, hq, od, hp, q⟩ := q
  subst ex
  obtain ⟨u, eu, rx⟩ := vals1 r
  subst eu
  cases rx
  obtain ⟨hget, hz, its, rv, o, ho, hc, n, hdat⟩ := (show ObjOk X.prog X.w _ _ _ (.frz ot (.tup (ps.map V.ref))) from I.hok a _ hq)
  have ei := refs_at rv
  subst ei
  rw [hget] at ho
  cases ho
  rw [List.length_map] at hz
  obtain ⟨prs, rel, hl, hpr⟩ := pairs_of I hp
  obtain ⟨pv, pl, hpv⟩ := lay_pairs (S := fun j q u => ∃ b, ps[j]? = some b ∧ IsTup s.heap b #[u, q.2] ∧ keyIs q.1 u = true) fun j q e => by
    obtain ⟨b, u, e1, e2, e3⟩ := hpr j q e
    exact ⟨u, b, e1, e2, e3⟩
  have P := PairArg.tuple (prog := X.prog) (w := X.w) a (ps.map Value.ref).toArray (fun j => (ps[j]?).getD 0) pv
  refine PySem.call_dict_pairs (knd := mixKind X.prog X.w) (kvs := prs) P (I.ok.hd hcalm) ⟨⟨ot, n, hget, hc, od, hdat⟩, by simp [pl, hl], fun j k v e => ?_⟩ ⟨by omega, fun j k v e => ?_⟩ (by omega) fun h' tk hd' k => ?_
  · have jl : j < prs.length := by
      have := (List.getElem?_eq_some_iff.mp e).1
      omega
    obtain ⟨u, ⟨b, e1, e2, e3⟩, e4⟩ := hpv j _ (List.getElem?_eq_getElem jl)
    rw [e] at e4
    cases e4
    refine ⟨by simp [e1], .inl ?_⟩
    show s.heap.IsTuple ((ps[j]?).getD 0) _
    rw [e1]
    exact e2
  · have jl : j < prs.length := by
      have := (List.getElem?_eq_some_iff.mp e).1
      omega
    obtain ⟨u, ⟨b, e1, e2, e3⟩, e4⟩ := hpv j _ (List.getElem?_eq_getElem jl)
    rw [e] at e4
    cases e4
    exact ⟨prs[j].1, List.getElem?_eq_getElem jl, e3⟩
  · have hm : (s.heap.objs.size == sysModules) = false := beq_eq_false_iff_ne.mpr (Nat.ne_of_gt I.big)
    have hlen : (mergeK [] kvs).length ≤ sizeLine := by
      refine Nat.le_trans (length_mergeK kvs []) ?_
      rw [List.length_nil, Nat.zero_add, rel.length, hl]
      exact hz
    exact ⟨.ref s.heap.objs.size, upd H s.heap.objs.size (.dK (mergeK [] kvs)), I.laid (t' := tk) (fun b o e => k b o (by simp) e) (Nat.le_refl _) (show ObjOk X.prog X.w _ _ _ (.dK (mergeK [] kvs)) from ⟨hlen, hm, merged [] prs, KV.merge rel .nil, hd'⟩), rfl, q _ (I.hok.fresh (Nat.le_refl _))⟩
end
end GX

set_option Elab.async false
set_option linter.all false
set_option maxRecDepth 100000
set_option maxHeartbeats 8000000
/-! the law's frame -/
namespace G9
open PySem PySem.Spec PyProof.Rows L2 GX
abbrev nmLaw : List Str := (["_law_script", "_law_source", "_law_grid", "_law_tall", "_law_wide", "_law_down", "_law_d", "_law_on", "_law_size", "_law_rows", "_law_columns", "_law_square", "_law_pairs", "_law_many", "_law_lap", "_law_pair"] : List Str) ++ (["_law_rules", "_law_i", "_law_j", "_law_whole", "_law_due", "_law_cells", "_law_most", "_law_lots", "_law_lot", "_law_total", "_law_lengths", "_law_turn", "_law_line", "_law_numbers", "_law_plain", "_law_k"] : List Str) ++ (["_law_told", "_law_cell", "_law_known", "_law_number", "_law_about"] : List Str)
/-- a def with its promise -/
structure Fn (P : Program) (w : World) (K : PySem.W.Frag) (mg : Str → Option Value) (base : Heap) (x : Str) (st : Stmt) (ps : List Str) (k : Nat) (sp : Sp) (f : Addr) (fd : FuncData) : Prop where
  D : Df K mg x st ps f fd
  G : FnOk P w K mg base CX0 k f fd ps sp
/-- the law's names: its source, grid, cells -/
def StL (a d : Addr) (gv : V) (h w : Int) (o21 : Option V) (σ : L2.St) : Prop := ∃ v5 v6 v7 v8 v9 v10 v11 v12 v13 v14 v15 v16 v17 v18 v19 v20 v22 v23 v24 v25 v26 v27 v28 v29 v30 v31 v32 v33 v34 v35 v36 : Option V, σ = [some (.ref a), some (.ref d), some gv, some (.int h), some (.int w), v5, v6, v7, v8, v9, v10, v11, v12, v13, v14, v15, v16, v17, v18, v19, v20, o21, v22, v23, v24, v25, v26, v27, v28, v29, v30, v31, v32, v33, v34, v35, v36]
def spLaw (K : PySem.W.Frag) : Sp := fun vs H Q _ => ∃ (a : Addr) (ns : List Int), vs = [.ref a] ∧ SqL K H a (ns.map V.int) ∧ ns.length ≤ 63 ∧ ∀ H', Q (.bl true) H'
theorem lt1 {n : Nat} (h : n + 64 < cLine) : n + 1 < cLine := by omega
/-- the law's state once its cells stand -/
def InvC (σ : L2.St) (H : Hp) : Prop := ∃ (a d cs lc : Addr) (gv : V) (h w : Int), StL a d gv h w (some (.ref lc)) σ ∧ GrH H gv h w ∧ SrcAt H d cs ∧ H lc = some (.lst ((allC h w).map V.int)) ∧ lc ≠ d ∧ lc ≠ cs
theorem ps_of {K : PySem.W.Frag} {H : Hp} : ∀ {acc : List V} {ts : List (List Int)}, Paired (IH H) acc ts → (∀ t ∈ ts, t.length = 2) → ∃ ps : List Addr, acc = ps.map V.ref ∧ Paired (fun p (kv : L2.Key × V) => SqT K H p [kV kv.1, kv.2]) ps (ts.map fun t => ((Sum.inl (t.getD 0 0) : L2.Key), V.int (t.getD 1 0)))
  | _, _, .nil, _ => ⟨[], rfl, .nil⟩
  | _, t :: _, .cons a r, h => by
    obtain ⟨ps, e, p⟩ := ps_of r fun t ht => h t (List.mem_cons_of_mem _ ht)
    obtain ⟨q, rfl, hq⟩ := a
    subst e
    have l := h t (List.mem_cons_self ..)
    match t, l, hq with
    | [i, j], _, hq => exact ⟨q :: ps, rfl, .cons (sqt hq) p⟩
theorem val_any {j : L2.Key} : ∀ kvs : List (L2.Key × V), (valV kvs j).isSome = kvs.any fun kv => decide (kv.1 = j)
  | [] => rfl
  | p :: r => by
    have ih := val_any (j := j) r
    unfold valV at ih ⊢
    rw [List.find?_cons, List.any_cons]
    by_cases z : p.1 = j
    · rw [decide_eq_true z]
      rfl
    · rw [decide_eq_false z, Bool.false_or]
      exact ih
theorem val_put {k j : L2.Key} {v : V} (kvs : List (L2.Key × V)) : (valV (putK kvs k v) j).isSome = ((valV kvs j).isSome || decide (k = j)) := by
  rw [val_any, val_any]
  unfold putK
  split
  · rename_i z
    rw [List.any_map]
    have e : (kvs.any ((fun kv => decide (kv.1 = j)) ∘ fun kv => if kv.1 = k then (kv.1, v) else kv)) = kvs.any fun kv => decide (kv.1 = j) := by
      congr 1
      funext kv
      show decide ((if kv.1 = k then (kv.1, v) else kv).1 = j) = _
      split <;> rfl
    rw [e]
    by_cases y : k = j
    · subst y
      rw [z]
      rfl
    · rw [decide_eq_false y, Bool.or_false]
  · rw [List.any_append]
    simp
theorem val_merge {j : L2.Key} : ∀ (kvs acc : List (L2.Key × V)), (valV (mergeK acc kvs) j).isSome = ((valV acc j).isSome || kvs.any fun kv => decide (kv.1 = j))
  | [], acc => by
    show (valV acc j).isSome = _
    simp
  | p :: r, acc => by
    show (valV (mergeK (putK acc p.1 p.2) r) j).isSome = _
    rw [val_merge r, val_put, List.any_cons, Bool.or_assoc]
theorem known_eq (ts : List (List Int)) (c : Int) : (valV (mergeK [] (ts.map fun t => ((Sum.inl (t.getD 0 0) : L2.Key), V.int (t.getD 1 0)))) (Sum.inl c)).isSome = (freeL ts).any (· == c) := by
  rw [val_merge]
  unfold freeL
  rw [List.any_map, List.any_map]
  show (false || _) = _
  rw [Bool.false_or]
  congr 1
  funext t
  show decide ((Sum.inl (t.getD 0 0) : L2.Key) = Sum.inl c) = (t.getD 0 0 == c)
  rw [Bool.eq_iff_iff]
  simp
def toldR (h w : Int) (ts : List (List Int)) : List Rul := ((ts.map (mineT h w)).filter mineB).map fun c => cntR c.1 c.2
end G9

set_option Elab.async false
set_option linter.all false
set_option maxRecDepth 100000
set_option maxHeartbeats 8000000
/-! the law: mined -/
namespace G9
open PySem PySem.Spec PyProof.Rows L2 GX
section
variable {P : Program} {w : World} {K : PySem.W.Frag} {mg : Str → Option Value} {base : Heap} {fPi fNe fMi : Addr} {dPi dNe dMi : FuncData}
theorem seg25 (B : Bl mg) (FPi : Fn P w K mg base "_law_pick" sPick ["_law_source", "_law_most"] 1 spPick fPi dPi) (FNe : Fn P w K mg base "_law_near" sLNear ["_law_grid", "_law_cell", "_law_is_corner"] 1 spNear fNe dNe) (FMi : Fn P w K mg base "mined" sMined ["grid", "told"] 4 spMined fMi dMi) {f : Addr} {cdv : Value} {A : Around} {outer : List Env} {s : Shared} {H0 : Hp} {Q : VK} {E : XK} (hr : Room 5 (A.deeper (envOfC "law" (defScope sLaw) s.heap.objs.size f cdv))) :
    ∃ t, PSs (cxOf CX0 P w K mg base nmLaw "law" (defScope sLaw) f cdv A outer s H0 E).nox ((defBody sLaw).drop 25) t ∧ ∀ σ H, InvC σ H → (∀ H', Q (.bl true) H') → t { nx := fun _ H' => Q .non H', rt := Q } σ H := by
  have hu := hr.units
  refine ⟨_, (pss_cons (ps_set (i := 32) scLaw.nd rfl (by first | exact .inl rfl | exact .inr rfl) (pe_callTy call_tupleF (by rfl) B.tuple PyProof.Rows.boot_tuple (pa_cons (pe_lc (own := [("_law_cell", 33)]) rfl scLaw.nd (pi_list (pv 21)) (blkOk_by (N := nmLaw) (sc := defScope sLaw) (by decide +kernel)) (fun _ _ _ _ _ => (pg_name (i := 33) scLaw.nd rfl (by first | exact .inl rfl | exact .inr rfl))) (fun _ _ _ _ _ => (pts_one (pt_cmpR op_eq (pe_call FPi.G (hr.mono (by decide)) (by rfl) FPi.D.g FPi.D.F.kp FPi.D.b .nil pass0 (pa_cons (pv 1) (pa_cons pe_int pa_nil))) pe_int (nomark _)))) (fun _ _ _ _ _ => (pe_tup (pa_cons (pv 33) (pa_cons (pe_call FPi.G (hr.mono (by decide)) (by rfl) FPi.D.g FPi.D.F.kp FPi.D.b .nil pass0 (pa_cons (pv 1) (pa_cons pe_int pa_nil))) pa_nil))))) pa_nil)))
      (pss_cons (ps_asg (pe_tup (pa_cons (pe_callTy (call_dictT rfl) (by rfl) B.dict PyProof.Rows.boot_dict (pa_cons (pv 32) pa_nil)) (pa_cons (pe_lst pa_nil) pa_nil))) (pg_tupK K (n := 2) rfl (pgs_cons (pg_name (i := 34) scLaw.nd rfl (by first | exact .inl rfl | exact .inr rfl)) (pgs_cons (pg_name (i := 16) scLaw.nd rfl (by first | exact .inl rfl | exact .inr rfl)) pgs_nil))))
      (pss_cons (ps_for PassesOwn.never rfl (pi_tup (pv 32)) (pg_tupK K (n := 2) rfl (pgs_cons (pg_name (i := 33) scLaw.nd rfl (by first | exact .inl rfl | exact .inr rfl)) (pgs_cons (pg_name (i := 35) scLaw.nd rfl (by first | exact .inl rfl | exact .inr rfl)) pgs_nil))) (pss_cons (ps_set (i := 36) scLaw.nd rfl (by first | exact .inl rfl | exact .inr rfl) (pe_callTy (tupleOf K) (by rfl) B.tuple PyProof.Rows.boot_tuple (pa_cons (pe_call FNe.G (hr.mono (by decide)) (by rfl) FNe.D.g FNe.D.F.kp FNe.D.b .nil pass0 (pa_cons (pv 2) (pa_cons (pv 33) (pa_cons pe_bl pa_nil)))) pa_nil)))
      (pss_one (ps_set (i := 16) scLaw.nd rfl (by first | exact .inl rfl | exact .inr rfl) (pe_op op_cat (pv 16) (pe_ifExp (pt_cmpR (neDD K hu) (pv 36) (pe_tup pa_nil) (nomark _)) (pe_lst (pa_cons (pe_tup (pa_cons pe_str (pa_cons (pv 36) (pa_cons (pe_tup (pa_cons pe_int pa_nil)) (pa_cons (pv 35) (pa_cons (pv 35) pa_nil)))))) pa_nil)) (pe_lst pa_nil)))))))
      (pss_one (ps_ret (pe_cmpR (eqDD K hu) (pe_call FMi.G (hr.mono (by decide)) (by rfl) FMi.D.g FMi.D.F.kp FMi.D.b .nil pass0 (pa_cons (pv 2) (pa_cons (pv 32) pa_nil))) (pe_tup (pa_cons (pe_callTy (tupleOf K) (by rfl) B.tuple PyProof.Rows.boot_tuple (pa_cons (pe_lc (own := [("_law_cell", 33)]) rfl scLaw.nd (pi_list (pv 21)) (blkOk_by (N := nmLaw) (sc := defScope sLaw) (by decide +kernel)) (fun _ _ _ _ _ => (pg_name (i := 33) scLaw.nd rfl (by first | exact .inl rfl | exact .inr rfl))) (fun _ _ _ _ _ => pts_nil) (fun _ _ _ _ _ => (pe_ifExp (pt_cmp (pc_din (lt1 hu) (pv 33) (pv 34))) (pe_tup (pa_cons pe_int pa_nil)) (pe_tup (pa_cons pe_int (pa_cons pe_int pa_nil)))))) pa_nil)) (pa_cons (pe_callTy (tupleOf K) (by rfl) B.tuple PyProof.Rows.boot_tuple (pa_cons (pv 16) pa_nil)) pa_nil))) (nomark _))))))), fun σ H inv k => ?_⟩
  obtain ⟨a, d, cs, lc, gv, h, w, ⟨v5, v6, v7, v8, v9, v10, v11, v12, v13, v14, v15, v16, v17, v18, v19, v20, v22, v23, v24, v25, v26, v27, v28, v29, v30, v31, v32, v33, v34, v35, v36, rfl⟩, hg, hs, hl, nld, nlc⟩ := inv
  have al := allC_len hg.2.2.2
  refine ⟨_, rfl, lc, rfl, ⟨_, sql hl⟩, fun D hD => ?_⟩
  have nD := hs.none hD
  refine lc_it (walk_list (xs := (allC h w).map V.int)) (fun i H' => ∃ (acc : List V) (ts : List (List Int)), H' D = some (.lst acc) ∧ Paired (IH H') acc ts ∧ (∀ t ∈ ts, t.length = 2) ∧ ts.length ≤ i ∧ SrcAt H' d cs ∧ ∀ b o, b ≠ D → b ≠ d → b ≠ cs → H b = some o → H' b = some o)
    ⟨[], [], upd_same, .nil, (fun t ht => by cases ht), Nat.le_refl _, hs.upd nD.1 nD.2, fun b o hb _ _ e => by rw [upd_ne hb]; exact e⟩ (fun i H' _ h => ?_) (fun i x H' H'' hi h y => ?_) (fun H' h => ?_)
  · obtain ⟨_, _, _, _, _, _, _, kp⟩ := h
    exact sql (kp _ _ (fun z => by rw [z, hD] at hl; cases hl) nld nlc hl)
  · obtain ⟨acc, ts, hA, pA, two, tl, hs', kp⟩ := h
    obtain ⟨rfl, hx⟩ := y
    obtain ⟨c, hc, rfl⟩ := at_ints hx
    refine ⟨rfl, _, rfl, d, cs, 2, rfl, hs', by decide, fun r H3 _ _ hs3 rn3 => ⟨rfl, _, rfl, ?_⟩⟩
    have k3 : Kt H'' H3 := Rn.kt hs' rn3
    have hA3 := rn3 _ _ nD.1 nD.2 hA
    by_cases z : r = 0
    · refine ifT (by rw [z]; rfl) ⟨_, rfl, _, rfl, d, cs, 4, rfl, hs3, by decide, fun r4 H4 _ _ hs4 rn4 => ⟨(show 2 ≤ sizeLine by decide), fun T hT => ?_⟩⟩
      have hA4 := rn4 _ _ nD.1 nD.2 hA3
      have nT : T ≠ D := (ne_of_none hA4 hT).symm
      have k4 : Kt H3 H4 := Rn.kt hs3 rn4
      have tD := hs4.none hT
      have accl : acc.length ≤ 16 := by
        rw [pA.length]
        rw [List.length_map] at hi
        omega
      refine ⟨acc, upd_at hT hA4, by rw [sizeLine_eq]; omega, acc ++ [.ref T], ts ++ [[c, r4]], upd_same, ?_, ?_, ?_, (hs4.same (same_new hT)).upd nD.1 nD.2, fun b o h1 h2 h3 e => ?_⟩
      · refine paired_app (paired_mono (fun _ _ z => IH.kt (ktL (upd_at hT hA4)) (IH.kt (kt_same (same_new hT)) (IH.kt k4 (IH.kt k3 z)))) pA) (paired_one ⟨T, rfl, ?_⟩)
        rw [upd_ne nT, upd_same]
        rfl
      · intro t ht
        rcases List.mem_append.mp ht with q | q
        · exact two t q
        · rw [List.mem_singleton.mp q]
          rfl
      · rw [List.length_append]
        exact Nat.succ_le_succ tl
      · rw [upd_ne h1]
        exact upd_at hT (rn4 _ _ h2 h3 (rn3 _ _ h2 h3 (kp b o h1 h2 h3 e)))
    · refine ifF (decide_eq_false fun q => z (V.int.inj q)) ⟨acc, ts, hA3, paired_mono (fun _ _ z => IH.kt k3 z) pA, two, Nat.le_succ_of_le tl, hs3, fun b o h1 h2 h3 e => rn3 _ _ h2 h3 (kp b o h1 h2 h3 e)⟩
  obtain ⟨acc, ts, hA, pA, two, tl, hs', kp⟩ := h
  have ts16 : ts.length ≤ 16 := by
    rw [List.length_map] at tl
    omega
  have hl1 := kp _ _ (fun z => by rw [z, hD] at hl; cases hl) nld nlc hl
  have hg1 : GrH H' gv h w := by
    obtain ⟨⟨ga, e, q⟩, r⟩ := hg
    have n := hs.ne q
    exact ⟨⟨ga, e, kp _ _ (fun z => by rw [z, hD] at q; cases q) n.1 n.2 q⟩, r⟩
  refine ⟨D, acc, rfl, sql hA, fun T o hT od => ?_⟩
  have sT := same_new (o := .frz o (.tup acc)) hT
  have hT2 : upd H' T (.frz o (.tup acc)) T = some (.frz o (.tup acc)) := upd_same
  have pA2 := paired_mono (fun _ _ z => IH.kt (kt_same sT) z) pA
  have hl2 := sT _ _ hl1
  have hg2 := hg1.kt (kt_same sT)
  show gName 32 (V.ref T) _ (upd H' T (.frz o (.tup acc))) _
  generalize upd H' T (.frz o (.tup acc)) = H2 at *
  obtain ⟨ps, eps, pps⟩ := ps_of (K := K) pA2 two
  refine ⟨_, rfl, T, o, ps, _, rfl, by rw [← eps]; exact hT2, od, pps, fun dk hdk => ⟨by decide, fun L hL => ⟨(show 2 ≤ sizeLine by decide), fun T2 hT3 => ?_⟩⟩⟩
  refine ⟨T2, _, rfl, sqt upd_same, rfl, _, _, rfl, _, _, rfl, rfl, ?_⟩
  have s3 := same_new (o := .dK (mergeK [] (ts.map fun t => ((Sum.inl (t.getD 0 0) : L2.Key), V.int (t.getD 1 0))))) hdk
  have s4 := same_new (o := .lst []) hL
  have s5 := same_new (o := .tup [.ref dk, .ref L]) hT3
  have hdk2 := Same.tr s4 s5 _ _ (upd_same (H := H2) (a := dk) (o := .dK (mergeK [] (ts.map fun t => ((Sum.inl (t.getD 0 0) : L2.Key), V.int (t.getD 1 0))))))
  have hL2 := s5 _ _ (upd_same (H := upd H2 dk (.dK (mergeK [] (ts.map fun t => ((Sum.inl (t.getD 0 0) : L2.Key), V.int (t.getD 1 0)))))) (a := L) (o := .lst []))
  have s35 := Same.tr s3 (Same.tr s4 s5)
  generalize upd (upd (upd H2 dk (.dK (mergeK [] (ts.map fun t => ((Sum.inl (t.getD 0 0) : L2.Key), V.int (t.getD 1 0)))))) L (.lst [])) T2 (.tup [.ref dk, .ref L]) = H5 at *
  have hT5 := s35 _ _ hT2
  have pA5 := paired_mono (fun _ _ z => IH.kt (kt_same s35) z) pA2
  have hl5 := s35 _ _ hl2
  have hg5 := hg2.kt (kt_same s35)
  have accl : acc.length = ts.length := pA5.length
  refine ⟨_, rfl, T, rfl, ⟨_, .inl (.inr ⟨o, hT5⟩)⟩, ?_⟩
  refine for_it (walk_tup (xs := acc)) (fun i σ H' => ∃ (u33 u35 u36 : Option V) (L' : Addr) (accR : List V), σ = [some (.ref a), some (.ref d), some gv, some (.int h), some (.int w), v5, v6, v7, v8, v9, v10, v11, v12, v13, v14, v15, some (.ref L'), v17, v18, v19, v20, some (.ref lc), v22, v23, v24, v25, v26, v27, v28, v29, v30, v31, some (.ref T), u33, some (.ref dk), u35, u36] ∧ H' L' = some (.lst accR) ∧ Paired (RuH H') accR (toldR h w (ts.take i)) ∧ Same H5 H')
    ⟨_, _, _, L, [], rfl, hL2, .nil, same_refl _⟩ (fun i σ H' _ h => ?_) (fun i x σ H' H'' hi h y => ?_) (fun σ H' h => ?_)
  · obtain ⟨_, _, _, _, _, _, _, _, sA⟩ := h
    exact .inl (.inr ⟨o, sA _ _ hT5⟩)
  · obtain ⟨u33, u35, u36, L', accR, rfl, hR, pR, sA⟩ := h
    obtain ⟨rfl, hx⟩ := y
    obtain ⟨t, ht, it⟩ := paired_at pA5 hx
    have l2 := two t (List.mem_of_getElem? ht)
    have tk : ts.take (i + 1) = ts.take i ++ [t] := by rw [List.take_add_one, ht]; rfl
    obtain ⟨z, rfl, hz⟩ := it.kt (kt_same sA)
    have rl : accR.length ≤ 16 := by
      rw [pR.length]
      unfold toldR
      rw [List.length_map]
      refine Nat.le_trans (List.length_filter_le _ _) ?_
      rw [List.length_map, List.length_take]
      omega
    match t, l2, hz, tk with
    | [c, n], _, hz, tk =>
      refine ⟨z, _, rfl, sqt hz, rfl, _, _, rfl, _, _, rfl, rfl, ?_⟩
      refine ⟨_, rfl, _, rfl, gv, h, w, c, true, rfl, hg5.kt (kt_same sA), fun l H1 s1 _ hl1 => ?_⟩
      rw [near_about] at hl1
      refine ⟨l, _, rfl, .inl ⟨sql hl1, fun T3 hT3 => ?_⟩⟩
      have t3 := same_new (o := .tup ((aboutL h w c).map V.int)) hT3
      have i3 : IH (upd H1 T3 (.tup ((aboutL h w c).map V.int))) (.ref T3) (aboutL h w c) := ⟨T3, rfl, upd_same⟩
      have s13 := Same.tr s1 t3
      generalize upd H1 T3 (.tup ((aboutL h w c).map V.int)) = H3 at *
      have m1 : toldR h w ([[c, n]]) = if mineB (aboutL h w c, n) = true then [cntR (aboutL h w c) n] else [] := by
        show ((([(aboutL h w c, n)] : List (List Int × Int)).filter mineB).map fun c => cntR c.1 c.2) = _
        by_cases z : mineB (aboutL h w c, n) = true
        · rw [if_pos z, List.filter_cons_of_pos z]
          rfl
        · rw [if_neg z, List.filter_cons_of_neg z]
          rfl
      have tR : toldR h w (ts.take (i + 1)) = toldR h w (ts.take i) ++ toldR h w [[c, n]] := by
        unfold toldR
        rw [tk, List.map_append, List.filter_append, List.map_append]
      refine ⟨_, rfl, _, rfl, (show 0 ≤ sizeLine by decide), fun T4 hT4 => ?_⟩
      have t4 := same_new (o := .tup []) hT4
      have i4 : IH (upd H3 T4 (.tup [])) (.ref T4) [] := ⟨T4, rfl, upd_same⟩
      refine ⟨_, _, IH.dp (i3.kt (kt_same t4)), IH.dp i4, cmp_dI _, cmp_dI _, _, rfl, ?_⟩
      rw [eqv_dI]
      have s14 := Same.tr s13 t4
      have i34 := i3.kt (kt_same t4)
      generalize upd H3 T4 (.tup []) = H4 at *
      by_cases ab : aboutL h w c = []
      · refine ifF (by rw [decide_eq_true ab]; rfl) ⟨by decide, fun L5 hL5 => ?_⟩
        have t5 := same_new (o := .lst []) hL5
        have sL := Same.tr s14 t5
        refine ⟨L', L5, accR, [], rfl, rfl, sL _ _ hR, upd_same, by rw [sizeLine_eq]; show accR.length + 0 ≤ _; omega, fun p hp => ?_⟩
        have t6 := same_new (o := .lst (accR ++ [])) hp
        refine ⟨_, _, _, p, accR ++ [], rfl, upd_same, ?_, Same.tr sA (Same.tr sL t6)⟩
        have nb : ¬ mineB (aboutL h w c, n) = true := by unfold mineB; simp [ab]
        rw [tR, m1, if_neg nb, List.append_nil, List.append_nil]
        exact paired_mono (fun _ _ z => RuH.kt (kt_same (Same.tr sL (by rw [List.append_nil] at t6; exact t6))) z) pR
      · refine ifT (by rw [decide_eq_false ab]; rfl) ⟨_, rfl, (show 1 ≤ sizeLine by decide), fun T6 hT6 => ⟨_, rfl, _, rfl, (show 5 ≤ sizeLine by decide), fun T7 hT7 => ⟨(show 1 ≤ sizeLine by decide), fun L5 hL5 => ?_⟩⟩⟩
        have t6 := same_new (o := .tup [.int 1]) hT6
        have t7 := same_new (o := .tup [.str "count", .ref T3, .ref T6, .int n, .int n]) hT7
        have t5 := same_new (o := .lst [.ref T7]) hL5
        have t75 := Same.tr t7 t5
        have t657 := Same.tr t6 t75
        have sL := Same.tr s14 t657
        have rT : RuH (upd (upd (upd H4 T6 (.tup [.int 1])) T7 (.tup [.str "count", .ref T3, .ref T6, .int n, .int n])) L5 (.lst [.ref T7])) (.ref T7) (cntR (aboutL h w c) n) := ⟨T7, .ref T3, .ref T6, rfl, t5 _ _ upd_same, i34.kt (kt_same t657), T6, rfl, t75 _ _ upd_same⟩
        refine ⟨L', L5, accR, [.ref T7], rfl, rfl, sL _ _ hR, upd_same, by rw [sizeLine_eq]; show accR.length + 1 ≤ _; omega, fun p hp => ?_⟩
        have t8 := same_new (o := .lst (accR ++ [.ref T7])) hp
        refine ⟨_, _, _, p, accR ++ [.ref T7], rfl, upd_same, ?_, Same.tr sA (Same.tr sL t8)⟩
        have yb : mineB (aboutL h w c, n) = true := by unfold mineB; simp [ab]
        rw [tR, m1, if_pos yb]
        exact paired_app (paired_mono (fun _ _ z => RuH.kt (kt_same (Same.tr sL t8)) z) pR) (paired_one (rT.kt (kt_same t8)))
  · obtain ⟨u33, u35, u36, L', accR, rfl, hR, pR, sA⟩ := h
    rw [accl, List.take_length] at pR
    have hg6 := hg5.kt (kt_same sA)
    refine ⟨_, rfl, _, rfl, gv, h, w, .ref T, ts, rfl, hg6, ⟨T, acc, rfl, .inr ⟨o, sA _ _ hT5⟩, paired_mono (fun _ _ z => IH.kt (kt_same sA) z) pA5⟩, two, by omega, fun v7 H7 s7 p7 => ?_⟩
    have s57 := Same.tr sA s7
    refine ⟨_, rfl, lc, rfl, ⟨_, sql (s57 _ _ hl5)⟩, fun D2 hD2 => ?_⟩
    refine lc_mapG (walk_list (xs := (allC h w).map V.int)) hD2 IH (fun k h => h.kt k) ((allC h w).map (mineD ts)) (by rw [List.length_map, List.length_map]) (fun H' s => sql (s _ _ (s57 _ _ hl5))) (by rw [List.length_map]; omega) (fun i x H' H'' r0 hr0 s y C kk => ?_) (fun H8 ds s8 hA8 pA8 => ?_)
    · obtain ⟨rfl, hx⟩ := y
      obtain ⟨c, hc, rfl⟩ := at_ints hx
      rw [List.getElem?_map, hc] at hr0
      cases hr0
      refine ⟨rfl, _, rfl, _, rfl, dk, _, rfl, DGet.k (k := Sum.inl c) (s _ _ (s57 _ _ hdk2)), _, rfl, ?_⟩
      rw [known_eq]
      unfold mineD at kk
      by_cases z : (freeL ts).any (· == c) = true
      · rw [if_pos z] at kk
        exact ifT z ⟨(show 1 ≤ sizeLine by decide), fun T hT => kk _ _ (same_new hT) ⟨T, rfl, upd_same⟩⟩
      · rw [if_neg z] at kk
        exact ifF (Bool.eq_false_iff.mpr z) ⟨(show 2 ≤ sizeLine by decide), fun T hT => kk _ _ (same_new hT) ⟨T, rfl, upd_same⟩⟩
    · have s58 := Same.tr s7 s8
      refine ⟨D2, ds, rfl, .inl ⟨sql hA8, fun T8 hT8 => ⟨_, rfl, L', accR, rfl, .inl ⟨sql (Same.tr s58 (same_new hT8) _ _ hR), fun T9 hT9 => ⟨(show 2 ≤ sizeLine by decide), fun T10 hT10 => ?_⟩⟩⟩⟩⟩
      have t8 := same_new (o := .tup ds) hT8
      have t9 := same_new (o := .tup accR) hT9
      have t10 := same_new (o := .tup [.ref T8, .ref T9]) hT10
      have t910 := Same.tr t9 t10
      have t810 := Same.tr t8 t910
      have pz : PzH (upd (upd (upd H8 T8 (.tup ds)) T9 (.tup accR)) T10 (.tup [.ref T8, .ref T9])) (.ref T10) (mineP h w ts) := ⟨T10, .ref T8, .ref T9, rfl, upd_same, ⟨T8, ds, rfl, t910 _ _ upd_same, paired_mono (fun _ _ z => IH.kt (kt_same t810) z) pA8⟩, T9, accR, rfl, t10 _ _ upd_same, paired_mono (fun _ _ z => RuH.kt (kt_same (Same.tr s58 t810)) z) pR⟩
      refine ⟨_, _, puz_dp (p7.kt (kt_same (Same.tr s8 t810))), puz_dp pz, cmp_puz _, cmp_puz _, ?_⟩
      rw [eqv_puz]
      exact k _
end
end G9

set_option Elab.async false
set_option linter.all false
set_option maxRecDepth 100000
set_option maxHeartbeats 4000000
/-! tuple * 1: the same tuple; tuple * k -/
namespace GX
open PySem PySem.Spec PyProof.Rows L2
theorem tuple_mul1 (l : Addr) (items : Array Value) (n : Nat) (dd : Option Addr) (sl : Array (Option Value)) (u : Tok) (c1 : (items.isEmpty || (1 : Int) == 1) = true) :
    Meets (Builtin.«tuple.__mul__» ⟨[.ref l, .int 1 u], []⟩) (fun _ R s => s.heap.get? l = some { cls := .type "tuple", dict := dd, data := .seq items n, slots := sl } ∧
      R (.ok (.ret (Value.ref l))) s) :=
  .of_wp fun prog w A R s h => by
    obtain ⟨hp, g, d, tk, os⟩ := s
    obtain ⟨hl, h⟩ := h
    have f1 := AutoSeq1.idx_int
    have c0 : (decide ((1 : Int) < -(2 ^ 63)) || decide ((1 : Int) ≥ 2 ^ 63)) = false := by decide
    wp_walk using wpAny_loadPart' hl
    repeat (first
      | (refine wpAny_ite_false (decide_eq_false (by rw [c0]; exact Bool.false_ne_true)) ?_; wp_walk using wpAny_loadPart' hl)
      | (refine wpAny_ite_true (decide_eq_true c1) ?_; wp_walk using wpAny_loadPart' hl))
    exact ⟨_, rfl, h⟩
def rRepA (K : PySem.W.Frag) : R2 := fun x y H Q => ∃ l k xs, x = .ref l ∧ y = .int k ∧ SqT K H l xs ∧ xs ≠ [] ∧ 1 ≤ k ∧ k ≤ 1000 ∧ xs.length ≤ 1000 ∧ (k = 1 → Q (.ref l) H) ∧ (2 ≤ k → ∀ p, H p = none → Q (.ref p) (upd H p (.tup (List.replicate k.toNat xs).flatten)))
section
variable {X : Cx}
theorem op_repA : OpR X (binaryOp .Mult) (rRepA X.K) := by
  intro pins s σ H x y v u Q I rx ry h
  obtain ⟨l, k, xs, rfl, rfl, hT, hne, h1, h2, hz, q1, q2⟩ := h
  by_cases k2 : 2 ≤ k
  · exact op_repT pins s σ H _ _ v u Q I rx ry ⟨l, k, xs, rfl, rfl, hT, hne, k2, h2, hz, q2 k2⟩
  · have k1 : k = 1 := by omega
    subst k1
    cases rx
    obtain ⟨t, rfl⟩ := ry
    obtain ⟨its, r, ⟨⟨cls, dd, data, sl⟩, ho, hc, n, hd⟩, hs⟩ := I.tuple hT
    simp only at hc hd
    subst hc hd
    exact wpAny_binaryOp_repeat_ref (T := "tuple") (U := "int") (by decide) ⟨_, ho, rfl⟩ (fun s' => typeIs_int s' 1 t) noFill_tuple_mul F.fills_int_mul F.slot_int_rmul repeat_tuple F.slot_int_index.lookup
      (call_meets F.slot_int_rmul (typeIs_int s 1 t) F.entry_int_rmul (F.args_int_rmul_2 _ _) (int_rmul_tuple 1 t l its.toArray n dd sl)
        ⟨ho, rfl, ⟨_, ho, rfl⟩, call_meets F.slot_tuple_mul ⟨_, ho, rfl⟩ F.entry_tuple_mul (F.args_tuple_mul_2 _ _) (tuple_mul1 l its.toArray n dd sl t (by simp)) ⟨ho, ⟨.ref l, H, I, rfl, q1 rfl⟩⟩⟩)
end
end GX

set_option Elab.async false
set_option linter.all false
set_option maxRecDepth 100000
set_option maxHeartbeats 8000000
/-! the law: painted, roaded -/
namespace G9
open PySem PySem.Spec PyProof.Rows L2 GX
theorem repA (K : PySem.W.Frag) {X : Cx} (h : X.K = K := by rfl) : OpR X (binaryOp .Mult) (rRepA K) := h ▸ op_repA
theorem paired_rep {α β : Type} {R : α → β → Prop} {x : α} {y : β} (h : R x y) : ∀ n : Nat, Paired R (List.replicate n [x]).flatten (List.replicate n y)
  | 0 => .nil
  | n + 1 => .cons h (paired_rep h n)
/-- one row, over and over -/
theorem rep_rows {K : PySem.W.Frag} {H : Hp} {T : Addr} {v : V} {row : List Int} {k : Int} (hT : H T = some (.tup [v])) (iv : IH H v row) (k1 : 1 ≤ k) (k2 : k ≤ 1000) {Q : VK} (kk : ∀ w H', Same H H' → RowsH H' w (List.replicate k.toNat row) → Q w H') : rRepA K (.ref T) (.int k) H Q := by
  refine ⟨T, k, _, rfl, rfl, sqt hT, by simp, k1, k2, by simp, fun e => ?_, fun _ p hp => ?_⟩
  · subst e
    exact kk _ _ (same_refl _) ⟨T, _, rfl, hT, .cons iv .nil⟩
  · exact kk _ _ (same_new hp) ⟨p, _, rfl, upd_same, paired_rep (iv.kt (kt_same (same_new hp))) _⟩
/-- a comprehension that draws -/
theorem lc_src {α : Type} {J : It} {n : Nat} {G : Hp → Prop} {Y : Nat → Hp → V → Hp → Prop} {g : TG} {te : TE} {vs : List Nat} {σ : L2.St} {H1 : Hp} {D d cs : Addr} {Qd : Hp → Prop} (w : Walk J n G Y) (hD : H1 D = none) (hs : SrcAt H1 d cs) (Rel : Hp → V → α → Prop) (st : ∀ {H H' : Hp} {v : V} {a : α}, Kt H H' → Rel H v a → Rel H' v a)
    (hG : ∀ H', SrcAt H' d cs → Rn d cs H1 H' → G H') (hn : n ≤ 1000)
    (turn : ∀ i x H' H'', i < n → SrcAt H' d cs → Rn d cs H1 H' → Y i H' x H'' → ∀ C : V → Hp → Prop, (∀ y H4 a, SrcAt H4 d cs → Rn d cs H' H4 → Rel H4 y a → C y H4) → g x (wipe σ vs) H'' fun σ2 H2 => wipe σ2 vs = wipe σ vs ∧ te σ2 H2 C)
    (fin : ∀ H' ys as, SrcAt H' d cs → Rn d cs H1 H' → H' D = some (.lst ys) → Paired (Rel H') ys as → ys.length = n → Qd H') : LcB J g tYes te vs σ H1 D Qd := by
  have nD := hs.none hD
  have rn : ∀ {B : Hp}, (∀ b o, b ≠ D → b ≠ d → b ≠ cs → H1 b = some o → B b = some o) → Rn d cs H1 B := fun kp b o h1 h2 e => kp b o (fun z => by rw [z, hD] at e; cases e) h1 h2 e
  refine lc_it w (fun i H' => ∃ ys as, H' D = some (.lst ys) ∧ Paired (Rel H') ys as ∧ ys.length = i ∧ SrcAt H' d cs ∧ ∀ b o, b ≠ D → b ≠ d → b ≠ cs → H1 b = some o → H' b = some o)
    ⟨[], [], upd_same, .nil, rfl, hs.upd nD.1 nD.2, fun b o hb _ _ e => by rw [upd_ne hb]; exact e⟩ (fun i H' _ h => ?_) (fun i x H' H'' hi h y => ?_) (fun H' h => ?_)
  · obtain ⟨_, _, _, _, _, hs', kp⟩ := h
    exact hG _ hs' (rn kp)
  · obtain ⟨ys, as, hA, pA, yl, hs', kp⟩ := h
    refine turn i x H' H'' hi hs' (rn kp) y _ fun v H4 a hs4 rn4 hv => ?_
    have hA4 := rn4 _ _ nD.1 nD.2 hA
    refine ⟨ys, hA4, by rw [sizeLine_eq]; omega, ys ++ [v], as ++ [a], upd_same, ?_, by rw [List.length_append, yl]; rfl, hs4.upd nD.1 nD.2, fun b o h1 h2 h3 e => ?_⟩
    · exact paired_app (paired_mono (fun _ _ q => st (ktL hA4) (st (Rn.kt hs' rn4) q)) pA) (paired_one (st (ktL hA4) hv))
    · rw [upd_ne h1]
      exact rn4 _ _ h2 h3 (kp b o h1 h2 h3 e)
  · obtain ⟨ys, as, hA, pA, yl, hs', kp⟩ := h
    exact fin H' ys as hs' (rn kp) hA pA yl
theorem ints_of : ∀ {ys : List V} {ns : List Int}, Paired (fun v n => v = V.int n) ys ns → ys = ns.map V.int
  | _, _, .nil => rfl
  | _, _, .cons a r => by rw [a, ints_of r]; rfl
/-- two lists of rows put together -/
theorem cat_ls {H : Hp} {l1 l2 : Addr} {r1 r2 : List (List Int)} (h1 : LRows H (.ref l1) r1) (h2 : LRows H (.ref l2) r2) (len : r1.length + r2.length ≤ 1000) {Q : VK} (k : ∀ p H', Same H H' → H p = none → LRows H' (.ref p) (r1 ++ r2) → Q (.ref p) H') : rCat (.ref l1) (.ref l2) H Q := by
  obtain ⟨_, y1, e1, q1, p1⟩ := h1
  obtain ⟨_, y2, e2, q2, p2⟩ := h2
  cases e1
  cases e2
  have a1 := p1.length
  have a2 := p2.length
  refine ⟨l1, l2, y1, y2, rfl, rfl, q1, q2, by rw [sizeLine_eq]; omega, fun p hp => ?_⟩
  have s := same_new (o := .lst (y1 ++ y2)) hp
  exact k p _ s hp ⟨p, _, rfl, upd_same, paired_app (paired_mono (fun _ _ z => IH.kt (kt_same s) z) p1) (paired_mono (fun _ _ z => IH.kt (kt_same s) z) p2)⟩
theorem cut_drop (xs : List V) {r : Int} (h : 0 ≤ r) : cutV xs (some r) none = xs.drop r.toNat := by
  unfold cutV
  have e1 : HT.sIx xs.length xs.length none = xs.length := rfl
  have e2 : HT.sIx xs.length 0 (some r) = min r.toNat xs.length := by
    unfold HT.sIx
    simp
    omega
  rw [e1, e2]
  by_cases z : r.toNat ≤ xs.length
  · rw [Nat.min_eq_left z, List.take_of_length_le (by rw [List.length_drop]; exact Nat.le_refl _)]
  · rw [Nat.min_eq_right (by omega), List.drop_eq_nil_of_le (Nat.le_refl _), List.drop_eq_nil_of_le (by omega), List.take_nil]
theorem paired_tk {α β : Type} {R : α → β → Prop} : ∀ {xs : List α} {ys : List β} (n : Nat), Paired R xs ys → Paired R (xs.take n) (ys.take n)
  | _, _, 0, _ => .nil
  | _, _, _ + 1, .nil => .nil
  | _, _, n + 1, .cons a r => .cons a (paired_tk n r)
theorem paired_dr {α β : Type} {R : α → β → Prop} : ∀ {xs : List α} {ys : List β} (n : Nat), Paired R xs ys → Paired R (xs.drop n) (ys.drop n)
  | _, _, 0, p => p
  | _, _, _ + 1, .nil => .nil
  | _, _, n + 1, .cons _ r => paired_dr n r
section
variable {P : Program} {w : World} {K : PySem.W.Frag} {mg : Str → Option Value} {base : Heap} {fPi fLi fTi fPt fRo : Addr} {dPi dLi dTi dPt dRo : FuncData}
theorem seg16 (B : Bl mg) (FPi : Fn P w K mg base "_law_pick" sPick ["_law_source", "_law_most"] 1 spPick fPi dPi) (FLi : Fn P w K mg base "_law_lines" sLLines ["_law_grid"] 1 spLines fLi dLi) (FTi : Fn P w K mg base "_law_ties" sLTies ["_law_grid"] 2 spLTies fTi dTi) (FPt : Fn P w K mg base "painted" sPainted ["grid", "rows", "columns"] 4 spPainted fPt dPt) (FRo : Fn P w K mg base "roaded" sRoaded ["grid", "rows", "columns"] 4 spRoaded fRo dRo) {f : Addr} {cdv : Value} {A : Around} {outer : List Env} {s : Shared} {H0 : Hp} {Q : VK} {E : XK} (hr : Room 5 (A.deeper (envOfC "law" (defScope sLaw) s.heap.objs.size f cdv)))
    (rest : ∃ t, PSs (cxOf CX0 P w K mg base nmLaw "law" (defScope sLaw) f cdv A outer s H0 E).nox ((defBody sLaw).drop 25) t ∧ ∀ σ H, InvC σ H → (∀ H', Q (.bl true) H') → t { nx := fun _ H' => Q .non H', rt := Q } σ H) :
    ∃ t, PSs (cxOf CX0 P w K mg base nmLaw "law" (defScope sLaw) f cdv A outer s H0 E).nox ((defBody sLaw).drop 16) t ∧ ∀ σ H, InvC σ H → (∀ H', Q (.bl true) H') → t { nx := fun _ H' => Q .non H', rt := Q } σ H := by
  have hu := hr.units
  obtain ⟨tr, pr, rest⟩ := rest
  refine ⟨_, (pss_cons (ps_asg (pe_call FLi.G (hr.mono (by decide)) (by rfl) FLi.D.g FLi.D.F.kp FLi.D.b .nil pass0 (pa_cons (pv 2) pa_nil)) (pg_tupK K (n := 2) rfl (pgs_cons (pg_name (i := 9) scLaw.nd rfl (by first | exact .inl rfl | exact .inr rfl)) (pgs_cons (pg_name (i := 10) scLaw.nd rfl (by first | exact .inl rfl | exact .inr rfl)) pgs_nil))))
      (pss_cons (ps_set (i := 26) scLaw.nd rfl (by first | exact .inl rfl | exact .inr rfl) (pe_lc (own := [("_law_line", 28)]) rfl scLaw.nd (pi_list (pe_op op_cat (pv 9) (pv 10))) (blkOk_by (N := nmLaw) (sc := defScope sLaw) (by decide +kernel)) (fun _ _ _ _ _ => (pg_name (i := 28) scLaw.nd rfl (by first | exact .inl rfl | exact .inr rfl))) (fun _ _ _ _ _ => pts_nil) (fun _ _ _ _ _ => (pe_callTy (tupleOf K) (by rfl) B.tuple PyProof.Rows.boot_tuple (pa_cons (pe_lc (own := [("_law_turn", 27)]) rfl scLaw.nd (pi_range1 (by rfl) B.range (pa_cons (pe_call FPi.G (hr.mono (by decide)) (by rfl) FPi.D.g FPi.D.F.kp FPi.D.b .nil pass0 (pa_cons (pv 1) (pa_cons pe_int pa_nil))) pa_nil)) (blkOk_by rfl) (fun _ _ _ _ _ => (pg_name (i := 27) scLaw.nd rfl (by first | exact .inl rfl | exact .inr rfl))) (fun _ _ _ _ _ => pts_nil) (fun _ _ _ _ _ => (pe_op op_add pe_int (pe_call FPi.G (hr.mono (by decide)) (by rfl) FPi.D.g FPi.D.F.kp FPi.D.b .nil pass0 (pa_cons (pv 1) (pa_cons pe_int pa_nil)))))) pa_nil)))))
      (pss_cons (ps_set (i := 29) scLaw.nd rfl (by first | exact .inl rfl | exact .inr rfl) (pe_lc (own := [("_law_line", 28)]) rfl scLaw.nd (pi_list (pe_op op_cat (pv 9) (pv 10))) (blkOk_by (N := nmLaw) (sc := defScope sLaw) (by decide +kernel)) (fun _ _ _ _ _ => (pg_name (i := 28) scLaw.nd rfl (by first | exact .inl rfl | exact .inr rfl))) (fun _ _ _ _ _ => pts_nil) (fun _ _ _ _ _ => (pe_call FPi.G (hr.mono (by decide)) (by rfl) FPi.D.g FPi.D.F.kp FPi.D.b .nil pass0 (pa_cons (pv 1) (pa_cons pe_int pa_nil))))))
      (pss_cons (ps_set (i := 30) scLaw.nd rfl (by first | exact .inl rfl | exact .inr rfl) (pe_op (repA K) (pe_tup (pa_cons (pe_tup (pa_cons pe_int (pa_cons pe_int pa_nil))) pa_nil)) (pe_op op_mul (pv 3) (pv 4))))
      (pss_cons (ps_set (i := 20) scLaw.nd rfl (by first | exact .inl rfl | exact .inr rfl) (pe_callTy (tupleOf K) (by rfl) B.tuple PyProof.Rows.boot_tuple (pa_cons (pe_lc (own := [("_law_k", 31), ("_law_line", 28)]) rfl scLaw.nd (pi_enum (by rfl) B.enumerate (pa_cons (pe_op op_cat (pv 9) (pv 10)) pa_nil)) (blkOk_by (N := nmLaw) (sc := defScope sLaw) (by decide +kernel)) (fun _ _ _ _ _ => (pg_tupK K (n := 2) rfl (pgs_cons (pg_name (i := 31) scLaw.nd rfl (by first | exact .inl rfl | exact .inr rfl)) (pgs_cons (pg_name (i := 28) scLaw.nd rfl (by first | exact .inl rfl | exact .inr rfl)) pgs_nil)))) (fun _ _ _ _ _ => pts_nil) (fun _ _ _ _ _ => (pe_tup (pa_cons pe_str (pa_cons (pv 28) (pa_cons (pe_ix (ixL K) (pv 26) (pv 31) (fun _ _ => rfl)) pa_nil)))))) pa_nil)))
      (pss_cons (ps_if (pt_cmpR (neDD K hu) (pe_call FPt.G (hr.mono (by decide)) (by rfl) FPt.D.g FPt.D.F.kp FPt.D.b .nil pass0 (pa_cons (pv 2) (pa_cons (pe_callTy (tupleOf K) (by rfl) B.tuple PyProof.Rows.boot_tuple (pa_cons (pe_slice sl_list (pv 26) po_none (po_some (pv 3))) pa_nil)) (pa_cons (pe_callTy (tupleOf K) (by rfl) B.tuple PyProof.Rows.boot_tuple (pa_cons (pe_slice sl_list (pv 26) (po_some (pv 3)) po_none) pa_nil)) pa_nil)))) (pe_tup (pa_cons (pv 30) (pa_cons (pv 20) pa_nil))) (nomark _)) (pss_one (ps_ret pe_bl)) pss_nil)
      (pss_cons (ps_set (i := 20) scLaw.nd rfl (by first | exact .inl rfl | exact .inr rfl) (pe_callTy (tupleOf K) (by rfl) B.tuple PyProof.Rows.boot_tuple (pa_cons (pe_lc (own := [("_law_k", 31), ("_law_line", 28)]) rfl scLaw.nd (pi_enum (by rfl) B.enumerate (pa_cons (pe_op op_cat (pv 9) (pv 10)) pa_nil)) (blkOk_by (N := nmLaw) (sc := defScope sLaw) (by decide +kernel)) (fun _ _ _ _ _ => (pg_tupK K (n := 2) rfl (pgs_cons (pg_name (i := 31) scLaw.nd rfl (by first | exact .inl rfl | exact .inr rfl)) (pgs_cons (pg_name (i := 28) scLaw.nd rfl (by first | exact .inl rfl | exact .inr rfl)) pgs_nil)))) (fun _ _ _ _ _ => pts_nil) (fun _ _ _ _ _ => (pe_tup (pa_cons pe_str (pa_cons (pv 28) (pa_cons (pe_tup (pa_cons pe_int pa_nil)) (pa_cons (pe_ix (ixL K) (pv 29) (pv 31) (fun _ _ => rfl)) (pa_cons (pe_ix (ixL K) (pv 29) (pv 31) (fun _ _ => rfl)) pa_nil)))))))) pa_nil)))
      (pss_cons (ps_set (i := 20) scLaw.nd rfl (by first | exact .inl rfl | exact .inr rfl) (pe_op (catA K) (pv 20) (pe_tup (pa_cons (pe_tup (pa_cons pe_str (pa_cons (pe_callTy (tupleOf K) (by rfl) B.tuple PyProof.Rows.boot_tuple (pa_cons (pv 21) pa_nil)) (pa_cons (pe_call FTi.G (hr.mono (by decide)) (by rfl) FTi.D.g FTi.D.F.kp FTi.D.b .nil pass0 (pa_cons (pv 2) pa_nil)) (pa_cons (pe_tup (pa_cons pe_int pa_nil)) pa_nil))))) pa_nil))))
      (pss_cons (ps_if (pt_cmpR (neDD K hu) (pe_call FRo.G (hr.mono (by decide)) (by rfl) FRo.D.g FRo.D.F.kp FRo.D.b .nil pass0 (pa_cons (pv 2) (pa_cons (pe_callTy (tupleOf K) (by rfl) B.tuple PyProof.Rows.boot_tuple (pa_cons (pe_slice sl_list (pv 29) po_none (po_some (pv 3))) pa_nil)) (pa_cons (pe_callTy (tupleOf K) (by rfl) B.tuple PyProof.Rows.boot_tuple (pa_cons (pe_slice sl_list (pv 29) (po_some (pv 3)) po_none) pa_nil)) pa_nil)))) (pe_tup (pa_cons (pv 30) (pa_cons (pv 20) pa_nil))) (nomark _)) (pss_one (ps_ret pe_bl)) pss_nil)
      pr))))))))), fun σ H inv k => ?_⟩
  obtain ⟨a, d, cs, lc, gv, h, w, ⟨v5, v6, v7, v8, v9, v10, v11, v12, v13, v14, v15, v16, v17, v18, v19, v20, v22, v23, v24, v25, v26, v27, v28, v29, v30, v31, v32, v33, v34, v35, v36, rfl⟩, hg, hs, hl, nld, nlc⟩ := inv
  have le := hg.le
  have h1 := hg.2.1
  have w1 := hg.2.2.1
  have rlen : (rowLots h w).length + (colLots h w).length ≤ 32 := by rw [rowLots_len, colLots_len]; omega
  refine ⟨_, rfl, gv, h, w, rfl, hg, fun T l1 l2 H1 e1 e2 s1 hT r1 r2 => ⟨T, _, rfl, sqt hT, rfl, _, _, rfl, _, _, rfl, rfl, ?_⟩⟩
  have hs1 := hs.same s1
  have hl1 := s1 _ _ hl
  have hg1 := hg.kt (kt_same s1)
  -- the lengths
  refine ⟨_, rfl, _, rfl, cat_ls r1 r2 (by omega) fun p H2 s2 hp rp => ⟨p, rfl, ?_⟩⟩
  obtain ⟨_, ys, ep, qp, pp⟩ := rp
  cases ep
  have hs2 := hs1.same s2
  have np := hs1.none hp
  have yl : ys.length ≤ 32 := by rw [pp.length, List.length_append]; exact rlen
  refine ⟨⟨_, sql qp⟩, fun D hD => ?_⟩
  have nD := hs2.none hD
  refine lc_src (walk_list (xs := ys)) hD hs2 IH (fun k h => h.kt k) (fun H' hs' rn => sql (rn _ _ np.1 np.2 qp)) (by omega) (fun i x H' H'' hi hs' rn' y C kk => ?_) (fun H3 ls lens hs3 rn3 hA3 pA3 ll => ?_)
  · obtain ⟨rfl, hx⟩ := y
    refine ⟨rfl, _, rfl, d, cs, 3, rfl, hs', by decide, fun r H3 _ rb hs3 rn3 => ⟨_, rfl, ?_⟩⟩
    have rb := rb (by decide)
    refine ⟨by omega, by omega, fun D2 hD2 => ?_⟩
    refine lc_src (walk_range (lo := 0) (n := r.toNat)) hD2 hs3 (fun _ v n => v = V.int n) (fun _ h => h) (fun _ _ _ => trivial) (by omega) (fun j x2 H4 H5 hj hs4 rn4 y2 C2 k2 => ?_) (fun H4 zs ns hs4 rn4 hA4 pA4 _ => ?_)
    · obtain ⟨rfl, rfl⟩ := y2
      exact ⟨rfl, _, rfl, d, cs, 3, rfl, hs4, by decide, fun r5 H6 _ _ hs6 rn6 => ⟨_, _, rfl, rfl, k2 _ H6 (1 + r5) hs6 rn6 rfl⟩⟩
    · rw [ints_of pA4] at hA4
      refine ⟨D2, _, rfl, .inl ⟨sql hA4, fun T hT => ?_⟩⟩
      exact kk (.ref T) _ ns (hs4.same (same_new hT)) (Rn.trans rn3 (Rn.trans rn4 (rn_same (same_new hT)))) ⟨T, rfl, upd_same⟩
  have nl1 := hs.none e1
  have nl2 := hs.none e2
  have rnL : ∀ {A B : Hp} {l : Addr} {rows : List (List Int)}, SrcAt A d cs → Rn d cs A B → l ≠ d ∧ l ≠ cs → LRows A (.ref l) rows → LRows B (.ref l) rows := fun sA rn n ⟨_, z, e, q, pz⟩ => by
    cases e
    exact ⟨_, z, rfl, rn _ _ n.1 n.2 q, paired_mono (fun _ _ z => IH.kt (Rn.kt sA rn) z) pz⟩
  have rn03 := Rn.trans (rn_same s2) rn3
  have r1' := rnL hs1 rn03 nl1 r1
  have r2' := rnL hs1 rn03 nl2 r2
  have hl3 := rn03 _ _ nld nlc hl1
  have hg3 := hg1.kt (Rn.kt hs1 rn03)
  show gName 26 (V.ref D) _ H3 _
  -- the numbers
  refine ⟨_, rfl, _, rfl, cat_ls r1' r2' (by omega) fun p4 H4 s4 hp4 rp4 => ⟨p4, rfl, ?_⟩⟩
  obtain ⟨_, ys4, ep4, qp4, pp4⟩ := rp4
  cases ep4
  have hs4 := hs3.same s4
  have np4 := hs3.none hp4
  have yl4 : ys4.length = ys.length := by rw [pp4.length, pp.length]
  refine ⟨⟨_, sql qp4⟩, fun D5 hD5 => ?_⟩
  refine lc_src (walk_list (xs := ys4)) hD5 hs4 (fun _ v n => v = V.int n) (fun _ h => h) (fun H' hs' rn => sql (rn _ _ np4.1 np4.2 qp4)) (by omega) (fun i x H' H'' hi hs' rn' y C kk => ?_) (fun H5 ms ns hs5 rn5 hA5 pA5 nl => ?_)
  · obtain ⟨rfl, hx⟩ := y
    exact ⟨rfl, _, rfl, d, cs, 5, rfl, hs', by decide, fun r H3 _ _ hs3 rn3 => kk _ H3 r hs3 rn3 rfl⟩
  have nD5 := hs4.none hD5
  rw [ints_of pA5] at hA5
  have nsl : ns.length = ys.length := by rw [← pA5.length, nl, yl4]
  have lensl : lens.length = ys.length := by rw [← pA3.length, ll]
  have rn35 := Rn.trans (rn_same s4) rn5
  have hA53 : H5 D = some (.lst ls) := rn35 _ _ nD.1 nD.2 hA3
  have pA53 := paired_mono (fun _ _ z => IH.kt (Rn.kt hs3 rn35) z) pA3
  have r1'' := rnL hs3 rn35 nl1 r1'
  have r2'' := rnL hs3 rn35 nl2 r2'
  have hl5 := rn35 _ _ nld nlc hl3
  have hg5 := hg3.kt (Rn.kt hs3 rn35)
  show gName 29 (V.ref D5) _ H5 _
  clear rn3 rn03 rn5 rn35 r1 r2 r1' r2' pA3 hA3 hs3 hs4 hs1 hs2 hl hl1 hl3 hg1 hg3
  -- plain
  refine ⟨(show 2 ≤ sizeLine by decide), fun T0 hT0 => ⟨(show 1 ≤ sizeLine by decide), fun T1 hT1 => ?_⟩⟩
  have t0 := same_new (o := .tup [.int 0, .int 1]) hT0
  have t1 := same_new (o := .tup [.ref T0]) hT1
  have t01 := Same.tr t0 t1
  have e1 : upd (upd H5 T0 (.tup [.int 0, .int 1])) T1 (.tup [.ref T0]) T1 = some (.tup [.ref T0]) := upd_same
  have i0 : IH (upd (upd H5 T0 (.tup [.int 0, .int 1])) T1 (.tup [.ref T0])) (.ref T0) [0, 1] := ⟨T0, rfl, upd_at hT1 upd_same⟩
  have hw1 : 1 * 1 ≤ h * w := Int.mul_le_mul h1 w1 (by omega) (by omega)
  have hw16 := hg.2.2.2
  generalize upd (upd H5 T0 (.tup [.int 0, .int 1])) T1 (.tup [.ref T0]) = H6 at *
  refine ⟨_, rfl, _, rfl, _, _, rfl, rfl, .inr ⟨by omega, by omega⟩, rep_rows e1 i0 (by omega) (by omega) fun w7 H7 s7 p7 => ?_⟩
  have t07 := Same.tr t01 s7
  have lrS : ∀ {A B : Hp} {l : Addr} {rows : List (List Int)}, Same A B → LRows A (.ref l) rows → LRows B (.ref l) rows := fun s ⟨_, z, e, q, pz⟩ => by
    cases e
    exact ⟨_, z, rfl, s _ _ q, paired_mono (fun _ _ z => IH.kt (kt_same s) z) pz⟩
  show gName 30 w7 _ H7 _
  -- due: runs
  refine ⟨_, rfl, _, rfl, cat_ls (lrS t07 r1'') (lrS t07 r2'') (by omega) fun p8 H8 s8 hp8 rp8 => ?_⟩
  obtain ⟨_, ys8, ep8, qp8, pp8⟩ := rp8
  cases ep8
  have yl8 : ys8.length = ys.length := by rw [pp8.length, pp.length]
  have t08 := Same.tr t07 s8
  refine ⟨p8, ys8, rfl, sql qp8, fun D9 hD9 => ?_⟩
  have lotsl : (rowLots h w ++ colLots h w).length = ys.length := pp.length.symm
  refine lc_mapG walk_enum hD9 RuH (fun k h => h.kt k) (List.zipWith Rul.runs (rowLots h w ++ colLots h w) lens) (by rw [List.length_zipWith]; omega) (fun H' s => sql (s _ _ qp8)) (by omega) (fun i x H' H'' a2 ha2 s y C kk => ?_) (fun H9 us s9 hA9 pA9 => ?_)
  · obtain ⟨T, u, v, rfl, nT, rfl, hu, hv⟩ := y
    cases hu
    obtain ⟨r, hr2, ir⟩ := paired_at pp8 hv
    rw [List.getElem?_zipWith, hr2] at ha2
    cases hln : lens[i]? with
    | none => rw [hln] at ha2; cases ha2
    | some ln =>
      rw [hln] at ha2
      cases ha2
      have t8s := Same.tr t08 s
      obtain ⟨lv, hlv, ilv⟩ := paired_at' pA53 hln
      have sT := same_new (o := .tup [.int ((i : Nat) : Int), v]) nT
      refine ⟨T, _, rfl, sqt upd_same, rfl, _, _, rfl, _, _, rfl, rfl, rfl, _, rfl, _, rfl, _, rfl, D, ls, _, lv, rfl, rfl, sql (Same.tr t8s sT _ _ hA53), L2.atI_nat hlv, (show 3 ≤ sizeLine by decide), fun T2 hT2 => ?_⟩
      have s2 := same_new (o := .tup [.str "runs", v, lv]) hT2
      exact kk _ _ (Same.tr sT s2) ⟨T2, v, lv, rfl, upd_same, ir.kt (kt_same (Same.tr s (Same.tr sT s2))), ilv.kt (kt_same (Same.tr t8s (Same.tr sT s2)))⟩
  refine ⟨D9, us, rfl, .inl ⟨sql hA9, fun T10 hT10 => ?_⟩⟩
  have t10 := same_new (o := .tup us) hT10
  have ru1 : RusH (upd H9 T10 (.tup us)) (.ref T10) (List.zipWith Rul.runs (rowLots h w ++ colLots h w) lens) := ⟨T10, us, rfl, upd_same, paired_mono (fun _ _ z => RuH.kt (kt_same t10) z) pA9⟩
  have t09 := Same.tr t08 (Same.tr s9 t10)
  have p10 := p7.kt (kt_same (Same.tr s8 (Same.tr s9 t10)))
  show gName 20 (V.ref T10) _ (upd H9 T10 (.tup us)) _
  generalize upd H9 T10 (.tup us) = H10 at *
  -- painted
  have hwl : h.toNat + w.toNat = ys.length := by rw [← lotsl, List.length_append, rowLots_len, colLots_len]
  refine ⟨_, rfl, _, rfl, _, rfl, h, rfl, D, ls, rfl, sql (t09 _ _ hA53), fun S1 hS1 => ?_⟩
  rw [cut_take _ (by omega)]
  have u1 := same_new (o := .lst (ls.take h.toNat)) hS1
  refine ⟨S1, _, rfl, .inl ⟨sql upd_same, fun T11 hT11 => ?_⟩⟩
  have u2 := same_new (o := .tup (ls.take h.toNat)) hT11
  have u12 := Same.tr u1 u2
  have x11 : RowsH (upd (upd H10 S1 (.lst (ls.take h.toNat))) T11 (.tup (ls.take h.toNat))) (.ref T11) (lens.take h.toNat) := ⟨T11, _, rfl, upd_same, paired_tk _ (paired_mono (fun _ _ z => IH.kt (kt_same (Same.tr t09 u12)) z) pA53)⟩
  generalize upd (upd H10 S1 (.lst (ls.take h.toNat))) T11 (.tup (ls.take h.toNat)) = H11 at *
  refine ⟨_, rfl, _, rfl, h, rfl, D, ls, rfl, sql (Same.tr t09 u12 _ _ hA53), fun S2 hS2 => ?_⟩
  rw [cut_drop _ (by omega)]
  have u3 := same_new (o := .lst (ls.drop h.toNat)) hS2
  refine ⟨S2, _, rfl, .inl ⟨sql upd_same, fun T12 hT12 => ?_⟩⟩
  have u4 := same_new (o := .tup (ls.drop h.toNat)) hT12
  have u34 := Same.tr u3 u4
  have x12 : RowsH (upd (upd H11 S2 (.lst (ls.drop h.toNat))) T12 (.tup (ls.drop h.toNat))) (.ref T12) (lens.drop h.toNat) := ⟨T12, _, rfl, upd_same, paired_dr _ (paired_mono (fun _ _ z => IH.kt (kt_same (Same.tr t09 (Same.tr u12 u34))) z) pA53)⟩
  generalize upd (upd H11 S2 (.lst (ls.drop h.toNat))) T12 (.tup (ls.drop h.toNat)) = H12 at *
  have t012 := Same.tr t09 (Same.tr u12 u34)
  refine ⟨gv, h, w, .ref T11, .ref T12, lens.take h.toNat, lens.drop h.toNat, rfl, hg5.kt (kt_same t012), x11.kt (kt_same u34), x12, by rw [List.length_take]; omega, by rw [List.length_drop]; omega, fun v13 H13 s13 p13 => ⟨_, rfl, _, rfl, (show 2 ≤ sizeLine by decide), fun T14 hT14 => ?_⟩⟩
  have t14 := same_new (o := .tup [w7, .ref T10]) hT14
  have u1014 := Same.tr u12 (Same.tr u34 (Same.tr s13 t14))
  have pz : PzH (upd H13 T14 (.tup [w7, .ref T10])) (.ref T14) ⟨List.replicate (h * w).toNat [0, 1], List.zipWith Rul.runs (rowLots h w ++ colLots h w) lens⟩ := ⟨T14, w7, .ref T10, rfl, upd_same, p10.kt (kt_same u1014), ru1.kt (kt_same u1014)⟩
  have ep : paintP h w (lens.take h.toNat) (lens.drop h.toNat) = ⟨List.replicate (h * w).toNat [0, 1], List.zipWith Rul.runs (rowLots h w ++ colLots h w) lens⟩ := by
    unfold paintP bitDoms
    rw [List.take_append_drop]
    rfl
  rw [ep] at p13
  refine ⟨_, _, puz_dp (p13.kt (kt_same t14)), puz_dp pz, cmp_puz _, cmp_puz _, _, rfl, ?_⟩
  rw [eqv_puz]
  refine ifF rfl ?_
  have t014 := Same.tr t012 (Same.tr s13 t14)
  have p14 := p10.kt (kt_same u1014)
  clear p13 pz ru1 x11 x12 p10
  generalize upd H13 T14 (.tup [w7, .ref T10]) = H14 at *
  -- due: count
  refine ⟨_, rfl, _, rfl, cat_ls (lrS t014 r1'') (lrS t014 r2'') (by omega) fun p15 H15 s15 hp15 rp15 => ?_⟩
  obtain ⟨_, ys15, ep15, qp15, pp15⟩ := rp15
  cases ep15
  have yl15 : ys15.length = ys.length := by rw [pp15.length, pp.length]
  have t015 := Same.tr t014 s15
  refine ⟨p15, ys15, rfl, sql qp15, fun D16 hD16 => ?_⟩
  refine lc_mapG walk_enum hD16 RuH (fun k h => h.kt k) (List.zipWith cntR (rowLots h w ++ colLots h w) ns) (by rw [List.length_zipWith]; omega) (fun H' s => sql (s _ _ qp15)) (by omega) (fun i x H' H'' a2 ha2 s y C kk => ?_) (fun H16 us16 s16 hA16 pA16 => ?_)
  · obtain ⟨T, u, v, rfl, nT, rfl, hu, hv⟩ := y
    cases hu
    obtain ⟨r, hr2, ir⟩ := paired_at pp15 hv
    rw [List.getElem?_zipWith, hr2] at ha2
    cases hln : ns[i]? with
    | none => rw [hln] at ha2; cases ha2
    | some ln =>
      rw [hln] at ha2
      cases ha2
      have t8s := Same.tr t015 s
      have hlv : (ns.map V.int)[i]? = some (V.int ln) := by rw [List.getElem?_map, hln]; rfl
      have sT := same_new (o := .tup [.int ((i : Nat) : Int), v]) nT
      refine ⟨T, _, rfl, sqt upd_same, rfl, _, _, rfl, _, _, rfl, rfl, rfl, _, rfl, (show 1 ≤ sizeLine by decide), fun T1 hT1 => ?_⟩
      have s1' := same_new (o := .tup [.int 1]) hT1
      have q5 := Same.tr t8s (Same.tr sT s1') _ _ hA5
      refine ⟨_, rfl, _, rfl, D5, _, _, _, rfl, rfl, sql q5, L2.atI_nat hlv, _, rfl, _, rfl, D5, _, _, _, rfl, rfl, sql q5, L2.atI_nat hlv, (show 5 ≤ sizeLine by decide), fun T2 hT2 => ?_⟩
      have s2 := same_new (o := .tup [.str "count", v, .ref T1, .int ln, .int ln]) hT2
      exact kk _ _ (Same.tr sT (Same.tr s1' s2)) ⟨T2, v, .ref T1, rfl, upd_same, ir.kt (kt_same (Same.tr s (Same.tr sT (Same.tr s1' s2)))), T1, rfl, s2 _ _ upd_same⟩
  refine ⟨D16, us16, rfl, .inl ⟨sql hA16, fun T17 hT17 => ?_⟩⟩
  have t17 := same_new (o := .tup us16) hT17
  have ru2 : RusH (upd H16 T17 (.tup us16)) (.ref T17) (List.zipWith cntR (rowLots h w ++ colLots h w) ns) := ⟨T17, us16, rfl, upd_same, paired_mono (fun _ _ z => RuH.kt (kt_same t17) z) pA16⟩
  have t1417 := Same.tr s15 (Same.tr s16 t17)
  have t017 := Same.tr t014 t1417
  have p17 := p14.kt (kt_same t1417)
  show gName 20 (V.ref T17) _ (upd H16 T17 (.tup us16)) _
  generalize upd H16 T17 (.tup us16) = H17 at *
  -- due: joined
  refine ⟨_, rfl, _, rfl, lc, _, rfl, .inl ⟨sql (t017 _ _ hl5), fun T20 hT20 => ?_⟩⟩
  have t20 := same_new (o := .tup ((allC h w).map V.int)) hT20
  have i20 : IH (upd H17 T20 (.tup ((allC h w).map V.int))) (.ref T20) (allC h w) := ⟨T20, rfl, upd_same⟩
  generalize upd H17 T20 (.tup ((allC h w).map V.int)) = H20 at *
  refine ⟨_, rfl, gv, h, w, rfl, hg5.kt (kt_same (Same.tr t017 t20)), fun v21 H21 s21 r21 => ⟨(show 1 ≤ sizeLine by decide), fun T22 hT22 => ⟨(show 4 ≤ sizeLine by decide), fun T23 hT23 => ⟨(show 1 ≤ sizeLine by decide), fun T24 hT24 => ?_⟩⟩⟩⟩
  rw [ties_eq] at r21
  have t22 := same_new (o := .tup [.int 1]) hT22
  have t23 := same_new (o := .tup [.str "joined", .ref T20, v21, .ref T22]) hT23
  have t24 := same_new (o := .tup [.ref T23]) hT24
  have rj : RuH (upd (upd (upd H21 T22 (.tup [.int 1])) T23 (.tup [.str "joined", .ref T20, v21, .ref T22])) T24 (.tup [.ref T23])) (.ref T23) (.joined (allC h w) (tiesP h w) [1]) := ⟨T23, .ref T20, v21, .ref T22, rfl, t24 _ _ upd_same, i20.kt (kt_same (Same.tr s21 (Same.tr t22 (Same.tr t23 t24)))), by rw [ties_two]; exact r21.kt (kt_same (Same.tr t22 (Same.tr t23 t24))), T22, rfl, Same.tr t23 t24 _ _ upd_same⟩
  have r24 : RusH (upd (upd (upd H21 T22 (.tup [.int 1])) T23 (.tup [.str "joined", .ref T20, v21, .ref T22])) T24 (.tup [.ref T23])) (.ref T24) [.joined (allC h w) (tiesP h w) [1]] := ⟨T24, _, rfl, upd_same, paired_one rj⟩
  have t1724 := Same.tr t20 (Same.tr s21 (Same.tr t22 (Same.tr t23 t24)))
  refine cat_rules (RusH.kt (kt_same t1724) ru2) r24 (by rw [List.length_zipWith]; show _ + 1 ≤ 1000; omega) fun w25 H25 s25 ru25 => ?_
  have t025 := Same.tr t017 (Same.tr t1724 s25)
  have p25 := p17.kt (kt_same (Same.tr t1724 s25))
  clear ru2 r24 rj r21 i20 p14 p17
  -- roaded
  refine ⟨_, rfl, _, rfl, _, rfl, h, rfl, D5, ns.map V.int, rfl, sql (t025 _ _ hA5), fun S1 hS1 => ?_⟩
  rw [cut_take _ (by omega)]
  have u1 := same_new (o := .lst ((ns.map V.int).take h.toNat)) hS1
  refine ⟨S1, _, rfl, .inl ⟨sql upd_same, fun T11 hT11 => ?_⟩⟩
  have u2 := same_new (o := .tup ((ns.map V.int).take h.toNat)) hT11
  have u12 := Same.tr u1 u2
  have x11 : IH (upd (upd H25 S1 (.lst ((ns.map V.int).take h.toNat))) T11 (.tup ((ns.map V.int).take h.toNat))) (.ref T11) (ns.take h.toNat) := ⟨T11, rfl, by rw [upd_same, List.map_take]⟩
  generalize upd (upd H25 S1 (.lst ((ns.map V.int).take h.toNat))) T11 (.tup ((ns.map V.int).take h.toNat)) = H11 at *
  refine ⟨_, rfl, _, rfl, h, rfl, D5, ns.map V.int, rfl, sql (Same.tr t025 u12 _ _ hA5), fun S2 hS2 => ?_⟩
  rw [cut_drop _ (by omega)]
  have u3 := same_new (o := .lst ((ns.map V.int).drop h.toNat)) hS2
  refine ⟨S2, _, rfl, .inl ⟨sql upd_same, fun T12 hT12 => ?_⟩⟩
  have u4 := same_new (o := .tup ((ns.map V.int).drop h.toNat)) hT12
  have u34 := Same.tr u3 u4
  have x12 : IH (upd (upd H11 S2 (.lst ((ns.map V.int).drop h.toNat))) T12 (.tup ((ns.map V.int).drop h.toNat))) (.ref T12) (ns.drop h.toNat) := ⟨T12, rfl, by rw [upd_same, List.map_drop]⟩
  generalize upd (upd H11 S2 (.lst ((ns.map V.int).drop h.toNat))) T12 (.tup ((ns.map V.int).drop h.toNat)) = H12 at *
  have u1234 := Same.tr u12 u34
  refine ⟨gv, h, w, .ref T11, .ref T12, ns.take h.toNat, ns.drop h.toNat, rfl, hg5.kt (kt_same (Same.tr t025 u1234)), x11.kt (kt_same u34), x12, by rw [List.length_take]; omega, by rw [List.length_drop]; omega, fun v13 H13 s13 p13 => ⟨_, rfl, _, rfl, (show 2 ≤ sizeLine by decide), fun T14 hT14 => ?_⟩⟩
  have t14 := same_new (o := .tup [w7, w25]) hT14
  have u14 := Same.tr u1234 (Same.tr s13 t14)
  have pz : PzH (upd H13 T14 (.tup [w7, w25])) (.ref T14) ⟨List.replicate (h * w).toNat [0, 1], List.zipWith cntR (rowLots h w ++ colLots h w) ns ++ [.joined (allC h w) (tiesP h w) [1]]⟩ := ⟨T14, w7, w25, rfl, upd_same, p25.kt (kt_same u14), ru25.kt (kt_same u14)⟩
  have ep : roadP h w (ns.take h.toNat) (ns.drop h.toNat) = ⟨List.replicate (h * w).toNat [0, 1], List.zipWith cntR (rowLots h w ++ colLots h w) ns ++ [.joined (allC h w) (tiesP h w) [1]]⟩ := by
    unfold roadP bitDoms
    rw [List.take_append_drop]
    rfl
  rw [ep] at p13
  refine ⟨_, _, puz_dp (p13.kt (kt_same t14)), puz_dp pz, cmp_puz _, cmp_puz _, _, rfl, ?_⟩
  rw [eqv_puz]
  refine ifF rfl ?_
  have tEnd := Same.tr t025 u14
  exact rest _ _ ⟨a, d, cs, lc, gv, h, w, ⟨_, _, _, _, _, _, _, _, _, _, _, _, _, _, _, _, _, _, _, _, _, _, _, _, _, _, _, _, _, _, _, rfl⟩, hg5.kt (kt_same tEnd), hs5.same tEnd, tEnd _ _ hl5, nld, nlc⟩ k
end
end G9

set_option Elab.async false
set_option linter.all false
set_option maxRecDepth 100000
set_option maxHeartbeats 8000000
/-! the law: summed -/
namespace G9
open PySem PySem.Spec PyProof.Rows L2 GX
/-- the law's state between its parts -/
def InvA (σ : L2.St) (H : Hp) : Prop := ∃ (a d cs : Addr) (gv : V) (h w : Int) (o21 : Option V), StL a d gv h w o21 σ ∧ GrH H gv h w ∧ SrcAt H d cs
theorem rg_cells {h w : Int} (n0 : 0 ≤ h * w) : rgV 0 (h * w) = (allC h w).map V.int := by
  have e : h * w = (((h * w).toNat : Nat) : Int) := (Int.toNat_of_nonneg n0).symm
  unfold allC
  rw [← rgV_nI, ← e]
section
variable {P : Program} {w : World} {K : PySem.W.Frag} {mg : Str → Option Value} {base : Heap} {fPi fOr fSm : Addr} {dPi dOr dSm : FuncData}
theorem seg13 (B : Bl mg) (FPi : Fn P w K mg base "_law_pick" sPick ["_law_source", "_law_most"] 1 spPick fPi dPi) (FOr : Fn P w K mg base "_law_any_order" sOrder ["_law_source", "_law_things"] 3 spOrder fOr dOr) (FSm : Fn P w K mg base "summed" sSummed ["grid", "most", "lots"] 3 spSummed fSm dSm) {f : Addr} {cdv : Value} {A : Around} {outer : List Env} {s : Shared} {H0 : Hp} {Q : VK} {E : XK} (hr : Room 5 (A.deeper (envOfC "law" (defScope sLaw) s.heap.objs.size f cdv)))
    (rest : ∃ t, PSs (cxOf CX0 P w K mg base nmLaw "law" (defScope sLaw) f cdv A outer s H0 E).nox ((defBody sLaw).drop 16) t ∧ ∀ σ H, InvC σ H → (∀ H', Q (.bl true) H') → t { nx := fun _ H' => Q .non H', rt := Q } σ H) :
    ∃ t, PSs (cxOf CX0 P w K mg base nmLaw "law" (defScope sLaw) f cdv A outer s H0 E).nox ((defBody sLaw).drop 13) t ∧ ∀ σ H, InvA σ H → (∀ H', Q (.bl true) H') → t { nx := fun _ H' => Q .non H', rt := Q } σ H := by
  have hu := hr.units
  obtain ⟨tr, pr, rest⟩ := rest
  refine ⟨_, (pss_cons (ps_asg (pe_tup (pa_cons (pe_listRg rfl (by rfl) B.list (prg_1 (by rfl) B.range (pe_op op_mul (pv 3) (pv 4)))) (pa_cons (pe_op op_add pe_int (pe_call FPi.G (hr.mono (by decide)) (by rfl) FPi.D.g FPi.D.F.kp FPi.D.b .nil pass0 (pa_cons (pv 1) (pa_cons pe_int pa_nil)))) (pa_cons (pe_lst pa_nil) (pa_cons (pe_lst pa_nil) pa_nil))))) (pg_tupK K (n := 4) rfl (pgs_cons (pg_name (i := 21) scLaw.nd rfl (by first | exact .inl rfl | exact .inr rfl)) (pgs_cons (pg_name (i := 22) scLaw.nd rfl (by first | exact .inl rfl | exact .inr rfl)) (pgs_cons (pg_name (i := 23) scLaw.nd rfl (by first | exact .inl rfl | exact .inr rfl)) (pgs_cons (pg_name (i := 16) scLaw.nd rfl (by first | exact .inl rfl | exact .inr rfl)) pgs_nil))))))
      (pss_cons (ps_for PassesOwn.never rfl (pi_range1 (by rfl) B.range (pa_cons (pe_call FPi.G (hr.mono (by decide)) (by rfl) FPi.D.g FPi.D.F.kp FPi.D.b .nil pass0 (pa_cons (pv 1) (pa_cons pe_int pa_nil))) pa_nil)) (pg_name (i := 14) scLaw.nd rfl (by first | exact .inl rfl | exact .inr rfl)) (pss_cons (ps_set (i := 24) scLaw.nd rfl (by first | exact .inl rfl | exact .inr rfl) (pe_callTy (tupleOf K) (by rfl) B.tuple PyProof.Rows.boot_tuple (pa_cons (pe_slice sl_list (pe_call FOr.G (hr.mono (by decide)) (by rfl) FOr.D.g FOr.D.F.kp FOr.D.b .nil pass0 (pa_cons (pv 1) (pa_cons (pv 21) pa_nil))) po_none (po_some (pe_op op_add pe_int (pe_call FPi.G (hr.mono (by decide)) (by rfl) FPi.D.g FPi.D.F.kp FPi.D.b .nil pass0 (pa_cons (pv 1) (pa_cons pe_int pa_nil)))))) pa_nil)))
      (pss_cons (ps_set (i := 25) scLaw.nd rfl (by first | exact .inl rfl | exact .inr rfl) (pe_call FPi.G (hr.mono (by decide)) (by rfl) FPi.D.g FPi.D.F.kp FPi.D.b .nil pass0 (pa_cons (pv 1) (pa_cons pe_int pa_nil))))
      (pss_cons (ps_expr (pe_bm PySem.F.plainAttrs_list PySem.F.slot_list_append PySem.F.type_list_append mt_append (pv 23) (pa_cons (pe_tup (pa_cons (pv 24) (pa_cons (pv 25) pa_nil))) pa_nil)))
      (pss_one (ps_set (i := 16) scLaw.nd rfl (by first | exact .inl rfl | exact .inr rfl) (pe_op op_cat (pv 16) (pe_lst (pa_cons (pe_tup (pa_cons pe_str (pa_cons (pv 24) pa_nil))) (pa_cons (pe_tup (pa_cons pe_str (pa_cons (pv 24) (pa_cons (pv 25) (pa_cons (pv 25) pa_nil))))) pa_nil))))))))))
      (pss_cons (ps_if (pt_cmpR (neDD K hu) (pe_call FSm.G (hr.mono (by decide)) (by rfl) FSm.D.g FSm.D.F.kp FSm.D.b .nil pass0 (pa_cons (pv 2) (pa_cons (pv 22) (pa_cons (pe_callTy (tupleOf K) (by rfl) B.tuple PyProof.Rows.boot_tuple (pa_cons (pv 23) pa_nil)) pa_nil)))) (pe_tup (pa_cons (pe_op (repA K) (pe_tup (pa_cons (pe_tupRg rfl (by rfl) B.tuple (prg_2 (by rfl) B.range pe_int (pe_op op_add (pv 22) pe_int))) pa_nil)) (pe_op op_mul (pv 3) (pv 4))) (pa_cons (pe_callTy (tupleOf K) (by rfl) B.tuple PyProof.Rows.boot_tuple (pa_cons (pv 16) pa_nil)) pa_nil))) (nomark _)) (pss_one (ps_ret pe_bl)) pss_nil)
      pr))), fun σ H inv k => ?_⟩
  obtain ⟨a, d, cs, gv, h, w, o21, ⟨v5, v6, v7, v8, v9, v10, v11, v12, v13, v14, v15, v16, v17, v18, v19, v20, v22, v23, v24, v25, v26, v27, v28, v29, v30, v31, v32, v33, v34, v35, v36, rfl⟩, hg, hs⟩ := inv
  have le := hg.le
  have h1 := hg.2.1
  have w1 := hg.2.2.1
  have hw16 := hg.2.2.2
  have hw1 : 1 * 1 ≤ h * w := Int.mul_le_mul h1 w1 (by omega) (by omega)
  have al := allC_len hw16
  refine ⟨_, rfl, _, rfl, _, _, rfl, rfl, .inr ⟨by omega, by omega⟩, _, rfl, RgOk.of_le (by omega) (by omega) (by omega) (by omega), fun lc hlc => ?_⟩
  rw [rg_cells (by omega)]
  have s1 := same_new (o := .lst ((allC h w).map V.int)) hlc
  have nlc := hs.none hlc
  have hl1 : upd H lc (.lst ((allC h w).map V.int)) lc = some (.lst ((allC h w).map V.int)) := upd_same
  have hs1 := hs.same s1
  have hg1 := hg.kt (kt_same s1)
  generalize upd H lc (.lst ((allC h w).map V.int)) = H1 at *
  refine ⟨_, rfl, d, cs, 9, rfl, hs1, by decide, fun r H2 _ rb hs2 rn2 => ⟨_, _, rfl, rfl, by decide, fun L1 hL1 => ⟨by decide, fun L2 hL2 => ⟨(show 4 ≤ sizeLine by decide), fun T hT => ⟨T, _, rfl, sqt upd_same, rfl, _, _, rfl, _, _, rfl, _, _, rfl, _, _, rfl, rfl, ?_⟩⟩⟩⟩⟩
  have rb := rb (by decide)
  have s2 := same_new (o := .lst []) hL1
  have s3 := same_new (o := .lst []) hL2
  have s4 := same_new (o := .tup [.ref lc, .int (1 + r), .ref L1, .ref L2]) hT
  have s24 := Same.tr s2 (Same.tr s3 s4)
  have nL1 := hs2.none hL1
  have nL2 := (hs2.same s2).none hL2
  have hl2 := rn2 _ _ nlc.1 nlc.2 hl1
  have n1c : L1 ≠ lc := (ne_of_none hl2 hL1).symm
  have n12 : L2 ≠ L1 := (ne_of_none upd_same hL2).symm
  have hLa : upd (upd (upd H2 L1 (.lst [])) L2 (.lst [])) T (.tup [.ref lc, .int (1 + r), .ref L1, .ref L2]) L1 = some (.lst []) := Same.tr s3 s4 _ _ upd_same
  have hLb : upd (upd (upd H2 L1 (.lst [])) L2 (.lst [])) T (.tup [.ref lc, .int (1 + r), .ref L1, .ref L2]) L2 = some (.lst []) := s4 _ _ upd_same
  have hl3 := s24 _ _ hl2
  have hs3 := hs2.same s24
  have hg3 := (hg1.kt (Rn.kt hs1 rn2)).kt (kt_same s24)
  have m1 : 1 ≤ 1 + r ∧ 1 + r ≤ 20 := by omega
  generalize upd (upd (upd H2 L1 (.lst [])) L2 (.lst [])) T (.tup [.ref lc, .int (1 + r), .ref L1, .ref L2]) = H3 at *
  refine ⟨_, rfl, d, cs, 4, rfl, hs3, by decide, fun q H4 _ qb hs4 rn4 => ⟨_, rfl, ?_⟩⟩
  have qb := qb (by decide)
  refine ⟨by omega, by omega, ?_⟩
  have hLa4 := rn4 _ _ nL1.1 nL1.2 hLa
  have hLb4 := rn4 _ _ nL2.1 nL2.2 hLb
  have hl4 := rn4 _ _ nlc.1 nlc.2 hl3
  have hg4 := hg3.kt (Rn.kt hs3 rn4)
  refine for_it (walk_range (lo := 0) (n := q.toNat)) (fun i σ H' => ∃ (u14 u24 u25 : Option V) (L2' : Addr) (accL accR : List V) (ls : List (List Int × Int)), σ = [some (.ref a), some (.ref d), some gv, some (.int h), some (.int w), v5, v6, v7, v8, v9, v10, v11, v12, v13, u14, v15, some (.ref L2'), v17, v18, v19, v20, some (.ref lc), some (.int (1 + r)), some (.ref L1), u24, u25, v26, v27, v28, v29, v30, v31, v32, v33, v34, v35, v36] ∧ H' L1 = some (.lst accL) ∧ H' L2' = some (.lst accR) ∧ (L2' ≠ d ∧ L2' ≠ cs ∧ L2' ≠ L1) ∧ Paired (LotH H') accL ls ∧ Paired (RuH H') accR (ls.flatMap sumR) ∧ ls.length ≤ i ∧ SrcAt H' d cs ∧ ∀ b o, b ≠ L1 → b ≠ d → b ≠ cs → H4 b = some o → H' b = some o)
    ⟨_, _, _, L2, [], [], [], rfl, hLa4, hLb4, ⟨nL2.1, nL2.2, n12⟩, .nil, .nil, Nat.le_refl _, hs4, fun b o _ _ _ e => e⟩ (fun _ _ _ _ _ => trivial) (fun i x σ H' H'' hi h y => ?_) (fun σ H' h => ?_)
  · obtain ⟨u14, u24, u25, L2', accL, accR, ls, rfl, hA, hR, nR, pA, pR, lsl, hsA, kp⟩ := h
    obtain ⟨rfl, rfl⟩ := y
    have i4 : i < 4 := by omega
    have hlA := kp _ _ (Ne.symm n1c) nlc.1 nlc.2 hl4
    have al1 : accL.length ≤ 4 := by rw [pA.length]; omega
    have al2 : accR.length ≤ 8 := by
      rw [pR.length]
      have := flat_len (b := 2) sumR (xs := ls) fun _ _ => Nat.le_refl _
      omega
    refine ⟨_, rfl, _, rfl, d, cs, .ref lc, allC h w, rfl, hsA, ⟨lc, rfl, hlA⟩, by omega, fun l ns' H5 pm hs5 rn5 hln hl5 => ?_⟩
    have nl := hsA.none hln
    have hA5 := rn5 _ _ nL1.1 nL1.2 hA
    refine ⟨_, rfl, d, cs, 4, rfl, hs5, by decide, fun r6 H6 _ rb6 hs6 rn6 => ⟨_, _, rfl, rfl, _, rfl, l, _, rfl, sql (rn6 _ _ nl.1 nl.2 hl5), fun S hS => ?_⟩⟩
    have rb6 := rb6 (by decide)
    rw [cut_take _ (by omega)]
    have t5 := same_new (o := .lst ((ns'.map V.int).take (1 + r6).toNat)) hS
    refine ⟨S, _, rfl, .inl ⟨sql upd_same, fun T7 hT7 => ?_⟩⟩
    have t6 := same_new (o := .tup ((ns'.map V.int).take (1 + r6).toNat)) hT7
    have t56 := Same.tr t5 t6
    have i7 : IH (upd (upd H6 S (.lst ((ns'.map V.int).take (1 + r6).toNat))) T7 (.tup ((ns'.map V.int).take (1 + r6).toNat))) (.ref T7) (ns'.take (1 + r6).toNat) := ⟨T7, rfl, by rw [upd_same, List.map_take]⟩
    have hs7 := hs6.same t56
    have rn7 := Rn.trans rn5 (Rn.trans rn6 (rn_same t56))
    show gName 24 (V.ref T7) _ (upd (upd H6 S (.lst ((ns'.map V.int).take (1 + r6).toNat))) T7 (.tup ((ns'.map V.int).take (1 + r6).toNat))) _
    generalize upd (upd H6 S (.lst ((ns'.map V.int).take (1 + r6).toNat))) T7 (.tup ((ns'.map V.int).take (1 + r6).toNat)) = H7 at *
    generalize ns'.take (1 + r6).toNat = lot at *
    refine ⟨_, rfl, d, cs, 40, rfl, hs7, by decide, fun r8 H8 _ _ hs8 rn8 => ?_⟩
    have rnA8 := Rn.trans rn7 rn8
    have hA8 := rnA8 _ _ nL1.1 nL1.2 hA
    have hR8 := rnA8 _ _ nR.1 nR.2.1 hR
    have i8 := i7.kt (Rn.kt hs7 rn8)
    have kA8 : Kt H'' H8 := Rn.kt hsA rnA8
    show gName 25 (V.int r8) _ H8 _
    refine ⟨_, rfl, .inl ⟨rfl, _, sql hA8⟩, _, rfl, _, rfl, (show 2 ≤ sizeLine by decide), fun T9 hT9 => ⟨L1, accL, _, rfl, rfl, upd_at hT9 hA8, by rw [sizeLine_eq]; omega, ?_⟩⟩
    have t9 := same_new (o := .tup [.ref T7, .int r8]) hT9
    have n9 : T9 ≠ L1 := (ne_of_none hA8 hT9).symm
    have k9 : Kt H8 (upd (upd H8 T9 (.tup [.ref T7, .int r8])) L1 (.lst (accL ++ [.ref T9]))) := Kt.trans (kt_same t9) (ktL (t9 _ _ hA8))
    have e9 : upd (upd H8 T9 (.tup [.ref T7, .int r8])) L1 (.lst (accL ++ [.ref T9])) T9 = some (.tup [.ref T7, .int r8]) := by rw [upd_ne n9, upd_same]
    have hA9 : upd (upd H8 T9 (.tup [.ref T7, .int r8])) L1 (.lst (accL ++ [.ref T9])) L1 = some (.lst (accL ++ [.ref T9])) := upd_same
    have kp9 : ∀ b o, b ≠ L1 → H8 b = some o → upd (upd H8 T9 (.tup [.ref T7, .int r8])) L1 (.lst (accL ++ [.ref T9])) b = some o := fun b o hb e => by rw [upd_ne hb]; exact t9 _ _ e
    have hs9 : SrcAt (upd (upd H8 T9 (.tup [.ref T7, .int r8])) L1 (.lst (accL ++ [.ref T9]))) d cs := (hs8.same t9).upd nL1.1 nL1.2
    generalize upd (upd H8 T9 (.tup [.ref T7, .int r8])) L1 (.lst (accL ++ [.ref T9])) = H9 at *
    have hR9 := kp9 _ _ nR.2.2 hR8
    have i9 := i8.kt k9
    refine ⟨_, rfl, _, rfl, (show 2 ≤ sizeLine by decide), fun T10 hT10 => ⟨_, rfl, _, rfl, _, rfl, (show 4 ≤ sizeLine by decide), fun T11 hT11 => ⟨(show 2 ≤ sizeLine by decide), fun L12 hL12 => ?_⟩⟩⟩
    have t10 := same_new (o := .tup [.str "unlike", .ref T7]) hT10
    have t11 := same_new (o := .tup [.str "sum", .ref T7, .int r8, .int r8]) hT11
    have t12 := same_new (o := .lst [.ref T10, .ref T11]) hL12
    have t1012 := Same.tr t10 (Same.tr t11 t12)
    refine ⟨L2', L12, accR, [.ref T10, .ref T11], rfl, rfl, t1012 _ _ hR9, upd_same, by rw [sizeLine_eq]; show accR.length + 2 ≤ _; omega, fun L13 hL13 => ?_⟩
    have t13 := same_new (o := .lst (accR ++ [.ref T10, .ref T11])) hL13
    have tA := Same.tr t1012 t13
    have nL13 := (hs9.same t1012).none hL13
    refine ⟨_, _, _, L13, accL ++ [.ref T9], accR ++ [.ref T10, .ref T11], ls ++ [(lot, r8)], rfl, tA _ _ hA9, upd_same, ⟨nL13.1, nL13.2, fun z => by rw [z, t1012 _ _ hA9] at hL13; cases hL13⟩, ?_, ?_, by rw [List.length_append]; exact Nat.succ_le_succ lsl, hs9.same tA, fun b o h1 h2 h3 e => tA _ _ (kp9 _ _ h1 (rnA8 _ _ h2 h3 (kp b o h1 h2 h3 e)))⟩
    · exact paired_app (paired_mono (fun _ _ z => LotH.kt (kt_same tA) (LotH.kt k9 (LotH.kt kA8 z))) pA) (paired_one ⟨T9, .ref T7, rfl, tA _ _ e9, i9.kt (kt_same tA)⟩)
    · rw [List.flatMap_append]
      exact paired_app (paired_mono (fun _ _ z => RuH.kt (kt_same tA) (RuH.kt k9 (RuH.kt kA8 z))) pR) (.cons ⟨T10, .ref T7, rfl, Same.tr t11 (Same.tr t12 t13) _ _ upd_same, i9.kt (kt_same tA)⟩ (.cons ⟨T11, .ref T7, rfl, Same.tr t12 t13 _ _ upd_same, i9.kt (kt_same tA)⟩ .nil))
  · obtain ⟨u14, u24, u25, L2', accL, accR, ls, rfl, hA, hR, nR, pA, pR, lsl, hsA, kp⟩ := h
    have hlA := kp _ _ (Ne.symm n1c) nlc.1 nlc.2 hl4
    have hgA : GrH H' gv h w := by
      obtain ⟨⟨ga, e, qg⟩, rr⟩ := hg4
      have n := hs4.ne qg
      exact ⟨⟨ga, e, kp _ _ (fun z => by rw [z, hLa4] at qg; cases qg) n.1 n.2 qg⟩, rr⟩
    refine ⟨_, rfl, _, rfl, _, rfl, L1, accL, rfl, .inl ⟨sql hA, fun T14 hT14 => ?_⟩⟩
    have t14 := same_new (o := .tup accL) hT14
    refine ⟨gv, h, w, _, .ref T14, ls, rfl, hgA.kt (kt_same t14), m1.1, m1.2, ⟨T14, accL, rfl, upd_same, paired_mono (fun _ _ z => LotH.kt (kt_same t14) z) pA⟩, by omega, fun v15 H15 s15 p15 => ?_⟩
    have t15 := Same.tr t14 s15
    refine ⟨_, rfl, _, _, rfl, rfl, _, _, rfl, rfl, RgOk.of_le (by omega) (by omega) (by omega) (by omega), fun T16 hT16 => ⟨(show 1 ≤ sizeLine by decide), fun T17 hT17 => ?_⟩⟩
    have t16 := same_new (o := .tup (rgV 1 (1 + r + 1))) hT16
    have t17 := same_new (o := .tup [.ref T16]) hT17
    have t67 := Same.tr t16 t17
    have i16 : IH (upd (upd H15 T16 (.tup (rgV 1 (1 + r + 1)))) T17 (.tup [.ref T16])) (.ref T16) (fromTo 1 (1 + r)) := ⟨T16, rfl, by rw [upd_at hT17 upd_same, fromTo_rg, show 1 + r + 1 - 1 = 1 + r by omega]⟩
    have e17 : upd (upd H15 T16 (.tup (rgV 1 (1 + r + 1)))) T17 (.tup [.ref T16]) T17 = some (.tup [.ref T16]) := upd_same
    refine ⟨_, rfl, _, rfl, _, _, rfl, rfl, .inr ⟨by omega, by omega⟩, rep_rows e17 i16 (by omega) (by omega) fun w18 H18 s18 p18 => ?_⟩
    have t18 := Same.tr t15 (Same.tr t67 s18)
    refine ⟨_, rfl, L2', accR, rfl, .inl ⟨sql (t18 _ _ hR), fun T19 hT19 => ⟨(show 2 ≤ sizeLine by decide), fun T20 hT20 => ?_⟩⟩⟩
    have t19 := same_new (o := .tup accR) hT19
    have t20 := same_new (o := .tup [w18, .ref T19]) hT20
    have t1920 := Same.tr t19 t20
    have tE := Same.tr t18 t1920
    have pz : PzH (upd (upd H18 T19 (.tup accR)) T20 (.tup [w18, .ref T19])) (.ref T20) (sumP h w (1 + r) ls) := ⟨T20, w18, .ref T19, rfl, upd_same, p18.kt (kt_same t1920), T19, accR, rfl, t20 _ _ upd_same, paired_mono (fun _ _ z => RuH.kt (kt_same tE) z) pR⟩
    refine ⟨_, _, puz_dp (p15.kt (kt_same (Same.tr t67 (Same.tr s18 t1920)))), puz_dp pz, cmp_puz _, cmp_puz _, _, rfl, ?_⟩
    rw [eqv_puz]
    refine ifF rfl ?_
    exact rest _ _ ⟨a, d, cs, lc, gv, h, w, ⟨_, _, _, _, _, _, _, _, _, _, _, _, _, _, _, _, _, _, _, _, _, _, _, _, _, _, _, _, _, _, _, rfl⟩, hgA.kt (kt_same tE), hsA.same tE, tE _ _ hlA, nlc.1, nlc.2⟩ k
end
end G9

set_option Elab.async false
set_option linter.all false
set_option maxRecDepth 100000
set_option maxHeartbeats 8000000
/-! the law: places, boxes -/
namespace G9
open PySem PySem.Spec PyProof.Rows L2 GX
/-- the law's state as it begins -/
def InvS (K : PySem.W.Frag) (σ : L2.St) (H : Hp) : Prop := ∃ (a : Addr) (ns : List Int), σ = L2.start nmLaw [.ref a] ∧ SqL K H a (ns.map V.int) ∧ ns.length ≤ 63
def upTo (n : Int) : List Int := (List.range n.toNat).map fun i => 1 + ((i : Nat) : Int)
def divsOf (n : Int) : List Int := (upTo n).filter fun t => decide (n % t = 0)
theorem divs_mem {n t : Int} (h : t ∈ divsOf n) : 1 ≤ t ∧ t ∣ n := by
  obtain ⟨h1, h2⟩ := List.mem_filter.mp h
  obtain ⟨i, _, rfl⟩ := List.mem_map.mp h1
  exact ⟨by omega, Int.dvd_of_emod_eq_zero (of_decide_eq_true h2)⟩
section
variable {P : Program} {w : World} {K : PySem.W.Frag} {mg : Str → Option Value} {base : Heap} {fO fDg fRt fBl fBo : Addr} {dO dDg dRt dBl dBo : FuncData}
theorem seg0 (B : Bl mg) (FO : Fn P w K mg base "_law_open_cells" sOpen ["_law_script"] 1 (spOpen K) fO dO) (FDg : Fn P w K mg base "_law_draw_grid" sLDrawGrid ["_law_source", "_law_most"] 2 spDrawGrid fDg dDg) (FRt : Fn P w K mg base "_law_places_right" sLPlacesRight ["_law_grid"] 4 spRight fRt dRt) (FBl : Fn P w K mg base "box_lots" sBoxLots ["grid", "tall", "wide"] 3 spBoxLots fBl dBl) (FBo : Fn P w K mg base "_law_boxes" sLBoxes ["_law_grid", "_law_tall", "_law_wide"] 1 spLBoxes fBo dBo) {f : Addr} {cdv : Value} {A : Around} {outer : List Env} {s : Shared} {H0 : Hp} {Q : VK} {E : XK} (hr : Room 5 (A.deeper (envOfC "law" (defScope sLaw) s.heap.objs.size f cdv)))
    (rest : ∃ t, PSs (cxOf CX0 P w K mg base nmLaw "law" (defScope sLaw) f cdv A outer s H0 E).nox ((defBody sLaw).drop 5) t ∧ ∀ σ H, InvA σ H → (∀ H', Q (.bl true) H') → t { nx := fun _ H' => Q .non H', rt := Q } σ H) :
    ∃ t, PSs (cxOf CX0 P w K mg base nmLaw "law" (defScope sLaw) f cdv A outer s H0 E).nox ((defBody sLaw).drop 0) t ∧ ∀ σ H, (InvS K) σ H → (∀ H', Q (.bl true) H') → t { nx := fun _ H' => Q .non H', rt := Q } σ H := by
  have hu := hr.units
  obtain ⟨tr, pr, rest⟩ := rest
  refine ⟨_, (pss_cons (ps_set (i := 1) scLaw.nd rfl (by first | exact .inl rfl | exact .inr rfl) (pe_call FO.G (hr.mono (by decide)) (by rfl) FO.D.g FO.D.F.kp FO.D.b .nil pass0 (pa_cons (pv 0) pa_nil)))
      (pss_cons (ps_set (i := 2) scLaw.nd rfl (by first | exact .inl rfl | exact .inr rfl) (pe_call FDg.G (hr.mono (by decide)) (by rfl) FDg.D.g FDg.D.F.kp FDg.D.b .nil pass0 (pa_cons (pv 1) (pa_cons pe_int pa_nil))))
      (pss_cons (ps_asg (pv 2) (pg_tupK K (n := 2) rfl (pgs_cons (pg_name (i := 3) scLaw.nd rfl (by first | exact .inl rfl | exact .inr rfl)) (pgs_cons (pg_name (i := 4) scLaw.nd rfl (by first | exact .inl rfl | exact .inr rfl)) pgs_nil))))
      (pss_cons (ps_if (pt_not (pt_val (pe_call FRt.G (hr.mono (by decide)) (by rfl) FRt.D.g FRt.D.F.kp FRt.D.b .nil pass0 (pa_cons (pv 2) pa_nil)))) (pss_one (ps_ret pe_bl)) pss_nil)
      (pss_cons (ps_for PassesOwn.never rfl (pi_list (pe_lc (own := [("_law_d", 6)]) rfl scLaw.nd (pi_range2 (by rfl) B.range (pa_cons pe_int (pa_cons (pe_op op_add (pv 3) pe_int) pa_nil))) (blkOk_by (N := nmLaw) (sc := defScope sLaw) (by decide +kernel)) (fun _ _ _ _ _ => (pg_name (i := 6) scLaw.nd rfl (by first | exact .inl rfl | exact .inr rfl))) (fun _ _ _ _ _ => (pts_one (pt_cmpR op_eq (pe_op op_mod (pe_callTy call_int1 (by rfl) B.int PyProof.Rows.boot_int (pa_cons (pv 3) pa_nil)) (pv 6)) pe_int (nomark _)))) (fun _ _ _ _ _ => (pv 6)))) (pg_name (i := 5) scLaw.nd rfl (by first | exact .inl rfl | exact .inr rfl)) (pss_one (ps_for PassesOwn.never rfl (pi_list (pe_lc (own := [("_law_d", 6)]) rfl scLaw.nd (pi_range2 (by rfl) B.range (pa_cons pe_int (pa_cons (pe_op op_add (pv 4) pe_int) pa_nil))) (blkOk_by (N := nmLaw) (sc := defScope sLaw) (by decide +kernel)) (fun _ _ _ _ _ => (pg_name (i := 6) scLaw.nd rfl (by first | exact .inl rfl | exact .inr rfl))) (fun _ _ _ _ _ => (pts_one (pt_cmpR op_eq (pe_op op_mod (pe_callTy call_int1 (by rfl) B.int PyProof.Rows.boot_int (pa_cons (pv 4) pa_nil)) (pv 6)) pe_int (nomark _)))) (fun _ _ _ _ _ => (pv 6)))) (pg_name (i := 7) scLaw.nd rfl (by first | exact .inl rfl | exact .inr rfl)) (pss_one (ps_if (pt_cmpR (neDD K hu) (pe_call FBl.G (hr.mono (by decide)) (by rfl) FBl.D.g FBl.D.F.kp FBl.D.b .nil pass0 (pa_cons (pv 2) (pa_cons (pv 5) (pa_cons (pv 7) pa_nil)))) (pe_call FBo.G (hr.mono (by decide)) (by rfl) FBo.D.g FBo.D.F.kp FBo.D.b .nil pass0 (pa_cons (pv 2) (pa_cons (pv 5) (pa_cons (pv 7) pa_nil)))) (nomark _)) (pss_one (ps_ret pe_bl)) pss_nil)))))
      pr))))), fun σ H inv k => ?_⟩
  obtain ⟨a, ns, rfl, ha, hns⟩ := inv
  refine ⟨_, rfl, a, ns, rfl, ha, hns, fun d cs H1 s1 _ _ hs => ?_⟩
  refine ⟨_, rfl, d, cs, rfl, hs, fun gv H2 h w hg hs2 rn2 => ?_⟩
  obtain ⟨⟨ga, rfl, hga⟩, h1, w1, hw16⟩ := id hg
  have le := hg.le
  refine ⟨_, rfl, ga, _, rfl, sqt hga, rfl, _, _, rfl, _, _, rfl, rfl, ?_⟩
  refine ⟨_, rfl, .ref ga, h, w, rfl, hg, fun H3 s3 => ⟨_, rfl, ifF rfl ?_⟩⟩
  have hs3 := hs2.same s3
  have hg3 := hg.kt (kt_same s3)
  -- the divisors
  refine ⟨_, rfl, _, _, rfl, rfl, _, _, rfl, ⟨by omega, by omega, by omega, by omega⟩, fun D hD => ?_⟩
  have lenU : ∀ n : Int, (upTo n).length = n.toNat := fun n => by unfold upTo; rw [List.length_map, List.length_range]
  have atU : ∀ {n t : Int} {i : Nat}, (upTo n)[i]? = some t → t = 1 + ((i : Nat) : Int) := fun {n t i} ht => by
    unfold upTo at ht
    rw [List.getElem?_map] at ht
    cases z : (List.range n.toNat)[i]? with
    | none => rw [z] at ht; cases ht
    | some j =>
      rw [z] at ht
      have := List.getElem?_range (n := n.toNat) (i := i) (by
        have := (List.getElem?_eq_some_iff.mp z).1
        rw [List.length_range] at this
        exact this)
      rw [this] at z
      cases z
      cases ht
      rfl
  refine lc_filtG (walk_range (lo := 1) (n := (h + 1 - 1).toNat)) hD (fun _ v n => v = V.int n) (fun _ h => h) (upTo h) (by rw [lenU, show h + 1 - 1 = h by omega]) (fun t => decide (h % t = 0)) id (fun _ _ => trivial) (by omega) (fun i x H' H'' t ht s y C1 C0 k1 k0 => ?_) (fun H4 ys s4 hA4 pA4 => ?_)
  · obtain ⟨rfl, rfl⟩ := y
    have et := atU ht
    refine ⟨rfl, ?_⟩
    refine ⟨_, rfl, .inl ⟨_, rfl, _, rfl, _, _, rfl, rfl, by omega, rfl, _, rfl, ?_⟩⟩
    have e1 : decide (V.int (h % (1 + ((i : Nat) : Int))) = V.int 0) = decide (h % t = 0) := by rw [et]; simp
    by_cases z : h % t = 0
    · exact ifT (by rw [e1]; exact decide_eq_true z) ⟨_, rfl, k1 _ _ (same_refl _) (decide_eq_true z) (by rw [et]; rfl)⟩
    · exact ifF (by rw [e1]; exact decide_eq_false z) (k0 _ (same_refl _) (decide_eq_false z))
  rw [List.map_id, ← show divsOf h = (upTo h).filter (fun t => decide (h % t = 0)) from rfl] at pA4
  rw [ints_of pA4] at hA4
  refine ⟨D, rfl, ⟨_, sql hA4⟩, ?_⟩
  refine for_it (walk_list (xs := (divsOf h).map V.int)) (fun i σ H' => ∃ o21, StL a d (.ref ga) h w o21 σ ∧ Same H4 H')
    ⟨_, ⟨_, _, _, _, _, _, _, _, _, _, _, _, _, _, _, _, _, _, _, _, _, _, _, _, _, _, _, _, _, _, _, rfl⟩, same_refl _⟩ (fun i σ H' _ h => ?_) (fun i x σ H' H'' hi h y => ?_) (fun σ H' h => ?_)
  · obtain ⟨_, _, sA⟩ := h
    exact sql (sA _ _ hA4)
  · obtain ⟨o21, ⟨u5, u6, u7, u8, u9, u10, u11, u12, u13, u14, u15, u16, u17, u18, u19, u20, u22, u23, u24, u25, u26, u27, u28, u29, u30, u31, u32, u33, u34, u35, u36, rfl⟩, sA⟩ := h
    obtain ⟨rfl, hx⟩ := y
    obtain ⟨t, ht, rfl⟩ := at_ints hx
    have tm := divs_mem (List.mem_of_getElem? ht)
    refine ⟨_, rfl, _, _, rfl, rfl, _, _, rfl, ⟨by omega, by omega, by omega, by omega⟩, fun D2 hD2 => ?_⟩
    refine lc_filtG (walk_range (lo := 1) (n := (w + 1 - 1).toNat)) hD2 (fun _ v n => v = V.int n) (fun _ h => h) (upTo w) (by rw [lenU, show w + 1 - 1 = w by omega]) (fun t => decide (w % t = 0)) id (fun _ _ => trivial) (by omega) (fun j x H5 H6 q hq s y C1 C0 k1 k0 => ?_) (fun H5 zs s5 hA5 pA5 => ?_)
    · obtain ⟨rfl, rfl⟩ := y
      have et := atU hq
      refine ⟨rfl, ?_⟩
      refine ⟨_, rfl, .inl ⟨_, rfl, _, rfl, _, _, rfl, rfl, by omega, rfl, _, rfl, ?_⟩⟩
      have e1 : decide (V.int (w % (1 + ((j : Nat) : Int))) = V.int 0) = decide (w % q = 0) := by rw [et]; simp
      by_cases z : w % q = 0
      · exact ifT (by rw [e1]; exact decide_eq_true z) ⟨_, rfl, k1 _ _ (same_refl _) (decide_eq_true z) (by rw [et]; rfl)⟩
      · exact ifF (by rw [e1]; exact decide_eq_false z) (k0 _ (same_refl _) (decide_eq_false z))
    rw [List.map_id, ← show divsOf w = (upTo w).filter (fun t => decide (w % t = 0)) from rfl] at pA5
    rw [ints_of pA5] at hA5
    refine ⟨D2, rfl, ⟨_, sql hA5⟩, ?_⟩
    refine for_it (walk_list (xs := (divsOf w).map V.int)) (fun i σ H' => ∃ o21, StL a d (.ref ga) h w o21 σ ∧ σ[5]? = some (some (.int t)) ∧ Same H5 H')
      ⟨_, ⟨_, _, _, _, _, _, _, _, _, _, _, _, _, _, _, _, _, _, _, _, _, _, _, _, _, _, _, _, _, _, _, rfl⟩, rfl, same_refl _⟩ (fun i σ H' _ h => ?_) (fun i x σ H' H'' hi h y => ?_) (fun σ H' h => ?_)
    · obtain ⟨_, _, _, sA⟩ := h
      exact sql (sA _ _ hA5)
    · obtain ⟨o21, ⟨u5, u6, u7, u8, u9, u10, u11, u12, u13, u14, u15, u16, u17, u18, u19, u20, u22, u23, u24, u25, u26, u27, u28, u29, u30, u31, u32, u33, u34, u35, u36, rfl⟩, h5, sB⟩ := h
      obtain ⟨rfl, hx⟩ := y
      obtain ⟨q, hq, rfl⟩ := at_ints hx
      cases h5
      have qm := divs_mem (List.mem_of_getElem? hq)
      have sC := Same.tr s3 (Same.tr s4 (Same.tr sA (Same.tr s5 sB)))
      have hgC := hg.kt (kt_same sC)
      refine ⟨_, rfl, _, rfl, _, rfl, .ref ga, h, w, t, q, rfl, hgC, tm.1, tm.2, qm.1, qm.2, fun v1 H1 t1 r1 => ?_⟩
      refine ⟨_, rfl, _, rfl, _, rfl, .ref ga, h, w, t, q, rfl, hgC.kt (kt_same t1), tm.1, tm.2, qm.1, qm.2, fun v2 H2 t2 r2 => ?_⟩
      refine ⟨_, _, RowsH.dp (r1.kt (kt_same t2)), RowsH.dp r2, cmp_rows _, cmp_rows _, _, rfl, ?_⟩
      rw [eqv_rows_t]
      exact ifF rfl ⟨_, ⟨_, _, _, _, _, _, _, _, _, _, _, _, _, _, _, _, _, _, _, _, _, _, _, _, _, _, _, _, _, _, _, rfl⟩, rfl, Same.tr sB (Same.tr t1 t2)⟩
    · obtain ⟨o21, st, _, sB⟩ := h
      exact ⟨_, st, Same.tr sA (Same.tr s5 sB)⟩
  · obtain ⟨o21, st, sA⟩ := h
    have sE := Same.tr s3 (Same.tr s4 sA)
    exact rest _ _ ⟨a, d, cs, _, h, w, _, st, hg.kt (kt_same sE), hs2.same sE⟩ k
end
end G9

set_option Elab.async false
set_option linter.all false
set_option maxRecDepth 100000
set_option maxHeartbeats 8000000
/-! the law: squares, signed, boxed -/
namespace G9
open PySem PySem.Spec PyProof.Rows L2 GX
section
variable {P : Program} {w : World} {K : PySem.W.Frag} {mg : Str → Option Value} {base : Heap} {fPi fLi fUn fSq fSg fBo fBx : Addr} {dPi dLi dUn dSq dSg dBo dBx : FuncData}
theorem seg5 (B : Bl mg) (FPi : Fn P w K mg base "_law_pick" sPick ["_law_source", "_law_most"] 1 spPick fPi dPi) (FLi : Fn P w K mg base "_law_lines" sLLines ["_law_grid"] 1 spLines fLi dLi) (FUn : Fn P w K mg base "_law_unlike" sLUnlike ["_law_lots"] 1 spUnlike fUn dUn) (FSq : Fn P w K mg base "squares" sSquares ["size"] 4 spSquares fSq dSq) (FSg : Fn P w K mg base "signed" sSigned ["size", "pairs"] 5 spSigned fSg dSg) (FBo : Fn P w K mg base "_law_boxes" sLBoxes ["_law_grid", "_law_tall", "_law_wide"] 1 spLBoxes fBo dBo) (FBx : Fn P w K mg base "boxed" sBoxed ["tall", "wide"] 5 spBoxed fBx dBx) {f : Addr} {cdv : Value} {A : Around} {outer : List Env} {s : Shared} {H0 : Hp} {Q : VK} {E : XK} (hr : Room 5 (A.deeper (envOfC "law" (defScope sLaw) s.heap.objs.size f cdv)))
    (rest : ∃ t, PSs (cxOf CX0 P w K mg base nmLaw "law" (defScope sLaw) f cdv A outer s H0 E).nox ((defBody sLaw).drop 13) t ∧ ∀ σ H, InvA σ H → (∀ H', Q (.bl true) H') → t { nx := fun _ H' => Q .non H', rt := Q } σ H) :
    ∃ t, PSs (cxOf CX0 P w K mg base nmLaw "law" (defScope sLaw) f cdv A outer s H0 E).nox ((defBody sLaw).drop 5) t ∧ ∀ σ H, InvA σ H → (∀ H', Q (.bl true) H') → t { nx := fun _ H' => Q .non H', rt := Q } σ H := by
  have hu := hr.units
  obtain ⟨tr, pr, rest⟩ := rest
  refine ⟨_, (pss_cons (ps_set (i := 8) scLaw.nd rfl (by first | exact .inl rfl | exact .inr rfl) (pe_op op_add pe_int (pe_call FPi.G (hr.mono (by decide)) (by rfl) FPi.D.g FPi.D.F.kp FPi.D.b .nil pass0 (pa_cons (pv 1) (pa_cons pe_int pa_nil)))))
      (pss_cons (ps_asg (pe_call FLi.G (hr.mono (by decide)) (by rfl) FLi.D.g FLi.D.F.kp FLi.D.b .nil pass0 (pa_cons (pe_tup (pa_cons (pv 8) (pa_cons (pv 8) pa_nil))) pa_nil)) (pg_tupK K (n := 2) rfl (pgs_cons (pg_name (i := 9) scLaw.nd rfl (by first | exact .inl rfl | exact .inr rfl)) (pgs_cons (pg_name (i := 10) scLaw.nd rfl (by first | exact .inl rfl | exact .inr rfl)) pgs_nil))))
      (pss_cons (ps_set (i := 11) scLaw.nd rfl (by first | exact .inl rfl | exact .inr rfl) (pe_tup (pa_cons (pe_op (repA K) (pe_tup (pa_cons (pe_tupRg rfl (by rfl) B.tuple (prg_2 (by rfl) B.range pe_int (pe_op op_add (pv 8) pe_int))) pa_nil)) (pe_op op_mul (pv 8) (pv 8))) (pa_cons (pe_call FUn.G (hr.mono (by decide)) (by rfl) FUn.D.g FUn.D.F.kp FUn.D.b .nil pass0 (pa_cons (pe_op op_cat (pv 9) (pv 10)) pa_nil)) pa_nil))))
      (pss_cons (ps_par (i := 12) (j := 13) rfl scLaw.nd rfl rfl (by decide) rfl rfl (pa_cons (pe_lst pa_nil) (pa_cons (pe_op op_mul (pv 8) (pv 8)) pa_nil)) (by rfl))
      (pss_cons (ps_for PassesOwn.never rfl (pi_range1 (by rfl) B.range (pa_cons (pe_call FPi.G (hr.mono (by decide)) (by rfl) FPi.D.g FPi.D.F.kp FPi.D.b .nil pass0 (pa_cons (pv 1) (pa_cons pe_int pa_nil))) pa_nil)) (pg_name (i := 14) scLaw.nd rfl (by first | exact .inl rfl | exact .inr rfl)) (pss_cons (ps_set (i := 15) scLaw.nd rfl (by first | exact .inl rfl | exact .inr rfl) (pe_tup (pa_cons (pe_call FPi.G (hr.mono (by decide)) (by rfl) FPi.D.g FPi.D.F.kp FPi.D.b .nil pass0 (pa_cons (pv 1) (pa_cons (pv 13) pa_nil))) (pa_cons (pe_call FPi.G (hr.mono (by decide)) (by rfl) FPi.D.g FPi.D.F.kp FPi.D.b .nil pass0 (pa_cons (pv 1) (pa_cons (pv 13) pa_nil))) pa_nil))))
      (pss_one (ps_set (i := 12) scLaw.nd rfl (by first | exact .inl rfl | exact .inr rfl) (pe_op op_cat (pv 12) (pe_ifExp (pt_cmpR op_ne (pe_ix (ixT K) (pv 15) pe_int (fun _ _ => rfl)) (pe_ix (ixT K) (pv 15) pe_int (fun _ _ => rfl)) (nomark _)) (pe_lst (pa_cons (pv 15) pa_nil)) (pe_lst pa_nil)))))))
      (pss_cons (ps_set (i := 16) scLaw.nd rfl (by first | exact .inl rfl | exact .inr rfl) (pe_op (catA K) (pe_ix (ixT K) (pv 11) pe_int (fun _ _ => rfl)) (pe_callTy (tupleOf K) (by rfl) B.tuple PyProof.Rows.boot_tuple (pa_cons (pe_lc (own := [("_law_i", 17), ("_law_j", 18)]) rfl scLaw.nd (pi_list (pv 12)) (blkOk_by (N := nmLaw) (sc := defScope sLaw) (by decide +kernel)) (fun _ _ _ _ _ => (pg_tupK K (n := 2) rfl (pgs_cons (pg_name (i := 17) scLaw.nd rfl (by first | exact .inl rfl | exact .inr rfl)) (pgs_cons (pg_name (i := 18) scLaw.nd rfl (by first | exact .inl rfl | exact .inr rfl)) pgs_nil)))) (fun _ _ _ _ _ => pts_nil) (fun _ _ _ _ _ => (pe_tup (pa_cons pe_str (pa_cons (pv 17) (pa_cons (pv 18) pa_nil)))))) pa_nil))))
      (pss_cons (ps_if (pw_or (pt_cmpR (neDD K hu) (pe_call FSq.G (hr.mono (by decide)) (by rfl) FSq.D.g FSq.D.F.kp FSq.D.b .nil pass0 (pa_cons (pv 8) pa_nil)) (pv 11) (nomark _)) (pw_or1 (pt_cmpR (neDD K hu) (pe_call FSg.G (hr.mono (by decide)) (by rfl) FSg.D.g FSg.D.F.kp FSg.D.b .nil pass0 (pa_cons (pv 8) (pa_cons (pe_callTy (tupleOf K) (by rfl) B.tuple PyProof.Rows.boot_tuple (pa_cons (pv 12) pa_nil)) pa_nil))) (pe_tup (pa_cons (pe_ix (ixT K) (pv 11) pe_int (fun _ _ => rfl)) (pa_cons (pv 16) pa_nil))) (nomark _)))).pt (pss_one (ps_ret pe_bl)) pss_nil)
      (pss_cons (ps_for PassesOwn.never rfl (pi_tup (pe_tup (pa_cons (pe_tup (pa_cons pe_int (pa_cons (pv 8) pa_nil))) (pa_cons (pe_tup (pa_cons (pv 8) (pa_cons pe_int pa_nil))) (pa_cons (pe_tup (pa_cons pe_int (pa_cons pe_int pa_nil))) (pa_cons (pe_tup (pa_cons pe_int (pa_cons pe_int pa_nil))) pa_nil)))))) (pg_tupK K (n := 2) rfl (pgs_cons (pg_name (i := 5) scLaw.nd rfl (by first | exact .inl rfl | exact .inr rfl)) (pgs_cons (pg_name (i := 7) scLaw.nd rfl (by first | exact .inl rfl | exact .inr rfl)) pgs_nil))) (pss_cons (ps_set (i := 19) scLaw.nd rfl (by first | exact .inl rfl | exact .inr rfl) (pe_op op_mul (pv 5) (pv 7)))
      (pss_cons (ps_set (i := 20) scLaw.nd rfl (by first | exact .inl rfl | exact .inr rfl) (pe_tup (pa_cons (pe_op (repA K) (pe_tup (pa_cons (pe_tupRg rfl (by rfl) B.tuple (prg_2 (by rfl) B.range pe_int (pe_op op_add (pv 19) pe_int))) pa_nil)) (pe_op op_mul (pv 19) (pv 19))) (pa_cons (pe_call FUn.G (hr.mono (by decide)) (by rfl) FUn.D.g FUn.D.F.kp FUn.D.b .nil pass0 (pa_cons (pe_ix (ixT K) (pe_call FLi.G (hr.mono (by decide)) (by rfl) FLi.D.g FLi.D.F.kp FLi.D.b .nil pass0 (pa_cons (pe_tup (pa_cons (pv 19) (pa_cons (pv 19) pa_nil))) pa_nil)) pe_int (fun _ _ => rfl)) pa_nil)) pa_nil))))
      (pss_cons (ps_set (i := 20) scLaw.nd rfl (by first | exact .inl rfl | exact .inr rfl) (pe_tup (pa_cons (pe_ix (ixT K) (pv 20) pe_int (fun _ _ => rfl)) (pa_cons (pe_op (catA K) (pe_ix (ixT K) (pv 20) pe_int (fun _ _ => rfl)) (pe_call FUn.G (hr.mono (by decide)) (by rfl) FUn.D.g FUn.D.F.kp FUn.D.b .nil pass0 (pa_cons (pe_op op_cat (pe_ix (ixT K) (pe_call FLi.G (hr.mono (by decide)) (by rfl) FLi.D.g FLi.D.F.kp FLi.D.b .nil pass0 (pa_cons (pe_tup (pa_cons (pv 19) (pa_cons (pv 19) pa_nil))) pa_nil)) pe_int (fun _ _ => rfl)) (pe_callTy call_list_of (by rfl) B.list PyProof.Rows.boot_list (pa_cons (pe_call FBo.G (hr.mono (by decide)) (by rfl) FBo.D.g FBo.D.F.kp FBo.D.b .nil pass0 (pa_cons (pe_tup (pa_cons (pv 19) (pa_cons (pv 19) pa_nil))) (pa_cons (pv 5) (pa_cons (pv 7) pa_nil)))) pa_nil))) pa_nil))) pa_nil))))
      (pss_one (ps_if (pt_cmpR (neDD K hu) (pe_call FBx.G (hr.mono (by decide)) (by rfl) FBx.D.g FBx.D.F.kp FBx.D.b .nil pass0 (pa_cons (pv 5) (pa_cons (pv 7) pa_nil))) (pv 20) (nomark _)) (pss_one (ps_ret pe_bl)) pss_nil))))))
      pr)))))))), fun σ H inv k => ?_⟩
  obtain ⟨a, d, cs, gv, h, w, o21, ⟨v5, v6, v7, v8, v9, v10, v11, v12, v13, v14, v15, v16, v17, v18, v19, v20, v22, v23, v24, v25, v26, v27, v28, v29, v30, v31, v32, v33, v34, v35, v36, rfl⟩, hg, hs⟩ := inv
  refine ⟨_, rfl, d, cs, 4, rfl, hs, by decide, fun r H1 _ rb hs1 rn1 => ⟨_, _, rfl, rfl, ?_⟩⟩
  have rb := rb (by decide)
  have hg1 := hg.kt (Rn.kt hs rn1)
  have n1 : 1 ≤ 1 + r ∧ 1 + r ≤ 4 := by omega
  show gName 8 (V.int (1 + r)) _ H1 _
  generalize 1 + r = n at *
  have nn : n * n ≤ 4 * 4 := Int.mul_le_mul n1.2 n1.2 (by omega) (by omega)
  have nn1 : 1 * 1 ≤ n * n := Int.mul_le_mul n1.1 n1.1 (by omega) (by omega)
  refine ⟨_, rfl, _, rfl, (show 2 ≤ sizeLine by decide), fun T hT => ?_⟩
  have sT := same_new (o := .tup [.int n, .int n]) hT
  have hgn : GrH (upd H1 T (.tup [.int n, .int n])) (.ref T) n n := ⟨⟨T, rfl, upd_same⟩, n1.1, n1.1, nn⟩
  have hs2 := hs1.same sT
  have hg2 := hg1.kt (kt_same sT)
  generalize upd H1 T (.tup [.int n, .int n]) = H2 at *
  have rlen : (rowLots n n).length + (colLots n n).length ≤ 8 := by rw [rowLots_len, colLots_len]; omega
  refine ⟨.ref T, n, n, rfl, hgn, fun T2 l1 l2 H3 e1 e2 s3 hT2 r1 r2 => ⟨T2, _, rfl, sqt hT2, rfl, _, _, rfl, _, _, rfl, rfl, ?_⟩⟩
  have hs3 := hs2.same s3
  have hg3 := hg2.kt (kt_same s3)
  -- the square
  refine ⟨_, rfl, _, _, rfl, rfl, _, _, rfl, rfl, RgOk.of_le (by omega) (by omega) (by omega) (by omega), fun T4 hT4 => ⟨(show 1 ≤ sizeLine by decide), fun T5 hT5 => ?_⟩⟩
  have t4 := same_new (o := .tup (rgV 1 (n + 1))) hT4
  have t5 := same_new (o := .tup [.ref T4]) hT5
  have t45 := Same.tr t4 t5
  have i4 : IH (upd (upd H3 T4 (.tup (rgV 1 (n + 1)))) T5 (.tup [.ref T4])) (.ref T4) (fromTo 1 n) := ⟨T4, rfl, by rw [upd_at hT5 upd_same, fromTo_rg, show n + 1 - 1 = n by omega]⟩
  have e5 : upd (upd H3 T4 (.tup (rgV 1 (n + 1)))) T5 (.tup [.ref T4]) T5 = some (.tup [.ref T4]) := upd_same
  generalize upd (upd H3 T4 (.tup (rgV 1 (n + 1)))) T5 (.tup [.ref T4]) = H5 at *
  refine ⟨_, rfl, _, rfl, _, _, rfl, rfl, .inr ⟨by omega, by omega⟩, rep_rows e5 i4 (by omega) (by omega) fun w6 H6 s6 p6 => ?_⟩
  have t06 := Same.tr t45 s6
  refine ⟨_, rfl, _, rfl, cat_ls (LRows.same t06 r1) (LRows.same t06 r2) (by omega) fun p7 H7 s7 hp7 rp7 => ⟨p7, _, rfl, rp7, by rw [List.length_append]; omega, fun w8 H8 s8 ru8 => ?_⟩⟩
  refine ⟨(show 2 ≤ sizeLine by decide), fun T9 hT9 => ?_⟩
  have t9 := same_new (o := .tup [w6, w8]) hT9
  have s89 := Same.tr s8 t9
  have s79 := Same.tr s7 s89
  have e9 : upd H8 T9 (.tup [w6, w8]) T9 = some (.tup [w6, w8]) := upd_same
  have t09 := Same.tr t06 s79
  have p9 : RowsH (upd H8 T9 (.tup [w6, w8])) w6 (sqDoms n) := p6.kt (kt_same s79)
  have ru9 : RusH (upd H8 T9 (.tup [w6, w8])) w8 (sqRules n) := ru8.kt (kt_same t9)
  have hs9 := hs3.same t09
  have hg9 := hg3.kt (kt_same t09)
  show gName 11 (V.ref T9) _ (upd H8 T9 (.tup [w6, w8])) _
  generalize upd H8 T9 (.tup [w6, w8]) = H9 at *
  clear p6 ru8 i4 r1 r2 hg1 hg2 hg3 hs1 hs2 hs3 hgn
  refine ⟨by decide, fun L hL => ⟨_, rfl, _, rfl, _, _, rfl, rfl, .inr ⟨by omega, by omega⟩, _, _, rfl, ?_⟩⟩
  have tL := same_new (o := .lst []) hL
  have eL : upd H9 L (.lst []) L = some (.lst []) := upd_same
  have nL := hs9.none hL
  have hs10 := hs9.same tL
  have hg10 := hg9.kt (kt_same tL)
  have p10 := p9.kt (kt_same tL)
  have ru10 := ru9.kt (kt_same tL)
  have e10 := tL _ _ e9
  clear p9 ru9 e9 hs9 hg9
  generalize upd H9 L (.lst []) = H10 at *
  -- the pairs
  refine ⟨_, rfl, d, cs, 5, rfl, hs10, by decide, fun q H11 _ qb hs11 rn11 => ⟨_, rfl, ?_⟩⟩
  have qb := qb (by decide)
  refine ⟨by omega, by omega, ?_⟩
  have eL11 := rn11 _ _ nL.1 nL.2 eL
  refine for_it (walk_range (lo := 0) (n := q.toNat)) (fun i σ H' => ∃ (u14 u15 : Option V) (L' : Addr) (acc : List V) (ps : List (List Int)), σ = [some (.ref a), some (.ref d), some gv, some (.int h), some (.int w), v5, v6, v7, some (.int n), some (.ref l1), some (.ref l2), some (.ref T9), some (.ref L'), some (.int (n * n)), u14, u15, v16, v17, v18, v19, v20, o21, v22, v23, v24, v25, v26, v27, v28, v29, v30, v31, v32, v33, v34, v35, v36] ∧ H' L' = some (.lst acc) ∧ (L' ≠ d ∧ L' ≠ cs) ∧ Paired (IH H') acc ps ∧ (∀ p ∈ ps, p.length = 2) ∧ ps.length ≤ i ∧ SrcAt H' d cs ∧ Rn d cs H11 H')
    ⟨_, _, L, [], [], rfl, eL11, nL, .nil, (fun p hp => by cases hp), Nat.le_refl _, hs11, Rn.refl _ _ _⟩ (fun _ _ _ _ _ => trivial) (fun i x σ H' H'' hi h y => ?_) (fun σ H' h => ?_)
  · obtain ⟨u14, u15, L', acc, ps, rfl, hA, nA, pA, two, psl, hsA, rnA⟩ := h
    obtain ⟨rfl, rfl⟩ := y
    refine ⟨_, rfl, _, rfl, d, cs, n * n, rfl, hsA, by omega, fun ra H12 _ _ hs12 rn12 => ⟨_, rfl, _, rfl, d, cs, n * n, rfl, hs12, by omega, fun rb H13 _ _ hs13 rn13 => ⟨(show 2 ≤ sizeLine by decide), fun T14 hT14 => ?_⟩⟩⟩
    have t14 := same_new (o := .tup [.int ra, .int rb]) hT14
    have i14 : IH (upd H13 T14 (.tup [.int ra, .int rb])) (.ref T14) [ra, rb] := ⟨T14, rfl, upd_same⟩
    have e14 : upd H13 T14 (.tup [.int ra, .int rb]) T14 = some (.tup [.int ra, .int rb]) := upd_same
    have rn14 := Rn.trans rn12 (Rn.trans rn13 (rn_same t14))
    have hs14 := hs13.same t14
    have k14 : Kt H'' (upd H13 T14 (.tup [.int ra, .int rb])) := Rn.kt hsA rn14
    have hA14 := rn14 _ _ nA.1 nA.2 hA
    show gName 15 (V.ref T14) _ (upd H13 T14 (.tup [.int ra, .int rb])) _
    generalize upd H13 T14 (.tup [.int ra, .int rb]) = H14 at *
    have al : acc.length ≤ 5 := by rw [pA.length]; omega
    have pA14 := paired_mono (fun _ _ z => IH.kt k14 z) pA
    refine ⟨_, rfl, _, rfl, T14, _, 0, _, rfl, rfl, sqt e14, rfl, _, rfl, T14, _, 1, _, rfl, rfl, sqt e14, rfl, rfl, _, rfl, ?_⟩
    by_cases z : ra = rb
    · refine ifF (by rw [z]; simp) ⟨by decide, fun L15 hL15 => ?_⟩
      have t15 := same_new (o := .lst []) hL15
      refine ⟨L', L15, acc, [], rfl, rfl, t15 _ _ hA14, upd_same, by rw [sizeLine_eq]; show acc.length + 0 ≤ _; omega, fun p hp => ?_⟩
      have t16 := same_new (o := .lst (acc ++ [])) hp
      have tt := Same.tr t15 t16
      have hn := (hs14.same t15).none hp
      refine ⟨_, _, p, acc ++ [], ps, rfl, upd_same, hn, ?_, two, Nat.le_succ_of_le psl, hs14.same tt, Rn.trans rnA (Rn.trans rn14 (rn_same tt))⟩
      rw [List.append_nil]
      rw [List.append_nil] at tt
      exact paired_mono (fun _ _ z => IH.kt (kt_same tt) z) pA14
    · refine ifT (by simp [z]) ⟨_, rfl, (show 1 ≤ sizeLine by decide), fun L15 hL15 => ?_⟩
      have t15 := same_new (o := .lst [.ref T14]) hL15
      refine ⟨L', L15, acc, [.ref T14], rfl, rfl, t15 _ _ hA14, upd_same, by rw [sizeLine_eq]; show acc.length + 1 ≤ _; omega, fun p hp => ?_⟩
      have t16 := same_new (o := .lst (acc ++ [.ref T14])) hp
      have tt := Same.tr t15 t16
      have hn := (hs14.same t15).none hp
      refine ⟨_, _, p, acc ++ [.ref T14], ps ++ [[ra, rb]], rfl, upd_same, hn, paired_app (paired_mono (fun _ _ z => IH.kt (kt_same tt) z) pA14) (paired_one (i14.kt (kt_same tt))), ?_, by rw [List.length_append]; exact Nat.succ_le_succ psl, hs14.same tt, Rn.trans rnA (Rn.trans rn14 (rn_same tt))⟩
      intro t ht
      rcases List.mem_append.mp ht with q | q
      · exact two t q
      · rw [List.mem_singleton.mp q]
        rfl
  · obtain ⟨u14, u15, L', acc, ps, rfl, hA, nA, pA, two, psl, hsA, rnA⟩ := h
    have rnT := Rn.trans rn11 rnA
    have nT9 := hs10.ne e10
    have eT9 := rnT _ _ nT9.1 nT9.2 e10
    have kT := Rn.kt hs10 rnT
    have p11 := p10.kt kT
    have ru11 := ru10.kt kT
    have hgA := hg10.kt kT
    have al : acc.length ≤ 4 := by rw [pA.length]; omega
    clear p10 ru10 hg10 e10 eL eL11 hs10
    refine ⟨_, rfl, T9, _, 1, _, rfl, rfl, sqt eT9, rfl, _, rfl, L', rfl, ⟨_, sql hA⟩, fun D hD => ?_⟩
    refine lc_mapG (walk_list (xs := acc)) hD RuH (fun k h => h.kt k) (ps.map belowR) (by rw [List.length_map, pA.length]) (fun H' s => sql (s _ _ hA)) (by omega) (fun i x H1 H2 r0 hr0 s y C kk => ?_) (fun H12 us s12 hA12 pA12 => ?_)
    · obtain ⟨rfl, hx⟩ := y
      obtain ⟨t, ht, it⟩ := paired_at pA hx
      rw [List.getElem?_map, ht] at hr0
      cases hr0
      have l2 := two t (List.mem_of_getElem? ht)
      obtain ⟨z, rfl, hz⟩ := it.kt (kt_same s)
      match t, l2, hz with
      | [i1, i2], _, hz =>
        refine ⟨z, _, rfl, sqt hz, rfl, _, _, rfl, _, _, rfl, rfl, rfl, _, rfl, _, rfl, (show 3 ≤ sizeLine by decide), fun T2 hT2 => kk _ _ (same_new hT2) ⟨T2, rfl, upd_same⟩⟩
    refine ⟨D, us, rfl, .inl ⟨sql hA12, fun T13 hT13 => ?_⟩⟩
    have t13 := same_new (o := .tup us) hT13
    have s13 := Same.tr s12 t13
    have slen : (sqRules n).length ≤ 8 := by unfold sqRules; rw [List.length_map, List.length_append]; exact rlen
    refine cat_rules (ru11.kt (kt_same s13)) (ts := ps.map belowR) ⟨T13, us, rfl, upd_same, paired_mono (fun _ _ z => RuH.kt (kt_same t13) z) pA12⟩ (by rw [List.length_map]; omega) fun w14 H14 s14 ru14 => ?_
    have t14 := Same.tr s13 s14
    have hA14 := t14 _ _ hA
    have pA14 := paired_mono (fun _ _ z => IH.kt (kt_same t14) z) pA
    have e14 := t14 _ _ eT9
    have p14 := p11.kt (kt_same t14)
    have ru14' := ru11.kt (kt_same t14)
    have hs14 := hsA.same t14
    have hg14 := hgA.kt (kt_same t14)
    clear p11 ru11 eT9 pA hA hA12 pA12
    show gName 16 w14 _ H14 _
    refine ⟨_, rfl, n, rfl, n1.1, n1.2, fun v15 H15 s15 p15 => ⟨_, rfl, ?_⟩⟩
    have pz : PzH H15 (.ref T9) (sqP n) := ⟨T9, w6, w8, rfl, s15 _ _ e14, p14.kt (kt_same s15), ru14'.kt (kt_same s15)⟩
    refine ⟨_, _, puz_dp p15, puz_dp pz, cmp_puz _, cmp_puz _, _, rfl, ?_⟩
    rw [eqv_puz]
    refine ifF rfl ?_
    refine ⟨_, rfl, _, rfl, L', acc, rfl, .inl ⟨sql (s15 _ _ hA14), fun T16 hT16 => ?_⟩⟩
    have t16 := same_new (o := .tup acc) hT16
    have s16 := Same.tr s15 t16
    refine ⟨n, .ref T16, ps, rfl, n1.1, n1.2, ⟨T16, acc, rfl, upd_same, paired_mono (fun _ _ z => IH.kt (kt_same s16) z) pA14⟩, two, by omega, fun v17 H17 s17 p17 => ?_⟩
    have s17' := Same.tr s16 s17
    refine ⟨_, rfl, T9, _, 0, _, rfl, rfl, sqt (s17' _ _ e14), rfl, _, rfl, (show 2 ≤ sizeLine by decide), fun T18 hT18 => ?_⟩
    have t18 := same_new (o := .tup [w6, w14]) hT18
    have s18 := Same.tr s17' t18
    have pz2 : PzH (upd H17 T18 (.tup [w6, w14])) (.ref T18) (signP n ps) := ⟨T18, w6, w14, rfl, upd_same, p14.kt (kt_same s18), ru14.kt (kt_same s18)⟩
    refine ⟨_, _, puz_dp (p17.kt (kt_same t18)), puz_dp pz2, cmp_puz _, cmp_puz _, _, rfl, ?_⟩
    rw [eqv_puz]
    refine ifF rfl ?_
    have hs18 := hs14.same s18
    have hg18 := hg14.kt (kt_same s18)
    clear p17 pz2 pz p15 p14 ru14 ru14' e14 hs14 hg14 pA14 hA14
    generalize upd H17 T18 (.tup [w6, w14]) = H18 at *
    -- the boxed
    refine ⟨_, rfl, (show 2 ≤ sizeLine by decide), fun Ta hTa => ⟨_, rfl, (show 2 ≤ sizeLine by decide), fun Tb hTb => ⟨(show 2 ≤ sizeLine by decide), fun Tc hTc => ⟨(show 2 ≤ sizeLine by decide), fun Td hTd => ⟨(show 4 ≤ sizeLine by decide), fun Te hTe => ?_⟩⟩⟩⟩⟩
    have ta := same_new (o := .tup [.int 1, .int n]) hTa
    have tb := same_new (o := .tup [.int n, .int 1]) hTb
    have tc := same_new (o := .tup [.int 2, .int 2]) hTc
    have td := same_new (o := .tup [.int 1, .int 1]) hTd
    have te := same_new (o := .tup [.ref Ta, .ref Tb, .ref Tc, .ref Td]) hTe
    have tde := Same.tr td te
    have tce := Same.tr tc tde
    have tbe := Same.tr tb tce
    have tae := Same.tr ta tbe
    have ea := tbe _ _ (upd_same (H := H18) (a := Ta) (o := .tup [.int 1, .int n]))
    have eb := tce _ _ (upd_same (H := upd H18 Ta (.tup [.int 1, .int n])) (a := Tb) (o := .tup [.int n, .int 1]))
    have ec := tde _ _ (upd_same (H := upd (upd H18 Ta (.tup [.int 1, .int n])) Tb (.tup [.int n, .int 1])) (a := Tc) (o := .tup [.int 2, .int 2]))
    have ed := te _ _ (upd_same (H := upd (upd (upd H18 Ta (.tup [.int 1, .int n])) Tb (.tup [.int n, .int 1])) Tc (.tup [.int 2, .int 2])) (a := Td) (o := .tup [.int 1, .int 1]))
    have ee := upd_same (H := upd (upd (upd (upd H18 Ta (.tup [.int 1, .int n])) Tb (.tup [.int n, .int 1])) Tc (.tup [.int 2, .int 2])) Td (.tup [.int 1, .int 1])) (a := Te) (o := .tup [.ref Ta, .ref Tb, .ref Tc, .ref Td])
    generalize upd (upd (upd (upd (upd H18 Ta (.tup [.int 1, .int n])) Tb (.tup [.int n, .int 1])) Tc (.tup [.int 2, .int 2])) Td (.tup [.int 1, .int 1])) Te (.tup [.ref Ta, .ref Tb, .ref Tc, .ref Td]) = H19 at *
    have prs : ∀ x ∈ [V.ref Ta, V.ref Tb, V.ref Tc, V.ref Td], ∃ T t e, x = V.ref T ∧ H19 T = some (.tup [.int t, .int e]) ∧ 1 ≤ t ∧ 1 ≤ e ∧ t * e ≤ 4 := fun x hx => by
      rcases List.mem_cons.mp hx with rfl | hx
      · exact ⟨Ta, 1, n, rfl, ea, by omega, by omega, by omega⟩
      rcases List.mem_cons.mp hx with rfl | hx
      · exact ⟨Tb, n, 1, rfl, eb, by omega, by omega, by omega⟩
      rcases List.mem_cons.mp hx with rfl | hx
      · exact ⟨Tc, 2, 2, rfl, ec, by omega, by omega, by omega⟩
      rw [List.mem_singleton.mp hx]
      exact ⟨Td, 1, 1, rfl, ed, by omega, by omega, by omega⟩
    have hs19 := hs18.same tae
    have hg19 := hg18.kt (kt_same tae)
    generalize [V.ref Ta, V.ref Tb, V.ref Tc, V.ref Td] = xs at *
    refine ⟨Te, rfl, ⟨_, sqt ee⟩, ?_⟩
    refine for_it (walk_tup (xs := xs)) (fun i σ H' => ∃ o21, StL a d gv h w o21 σ ∧ Same H19 H')
      ⟨_, ⟨_, _, _, _, _, _, _, _, _, _, _, _, _, _, _, _, _, _, _, _, _, _, _, _, _, _, _, _, _, _, _, rfl⟩, same_refl _⟩ (fun i σ H' _ h => ?_) (fun i x σ H' H'' hi h y => ?_) (fun σ H' h => ?_)
    · obtain ⟨_, _, sA⟩ := h
      exact sqt (sA _ _ ee)
    · obtain ⟨o21, ⟨u5, u6, u7, u8, u9, u10, u11, u12, u13, u14, u15, u16, u17, u18, u19, u20, u22, u23, u24, u25, u26, u27, u28, u29, u30, u31, u32, u33, u34, u35, u36, rfl⟩, sA⟩ := h
      obtain ⟨rfl, hx⟩ := y
      obtain ⟨T, t, e, rfl, hT, t1, d1, td⟩ := prs x (List.mem_of_getElem? hx)
      refine ⟨T, _, rfl, sqt (sA _ _ hT), rfl, _, _, rfl, _, _, rfl, rfl, ?_⟩
      have a1 : t * 1 ≤ t * e := Int.mul_le_mul_of_nonneg_left d1 (by omega)
      have a2 : 1 * e ≤ t * e := Int.mul_le_mul_of_nonneg_right t1 (by omega)
      have bl := boxes_len t1 d1 td
      have dv1 : t ∣ t * e := ⟨e, rfl⟩
      have dv2 : e ∣ t * e := ⟨t, Int.mul_comm t e⟩
      have bp : boxP t e = ⟨sqDoms (t * e), (rowLots (t * e) (t * e)).map .unlike ++ ((colLots (t * e) (t * e) ++ boxesL (t * e) (t * e) t e).map .unlike)⟩ := by
        unfold boxP sqRules
        rw [List.map_append, List.map_append, List.append_assoc]
      have m1 : 1 ≤ t * e := by omega
      refine ⟨_, rfl, _, rfl, _, _, rfl, rfl, .inr ⟨by omega, by omega⟩, ?_⟩
      show gName 19 (V.int (t * e)) _ _ _
      have td' := td
      generalize hm : t * e = m at m1 td' bl bp dv1 dv2 ⊢
      have mm : m * m ≤ 4 * 4 := Int.mul_le_mul td' td' (by omega) (by omega)
      have mm1 : 1 * 1 ≤ m * m := Int.mul_le_mul m1 m1 (by omega) (by omega)
      have rl : (rowLots m m).length ≤ 4 := by rw [rowLots_len]; omega
      have cl : (colLots m m).length ≤ 4 := by rw [colLots_len]; omega
      refine ⟨_, rfl, _, _, rfl, rfl, _, _, rfl, rfl, RgOk.of_le (by omega) (by omega) (by omega) (by omega), fun T4 hT4 => ⟨(show 1 ≤ sizeLine by decide), fun T5 hT5 => ?_⟩⟩
      have t4 := same_new (o := .tup (rgV 1 (m + 1))) hT4
      have t5 := same_new (o := .tup [.ref T4]) hT5
      have t45 := Same.tr t4 t5
      have i4 : IH (upd (upd H'' T4 (.tup (rgV 1 (m + 1)))) T5 (.tup [.ref T4])) (.ref T4) (fromTo 1 m) := ⟨T4, rfl, by rw [upd_at hT5 upd_same, fromTo_rg, show m + 1 - 1 = m by omega]⟩
      have e5 : upd (upd H'' T4 (.tup (rgV 1 (m + 1)))) T5 (.tup [.ref T4]) T5 = some (.tup [.ref T4]) := upd_same
      generalize upd (upd H'' T4 (.tup (rgV 1 (m + 1)))) T5 (.tup [.ref T4]) = H5 at *
      refine ⟨_, rfl, _, rfl, _, _, rfl, rfl, .inr ⟨by omega, by omega⟩, rep_rows e5 i4 (by omega) (by omega) fun w6 H6 s6 p6 => ?_⟩
      have t06 := Same.tr t45 s6
      refine ⟨_, rfl, _, rfl, (show 2 ≤ sizeLine by decide), fun T7 hT7 => ⟨.ref T7, m, m, rfl, ⟨⟨T7, rfl, upd_same⟩, m1, m1, mm⟩, fun T8 l3 l4 H8 _ _ s8 hT8 r3 r4 => ⟨T8, _, 0, _, rfl, rfl, sqt hT8, rfl, l3, _, rfl, r3, by omega, fun w9 H9 s9 ru9 => ⟨(show 2 ≤ sizeLine by decide), fun T10 hT10 => ?_⟩⟩⟩⟩
      have t7 := same_new (o := .tup [.int m, .int m]) hT7
      have t10 := same_new (o := .tup [w6, w9]) hT10
      have t910 := Same.tr s9 t10
      have t710 := Same.tr t7 (Same.tr s8 t910)
      have tA := Same.tr t06 t710
      have p10 : RowsH (upd H9 T10 (.tup [w6, w9])) w6 (sqDoms m) := p6.kt (kt_same t710)
      have ru10 := ru9.kt (kt_same t10)
      have e10 : upd H9 T10 (.tup [w6, w9]) T10 = some (.tup [w6, w9]) := upd_same
      show gName 20 (V.ref T10) _ (upd H9 T10 (.tup [w6, w9])) _
      generalize upd H9 T10 (.tup [w6, w9]) = H10 at *
      refine ⟨_, rfl, T10, _, 0, _, rfl, rfl, sqt e10, rfl, _, rfl, T10, _, 1, _, rfl, rfl, sqt e10, rfl, _, rfl, _, rfl, (show 2 ≤ sizeLine by decide), fun T11 hT11 => ⟨.ref T11, m, m, rfl, ⟨⟨T11, rfl, upd_same⟩, m1, m1, mm⟩, fun T12 l5 l6 H12 _ _ s12 hT12 r5 r6 => ⟨T12, _, 1, _, rfl, rfl, sqt hT12, rfl, _, rfl, _, rfl, (show 2 ≤ sizeLine by decide), fun T13 hT13 => ⟨_, rfl, _, rfl, .ref T13, m, m, t, e, rfl, ⟨⟨T13, rfl, upd_same⟩, m1, m1, mm⟩, t1, dv1, d1, dv2, fun v14 H14 s14 ⟨b, ys, e14, q14, p14⟩ => ?_⟩⟩⟩⟩
      subst e14
      refine ⟨b, ys, rfl, .inr (sqt q14), fun L15 hL15 => ?_⟩
      have t11 := same_new (o := .tup [.int m, .int m]) hT11
      have t13 := same_new (o := .tup [.int m, .int m]) hT13
      have t15 := same_new (o := .lst ys) hL15
      have r15 : LRows (upd H14 L15 (.lst ys)) (.ref L15) (boxesL m m t e) := ⟨L15, ys, rfl, upd_same, paired_mono (fun _ _ z => IH.kt (kt_same t15) z) p14⟩
      have r6' := LRows.same (Same.tr t13 (Same.tr s14 t15)) r6
      refine cat_ls r6' r15 (by omega) fun p16 H16 s16 hp16 rp16 => ⟨p16, _, rfl, rp16, by rw [List.length_append]; omega, fun w17 H17 s17 ru17 => ?_⟩
      have t1117 := Same.tr t11 (Same.tr s12 (Same.tr t13 (Same.tr s14 (Same.tr t15 (Same.tr s16 s17)))))
      refine cat_rules (ru10.kt (kt_same t1117)) ru17 (by rw [List.length_map, List.length_map, List.length_append]; omega) fun w18 H18 s18 ru18 => ⟨(show 2 ≤ sizeLine by decide), fun T19 hT19 => ?_⟩
      have t19 := same_new (o := .tup [w6, w18]) hT19
      have t1819 := Same.tr s18 t19
      have pz : PzH (upd H18 T19 (.tup [w6, w18])) (.ref T19) (boxP t e) := by
        rw [bp]
        exact ⟨T19, w6, w18, rfl, upd_same, p10.kt (kt_same (Same.tr t1117 t1819)), ru18.kt (kt_same t19)⟩
      have tB := Same.tr tA (Same.tr t1117 t1819)
      show gName 20 (V.ref T19) _ (upd H18 T19 (.tup [w6, w18])) _
      generalize upd H18 T19 (.tup [w6, w18]) = H20 at *
      refine ⟨_, rfl, _, rfl, t, e, rfl, t1, d1, td, fun v21 H21 s21 p21 => ⟨_, rfl, ?_⟩⟩
      refine ⟨_, _, puz_dp p21, puz_dp (pz.kt (kt_same s21)), cmp_puz _, cmp_puz _, _, rfl, ?_⟩
      rw [eqv_puz]
      exact ifF rfl ⟨_, ⟨_, _, _, _, _, _, _, _, _, _, _, _, _, _, _, _, _, _, _, _, _, _, _, _, _, _, _, _, _, _, _, rfl⟩, Same.tr sA (Same.tr tB s21)⟩
    · obtain ⟨o21, st, sA⟩ := h
      exact rest _ _ ⟨a, d, cs, gv, h, w, _, st, hg19.kt (kt_same sA), hs19.same sA⟩ k
end
end G9

set_option Elab.async false
set_option linter.all false
set_option maxRecDepth 100000
set_option maxHeartbeats 8000000
/-! the law's body -/
namespace G9
open PySem PySem.Spec PyProof.Rows L2 GX
section
variable {P : Program} {w : World} {K : PySem.W.Frag} {mg : Str → Option Value} {base : Heap} {fO fPi fOr fLi fNe fTi fDg fRt fBo fUn fBl fSq fBx fSg fSm fPt fMi fRo : Addr} {dO dPi dOr dLi dNe dTi dDg dRt dBo dUn dBl dSq dBx dSg dSm dPt dMi dRo : FuncData}
theorem law_body (B : Bl mg) (FO : Fn P w K mg base "_law_open_cells" sOpen ["_law_script"] 1 (spOpen K) fO dO) (FPi : Fn P w K mg base "_law_pick" sPick ["_law_source", "_law_most"] 1 spPick fPi dPi) (FOr : Fn P w K mg base "_law_any_order" sOrder ["_law_source", "_law_things"] 3 spOrder fOr dOr) (FLi : Fn P w K mg base "_law_lines" sLLines ["_law_grid"] 1 spLines fLi dLi) (FNe : Fn P w K mg base "_law_near" sLNear ["_law_grid", "_law_cell", "_law_is_corner"] 1 spNear fNe dNe) (FTi : Fn P w K mg base "_law_ties" sLTies ["_law_grid"] 2 spLTies fTi dTi) (FDg : Fn P w K mg base "_law_draw_grid" sLDrawGrid ["_law_source", "_law_most"] 2 spDrawGrid fDg dDg) (FRt : Fn P w K mg base "_law_places_right" sLPlacesRight ["_law_grid"] 4 spRight fRt dRt) (FBo : Fn P w K mg base "_law_boxes" sLBoxes ["_law_grid", "_law_tall", "_law_wide"] 1 spLBoxes fBo dBo) (FUn : Fn P w K mg base "_law_unlike" sLUnlike ["_law_lots"] 1 spUnlike fUn dUn) (FBl : Fn P w K mg base "box_lots" sBoxLots ["grid", "tall", "wide"] 3 spBoxLots fBl dBl) (FSq : Fn P w K mg base "squares" sSquares ["size"] 4 spSquares fSq dSq) (FBx : Fn P w K mg base "boxed" sBoxed ["tall", "wide"] 5 spBoxed fBx dBx) (FSg : Fn P w K mg base "signed" sSigned ["size", "pairs"] 5 spSigned fSg dSg) (FSm : Fn P w K mg base "summed" sSummed ["grid", "most", "lots"] 3 spSummed fSm dSm) (FPt : Fn P w K mg base "painted" sPainted ["grid", "rows", "columns"] 4 spPainted fPt dPt) (FMi : Fn P w K mg base "mined" sMined ["grid", "told"] 4 spMined fMi dMi) (FRo : Fn P w K mg base "roaded" sRoaded ["grid", "rows", "columns"] 4 spRoaded fRo dRo)
    {f : Addr} {cdv : Value} {A : Around} {outer : List Env} {s : Shared} {H : Hp} {vs : List V} {Q : VK} {E : XK} (hr : Room 5 (A.deeper (envOfC "law" (defScope sLaw) s.heap.objs.size f cdv))) (h : spLaw K vs H Q E) :
    ∃ t, PSs (cxOf CX0 P w K mg base nmLaw "law" (defScope sLaw) f cdv A outer s H E).nox (defBody sLaw) t ∧ t { nx := fun _ H' => Q .non H', rt := Q } (start nmLaw vs) H := by
  obtain ⟨a, ns, rfl, ha, hns, k⟩ := h
  obtain ⟨t, pt, go⟩ := (seg0 B FO FDg FRt FBl FBo hr (seg5 B FPi FLi FUn FSq FSg FBo FBx hr (seg13 B FPi FOr FSm hr (seg16 B FPi FLi FTi FPt FRo hr (seg25 B FPi FNe FMi hr)))))
  exact ⟨t, pt, go _ _ ⟨a, ns, rfl, ha, hns⟩ k⟩
end
end G9

set_option Elab.async false
set_option linter.all false
set_option maxRecDepth 100000
set_option maxHeartbeats 4000000
namespace G9
open PySem PySem.Spec PyProof.Rows L2 GX
/-! the end, where what is around the law's call is known: nothing is being shown -/
abbrev eTab : Obj := { cls := .none, data := .fields #[] }
/-- what is tracked as the law is called: tables, the script (if it is not written) -/
def hpE (K : PySem.W.Frag) (a : Addr) (o : Obj) (xs : List V) (ts : List Addr) : Hp := fun b =>
  if b ∈ ts then some (.tbl #[]) else if b = a ∧ K.lookup a = none then some (.frz o (.lst xs)) else none
theorem hpE_tab {K : PySem.W.Frag} {a : Addr} {o : Obj} {xs : List V} {ts : List Addr} {b : Addr} (h : b ∈ ts) : hpE K a o xs ts b = some (.tbl #[]) := if_pos h
theorem hpE_inv {K : PySem.W.Frag} {a : Addr} {o : Obj} {xs : List V} {ts : List Addr} {b : Addr} {u : HO} (h : hpE K a o xs ts b = some u) : (b ∈ ts ∧ u = .tbl #[]) ∨ (b ∉ ts ∧ b = a ∧ K.lookup a = none ∧ u = .frz o (.lst xs)) := by
  by_cases c : b ∈ ts
  · rw [hpE_tab c] at h
    exact .inl ⟨c, (Option.some.inj h).symm⟩
  · have e : hpE K a o xs ts b = if b = a ∧ K.lookup a = none then some (.frz o (.lst xs)) else none := if_neg c
    rw [e] at h
    by_cases c2 : b = a ∧ K.lookup a = none
    · rw [if_pos c2] at h
      exact .inr ⟨c, c2.1, c2.2, (Option.some.inj h).symm⟩
    · rw [if_neg c2] at h
      cases h
section
variable {P : Program} {w : World} {K : PySem.W.Frag} {mg mb : Str → Option Value} {fa a : Addr} {cs : List (Addr × Addr)} {s : Shared} {us : List Value} {ns : List Int}
theorem call_end (KX : K.In s.heap) (hG : s.heap.Ns mainGlobals mg) (hB : s.heap.Ns builtinsNs mb) (hBB : ∀ x : Str, x ≠ "__name__" → mb x = bootBuiltins x) (hL : s.heap.NoLimit) (hgen : s.gens = #[])
    (tE : ∀ p ∈ cs, s.heap.get? p.2 = some eTab) (tK : ∀ p ∈ cs, K.lookup p.2 = none) (tC : ∀ p ∈ cs, PySem.W.CodeHd s.heap p.1 p.2)
    (hmod : ∃ (m : Addr) (ob : Obj), mg "__builtins__" = some (.ref m) ∧ m ≠ builtinsNs ∧ s.heap.get? m = some ob ∧ ob.cls = .type "module" ∧ ob.dict = some builtinsNs ∧ ob.data = .plain)
    (hs : s.heap.get? a = some { cls := .type "list", data := .seq us.toArray }) (hi : IntsAre us ns) (hn : ns.length ≤ 63)
    (run : ∀ (H : Hp) (base : Heap), Env0 P w K mg base callerA [] s H → (∀ p ∈ cs, GxR.TabB base mg p.1 p.2) → (∀ p ∈ cs, H p.2 = some (.tbl #[])) → SqL K H a (ns.map V.int) →
      codeAny (model P w) callerA (.call (.ref fa) ⟨[.ref a], []⟩) (CR CX0 [] P w H s (fun v _ => v = .bl true) E0) s) :
    codeAny (model P w) callerA (.call (.ref fa) ⟨[.ref a], []⟩) (fun r s' => r = .ok (.ret (.bool true)) ∧ OldK s.heap s'.heap ∧ s'.os = s.os ∧ AllBare s'.gens) s := by
  have tt : ∀ b ∈ cs.map (·.2), s.heap.get? b = some eTab ∧ K.lookup b = none := fun b hb => by
    obtain ⟨p, hp, rfl⟩ := List.mem_map.mp hb
    exact ⟨tE p hp, tK p hp⟩
  have into : ∀ p ∈ cs, p.2 ∈ cs.map (·.2) := fun p hp => List.mem_map_of_mem hp
  generalize hHe : hpE K a { cls := .type "list", data := .seq us.toArray } (ns.map V.int) (cs.map (·.2)) = H
  have inv : ∀ {b : Addr} {u : HO}, H b = some u → (b ∈ cs.map (·.2) ∧ u = .tbl #[]) ∨ (b ∉ cs.map (·.2) ∧ b = a ∧ K.lookup a = none ∧ u = .frz { cls := .type "list", data := .seq us.toArray } (.lst (ns.map V.int))) := fun {b u} e => by
    rw [← hHe] at e
    exact hpE_inv e
  have rv : Vals (ns.map V.int) us := vals_ints hi
  -- what is neither a table nor a list is not tracked
  have off : ∀ {b : Addr} {o : Obj}, s.heap.get? b = some o → o.data ≠ .fields #[] → (∀ xs n, o.data ≠ .seq xs n) → H b = none := fun {b o} e n1 n2 => by
    cases q : H b with
    | none => rfl
    | some u =>
      rcases inv q with ⟨m, _⟩ | ⟨_, m, _⟩
      · rw [(tt b m).1] at e
        exact absurd (congrArg Obj.data (Option.some.inj e)).symm n1
      · rw [m, hs] at e
        exact absurd (congrArg Obj.data (Option.some.inj e)).symm (n2 _ _)
  have nsB : ∀ {b : Addr} {m : Str → Option Value}, s.heap.Ns b m → (hidT s.heap H).Ns b m := fun ⟨o, es, ep, e, d, r⟩ =>
    ⟨o, es, ep, hidT_get e (off e (by rw [d]; exact fun z => nomatch z) (by rw [d]; exact fun _ _ z => nomatch z)), d, r⟩
  have kB : K.In (hidT s.heap H) := fun b o e => hidT_get (KX b o e) (by
    cases q : H b with
    | none => rfl
    | some u =>
      rcases inv q with ⟨m, _⟩ | ⟨_, m, z, _⟩
      · rw [(tt b m).2] at e
        cases e
      · rw [m, z] at e
        cases e)
  have md : L2.Mod K mg (hidT s.heap H) := ⟨kB, nsB hG, ⟨mb, nsB hB, hBB⟩, hL.elim fun m h => ⟨m, nsB h.1, h.2⟩⟩
  have hok : HOk P w H s.heap := fun b u e => by
    rcases inv e with ⟨m, rfl⟩ | ⟨_, rfl, _, rfl⟩
    · exact (tt b m).1
    · exact ⟨hs, by rw [List.length_map, sizeLine_eq]; omega, us, _, rv, hs⟩
  have env : Env0 P w K mg (hidT s.heap H) callerA [] s H := by
    refine ⟨rfl, md, fun b o e => of_hidT e, Nat.le_of_eq (hidT_size _ _), trivial, fun b hb => ?_, hok, .of_eq hgen⟩
    cases hb
  have tab : ∀ p ∈ cs, GxR.TabB (hidT s.heap H) mg p.1 p.2 := fun p hp => by
    refine ⟨?_, ?_, fun z => ?_⟩
    · obtain ⟨o, vs, r1, r2, r3, r4, r5, r6, r7, e, q1, q2, q3, rest⟩ := tC p hp
      refine ⟨o, vs, r1, r2, r3, r4, r5, r6, r7, hidT_get e (off e (fun z => ?_) fun xs n z => ?_), q1, q2, q3, rest⟩
      · rw [q2] at z
        cases z
        simp at q3
      · rw [q2] at z
        cases z
    · obtain ⟨m, ob, b1, b2, b3, b4, b5, b6⟩ := hmod
      refine ⟨m, ob, b1, b2, fun z => ?_, fun z => ?_, hidT_get b3 (off b3 (by rw [b6]; exact fun z => nomatch z) (by rw [b6]; exact fun _ _ z => nomatch z)), b4, b5, b6⟩
      · obtain ⟨o, es, ep, e, d, _⟩ := hG
        rw [z, e] at b3
        rw [← Option.some.inj b3, d] at b6
        cases b6
      · rw [z, tE p hp] at b3
        rw [← Option.some.inj b3] at b6
        cases b6
    · obtain ⟨o, es, ep, e, d, _⟩ := hG
      rw [z, tE p hp] at e
      rw [← Option.some.inj e] at d
      cases d
  have scr : SqL K H a (ns.map V.int) := by
    cases q : K.lookup a with
    | some o =>
      have e := KX a o q
      rw [hs] at e
      exact .inr ⟨o, us.toArray, _, q, by rw [← Option.some.inj e], by rw [← Option.some.inj e], by rw [← Option.some.inj e], by rw [List.size_toArray, ← rv.length, List.length_map, sizeLine_eq]; omega, by simpa using rv⟩
    | none =>
      refine .inl (.inr ⟨{ cls := .type "list", data := .seq us.toArray }, ?_⟩)
      have na : a ∉ cs.map (·.2) := fun z => by
        have e := (tt a z).1
        rw [hs] at e
        cases congrArg Obj.data (Option.some.inj e)
      rw [← hHe]
      exact (if_neg na).trans (if_pos ⟨rfl, q⟩)
  refine codeAny_mono (run H _ env tab (fun p hp => by rw [← hHe]; exact hpE_tab (into p hp)) scr) fun r s' hr => ?_
  match r, hr with
  | .ok (.ret u), ⟨v, H', os, bare, un, hok', rel, q⟩ =>
    subst q
    have eu : u = Value.bool true := rel
    subst eu
    have same : ∀ b o, b ∉ cs.map (·.2) → s.heap.get? b = some o → s'.heap.get? b = some o := fun b o nb e => by
      cases z : H b with
      | none => exact un.keep b o e z (fun m => nomatch m) (fun m => nomatch m)
      | some u =>
        rcases inv z with ⟨m, _⟩ | ⟨_, _, _, ez⟩
        · exact absurd m nb
        · rw [ez] at z
          have i1 := (hok b _ z).1
          rw [e] at i1
          rw [i1]
          exact (hok' b _ (un.frzs b _ _ z)).1
    have more : ∀ b ∈ cs.map (·.2), ∃ m : Array Value, s'.heap.get? b = some { cls := .none, data := .fields m } := fun b hb => by
      obtain ⟨m, z⟩ := un.tbls b #[] (by rw [← hHe]; exact hpE_tab hb)
      exact ⟨_, hok' b _ z⟩
    refine ⟨rfl, ⟨fun b o e => ?_, fun b o e => ?_⟩, os, bare⟩
    · by_cases hb : b ∈ cs.map (·.2)
      · obtain ⟨p, hp, ep⟩ := List.mem_map.mp hb
        obtain ⟨m, hm⟩ := more b hb
        have e2 := (tt b hb).1
        rw [e] at e2
        have e3 := Option.some.inj e2
        subst e3
        refine .inr (.inl ⟨?_, rfl, #[], m, rfl, by rw [Array.empty_append]; exact hm⟩)
        rw [← ep]
        exact ((tC p hp).tab (tE p hp)).isCodeTable
      · exact .inl (same b o hb e)
    · by_cases hb : b ∈ cs.map (·.2)
      · obtain ⟨m, hm⟩ := more b hb
        exact ⟨_, hm⟩
      · exact ⟨o, same b o hb e⟩
end
end G9

set_option Elab.async false
set_option linter.all false
set_option maxRecDepth 100000
set_option maxHeartbeats 4000000
namespace G9
open PySem PySem.Spec PyProof.Rows L2 GX
section
variable {P : Program} {w : World} {K : PySem.W.Frag} {mg : Str → Option Value} {base : Heap} {f : Addr} {fd : FuncData}
/-- a def's call where all that is around it is known -/
theorem run_at {A : Around} {x qual : Str} {st : Stmt} {N ps : List Str} {sp : Sp} {k : Nat} (F : Fun K x qual st f fd) (S : FnScope N ps (defScope st)) (hr : Room (k + 1) A) {s : Shared} {H : Hp} {as : Args} {us : List Value} {vs : List V} {Q : VK} {E : XK} {outer : List Env}
    (body : ∀ (cdv : Value), Room k (A.deeper (envOfC qual (defScope st) s.heap.objs.size f cdv)) → ∃ t, PSs (cxOf CX0 P w K mg base N qual (defScope st) f cdv A outer s H E).nox (defBody st) t ∧ t { nx := fun _ H' => Q .non H', rt := Q } (start N vs) H)
    (hl : vs.length = ps.length) (env : Env0 P w K mg base A outer s H) (hb : BindsTo s fd as (ps.zip us)) (rv : Vals vs us) : codeAny (model P w) A (.call (.ref f) as) (CR CX0 outer P w H s Q E) s := by
  obtain ⟨oc, od, kV, doc, pm, an, cdv, ct, osl, rfl, lk, hcd⟩ := F.ex
  obtain ⟨t, ht, hq⟩ := body cdv (hr.deeper _)
  have old : ∀ b o, base.get? b = some o → s.heap.get? b = some o := fun b o e => (env.bs b o e).1
  have kin : K.In s.heap := env.mod.kin.keeps old
  have kinds : ∀ y ∈ ps.zip us, (defScope st).names.lookup y.1 = some .local ∨ ((defScope st).names.lookup y.1 = some .cell ∧ ((cellsFrom (s.heap.objs.size + 1) (defScope st).names []).lookup y.1).isSome = true) := fun y hy =>
    (S.par y.1 (List.of_mem_zip hy).1).imp id fun z => ⟨z, PySem.W.cellsFrom_some _ _ _ (.inl z)⟩
  refine codeAny_call_function hr.depth (kin _ _ lk) rfl S.co S.gen rfl (PySem.W.codeRec_of kin hcd) (hb _ _ _ _ (wpAny_newFunctionEnv_cells S.kind kinds fun e he s1 new => ?_))
  subst he
  refine ⟨(env.mod.nolimit.keeps old).keeps new.toInCall.keep, codeAny_func (wpAny_mono (ht.nox.run [] s1 (start N vs) H _ (inv_start S hr.hd env hl rv new) hq) (fun r s' h => ?_) fun _ _ h => h)⟩
  have out : ∀ {σ' : L2.St} {H' : Hp} {v : V} {u : Value}, Inv (cxOf CX0 P w K mg base N qual (defScope st) f cdv A outer s H E) [] σ' H' s' → RelV v u → Q v H' → CE outer P w H s Q u s' := fun J e q => ⟨_, _, J.os, J.bare, J.base, J.hok, e, q⟩
  cases r with
  | ret u =>
    obtain ⟨v, σ', H', J, e, q⟩ := h
    exact out J e q
  | next =>
    obtain ⟨σ', H', J, q⟩ := h
    exact out (v := V.non) (u := Value.none) J rfl q
  | brk =>
    obtain ⟨_, _, _, q⟩ := h
    exact q.elim
  | cont =>
    obtain ⟨_, _, _, q⟩ := h
    exact q.elim
end
end G9

set_option Elab.async false
set_option linter.all false
set_option maxRecDepth 100000
set_option maxHeartbeats 0
namespace G9
open PySem PySem.Spec PyProof.Rows L2 GX
/-! what the head tells -/
def dfn (at_ : Str × Option Str) (name qual : Str) (st : Stmt) : He.DefD := ⟨at_, name, qual, defArgs st, defBody st, defScope st, [], []⟩
def glN : List Str := (["cell_at", "place_of", "row_cells", "column_cells", "_cells_within", "box_lots", "_all_cells", "_gaps", "side_ties", "cells_about", "_row_lots", "_column_lots"] : List Str) ++ (["_same_domains", "squares", "boxed", "signed", "summed", "painted", "mined", "roaded", "_law_open_cells", "_law_pick", "_law_any_order", "_law_lines"] : List Str) ++ (["_law_near", "_law_ties", "_law_draw_grid", "_law_places_right", "_law_boxes", "_law_unlike", "law"] : List Str)
def frN : List Str := (["len", "all", "any", "enumerate", "tuple", "list", "set", "sum", "max", "min", "sorted", "range"] : List Str) ++ (["zip", "int", "abs", "repr", "isinstance", "dict", "bool", "divmod"] : List Str)
def fa : List He.Fa := glN.map .glo ++ frN.map .free
def fn : List He.DefD := ([dfn ("cell_at", none) "cell_at" "cell_at" sCellAt, dfn ("place_of", none) "place_of" "place_of" sPlaceOf, dfn ("row_cells", none) "row_cells" "row_cells" sRowCells, dfn ("column_cells", none) "column_cells" "column_cells" sColumnCells, dfn ("_cells_within", none) "_cells_within" "_cells_within" sCellsWithin, dfn ("box_lots", none) "box_lots" "box_lots" sBoxLots, dfn ("_all_cells", none) "_all_cells" "_all_cells" sAllCells, dfn ("_gaps", none) "_gaps" "_gaps" sGaps, dfn ("side_ties", none) "side_ties" "side_ties" sSideTies, dfn ("cells_about", none) "cells_about" "cells_about" sCellsAbout, dfn ("_row_lots", none) "_row_lots" "_row_lots" sRowLots, dfn ("_column_lots", none) "_column_lots" "_column_lots" sColumnLots] : List He.DefD) ++ ([dfn ("_same_domains", none) "_same_domains" "_same_domains" sSameDomains, dfn ("squares", none) "squares" "squares" sSquares, dfn ("boxed", none) "boxed" "boxed" sBoxed, dfn ("signed", none) "signed" "signed" sSigned, dfn ("summed", none) "summed" "summed" sSummed, dfn ("painted", none) "painted" "painted" sPainted, dfn ("mined", none) "mined" "mined" sMined, dfn ("roaded", none) "roaded" "roaded" sRoaded, dfn ("_law_open_cells", none) "_law_open_cells" "_law_open_cells" sOpen, dfn ("_law_pick", none) "_law_pick" "_law_pick" sPick, dfn ("_law_any_order", none) "_law_any_order" "_law_any_order" sOrder, dfn ("_law_lines", none) "_law_lines" "_law_lines" sLLines] : List He.DefD) ++ ([dfn ("_law_near", none) "_law_near" "_law_near" sLNear, dfn ("_law_ties", none) "_law_ties" "_law_ties" sLTies, dfn ("_law_draw_grid", none) "_law_draw_grid" "_law_draw_grid" sLDrawGrid, dfn ("_law_places_right", none) "_law_places_right" "_law_places_right" sLPlacesRight, dfn ("_law_boxes", none) "_law_boxes" "_law_boxes" sLBoxes, dfn ("_law_unlike", none) "_law_unlike" "_law_unlike" sLUnlike, dfn ("law", none) "law" "law" sLaw] : List He.DefD)
def tf : List He.Defn := []
def exK2 (K : PySem.W.Frag) : Bool := true
def loN : List Str := (["cell_at", "place_of", "row_cells", "column_cells", "_cells_within", "box_lots", "_all_cells", "_gaps", "side_ties", "cells_about", "_row_lots", "_column_lots"] : List Str) ++ (["_same_domains", "squares", "boxed", "signed", "summed", "painted", "mined", "roaded", "_law_open_cells", "_law_pick", "_law_any_order", "_law_lines"] : List Str) ++ (["_law_near", "_law_ties", "_law_draw_grid", "_law_places_right", "_law_boxes", "_law_unlike"] : List Str)
abbrev R : PySem.W.OpenRow := PySem.W.OpenLaw.row PySem.Challenge.rw_toldreasons_k21_puzzles_built
abbrev hk : PySem.W.Hook := He.hookX 5 fa fn [] tf exK2
def ob (s : PySem.W.SharedT) : He.AlX := He.obsX 5 fa fn [] tf exK2 (HandSHeadRun.getT s)
theorem ob_eq (s : PySem.W.SharedT) : ob s = hk.obs s.abs := He.obsX_eq (HandSHeadRun.getT_eq s)
theorem run (w : World) : HandSHeadRun.RunEq R (PySem.W.view R.prog [32]) hk ob 5000 loN w := by
  intro os
  kernel_rfl
end G9

set_option Elab.async false
set_option linter.all false
set_option maxRecDepth 100000
set_option maxHeartbeats 8000000
namespace G9
open PySem PySem.Spec PyProof.Rows L2 GX
/-- a def with its code object -/
theorem funC_of {K : PySem.W.Frag} {x qual : Str} {st : Stmt} {p : Str × Option Str} (h : ∃ fd, FunD K x qual (defArgs st) (defBody st) (defScope st) [] [] (He.fAd K p) fd) : ∃ fd, FunC K x qual st (He.fAd K p) (He.codeOf K p) fd := by
  obtain ⟨fd, F⟩ := h
  obtain ⟨oc, od, dV, kV, doc, pm, an, cdv, ct, osl, rfl, lk, hcd, hd, _⟩ := F.ex
  obtain ⟨c, rfl⟩ := He.codeIn_ref hcd
  rcases hd with ⟨_, rfl⟩ | ⟨z, _⟩
  · rw [He.codeOf_eq lk rfl]
    exact ⟨_, funC_mk lk hcd F.kp⟩
  · exact absurd rfl z
theorem funC_at {K : PySem.W.Frag} (D : He.SaysD fa fn K) (i : Nat) {p : Str × Option Str} {x qual : Str} {st : Stmt} (h : fn[i]? = some (dfn p x qual st)) : ∃ fd, FunC K x qual st (He.fAd K p) (He.codeOf K p) fd := funC_of (x := x) (qual := qual) (st := st) (p := p) (D.def_ i h)
theorem bind1 {K : PySem.W.Frag} {x qual : Str} {st : Stmt} {f : Addr} {fd : FuncData} {ps : List Str} (F : Fun K x qual st f fd)
    (h : ∀ (kV doc pm : Value) (an : Option Addr) (cdv ct : Value) (us : List Value), us.length = ps.length → bindArgs (PySem.W.fnOf x qual (defArgs st) (defBody st) (defScope st) .none kV doc pm an cdv ct) ⟨us, []⟩ = pure (ps.zip us)) : Binds K fd ps [] := F.binds h
theorem tabG_mk {H : Hp} {P : Addr} (h : H P = some (.tbl #[])) : GxR.TabG H P := ⟨#[], h, trivial⟩
theorem at_head {w : World} {K : PySem.W.Frag} {h : Heap} {mg : Str → Option Value} {f : Addr} (X : K.In h) (G : h.Ns mainGlobals mg) (hf : mg "law" = some (.ref f)) (c : He.SaysX fa fn [] tf exK2 w h K) :
    ∃ fd : FuncData, Fun K "law" "law" sLaw f fd ∧ Binds K fd ["_law_script"] [] ∧
      ∀ {P : Program} {base : Heap} (cdv : Value) (A : Around) (outer : List Env) (s : Shared) (H : Hp) (vs : List V) (Q : VK) (E : XK), Room 5 (A.deeper (envOfC "law" (defScope sLaw) s.heap.objs.size f cdv)) → spLaw K vs H Q E →
        ∃ t, PSs (cxOf CX0 P w K mg base nmLaw "law" (defScope sLaw) f cdv A outer s H E).nox (defBody sLaw) t ∧ t { nx := fun _ H' => Q .non H', rt := Q } (start nmLaw vs) H := by
  have D := c.t.d
  have gl : ∀ (i : Nat) {x : Str}, fa[i]? = some (.glo x) → mg x = some (.ref (He.ga K x)) := fun i x q => He.glo_ok X G (D.fact i q)
  have fr : ∀ (i : Nat) {x : Str}, fa[i]? = some (.free x) → mg x = none := fun i x q => He.free_ok X G (D.fact i q)
  obtain ⟨d_sCellAt, F_sCellAt⟩ := funC_at D 0 rfl
  obtain ⟨d_sPlaceOf, F_sPlaceOf⟩ := funC_at D 1 rfl
  obtain ⟨d_sRowCells, F_sRowCells⟩ := funC_at D 2 rfl
  obtain ⟨d_sColumnCells, F_sColumnCells⟩ := funC_at D 3 rfl
  obtain ⟨d_sCellsWithin, F_sCellsWithin⟩ := funC_at D 4 rfl
  obtain ⟨d_sBoxLots, F_sBoxLots⟩ := funC_at D 5 rfl
  obtain ⟨d_sAllCells, F_sAllCells⟩ := funC_at D 6 rfl
  obtain ⟨d_sGaps, F_sGaps⟩ := funC_at D 7 rfl
  obtain ⟨d_sSideTies, F_sSideTies⟩ := funC_at D 8 rfl
  obtain ⟨d_sCellsAbout, F_sCellsAbout⟩ := funC_at D 9 rfl
  obtain ⟨d_sRowLots, F_sRowLots⟩ := funC_at D 10 rfl
  obtain ⟨d_sColumnLots, F_sColumnLots⟩ := funC_at D 11 rfl
  obtain ⟨d_sSameDomains, F_sSameDomains⟩ := funC_at D 12 rfl
  obtain ⟨d_sSquares, F_sSquares⟩ := funC_at D 13 rfl
  obtain ⟨d_sBoxed, F_sBoxed⟩ := funC_at D 14 rfl
  obtain ⟨d_sSigned, F_sSigned⟩ := funC_at D 15 rfl
  obtain ⟨d_sSummed, F_sSummed⟩ := funC_at D 16 rfl
  obtain ⟨d_sPainted, F_sPainted⟩ := funC_at D 17 rfl
  obtain ⟨d_sMined, F_sMined⟩ := funC_at D 18 rfl
  obtain ⟨d_sRoaded, F_sRoaded⟩ := funC_at D 19 rfl
  obtain ⟨d_sOpen, F_sOpen⟩ := funC_at D 20 rfl
  obtain ⟨d_sPick, F_sPick⟩ := funC_at D 21 rfl
  obtain ⟨d_sOrder, F_sOrder⟩ := funC_at D 22 rfl
  obtain ⟨d_sLLines, F_sLLines⟩ := funC_at D 23 rfl
  obtain ⟨d_sLNear, F_sLNear⟩ := funC_at D 24 rfl
  obtain ⟨d_sLTies, F_sLTies⟩ := funC_at D 25 rfl
  obtain ⟨d_sLDrawGrid, F_sLDrawGrid⟩ := funC_at D 26 rfl
  obtain ⟨d_sLPlacesRight, F_sLPlacesRight⟩ := funC_at D 27 rfl
  obtain ⟨d_sLBoxes, F_sLBoxes⟩ := funC_at D 28 rfl
  obtain ⟨d_sLUnlike, F_sLUnlike⟩ := funC_at D 29 rfl
  obtain ⟨d_sLaw, F_sLaw⟩ := funC_at D 30 rfl
  have ef : f = He.ga K "law" := by
    have z := hf.symm.trans (gl 30 rfl)
    cases z
    rfl
  subst ef
  have B : Bl mg := ⟨fr 31 rfl, fr 32 rfl, fr 33 rfl, fr 34 rfl, fr 35 rfl, fr 36 rfl, fr 37 rfl, fr 38 rfl, fr 39 rfl, fr 40 rfl, fr 41 rfl, fr 42 rfl, fr 43 rfl, fr 44 rfl, fr 45 rfl, fr 46 rfl, fr 47 rfl, fr 48 rfl, fr 49 rfl⟩
  have D_sCellAt : Df K mg "cell_at" sCellAt ["grid", "r", "c"] (He.ga K "cell_at") d_sCellAt := ⟨F_sCellAt.fun, bind1 F_sCellAt.fun fun _ _ _ _ _ _ us hl => match us, hl with | [_, _, _], _ => rfl, gl 0 rfl⟩
  have D_sPlaceOf : Df K mg "place_of" sPlaceOf ["grid", "cell"] (He.ga K "place_of") d_sPlaceOf := ⟨F_sPlaceOf.fun, bind1 F_sPlaceOf.fun fun _ _ _ _ _ _ us hl => match us, hl with | [_, _], _ => rfl, gl 1 rfl⟩
  have D_sRowCells : Df K mg "row_cells" sRowCells ["grid", "r"] (He.ga K "row_cells") d_sRowCells := ⟨F_sRowCells.fun, bind1 F_sRowCells.fun fun _ _ _ _ _ _ us hl => match us, hl with | [_, _], _ => rfl, gl 2 rfl⟩
  have D_sColumnCells : Df K mg "column_cells" sColumnCells ["grid", "c"] (He.ga K "column_cells") d_sColumnCells := ⟨F_sColumnCells.fun, bind1 F_sColumnCells.fun fun _ _ _ _ _ _ us hl => match us, hl with | [_, _], _ => rfl, gl 3 rfl⟩
  have D_sCellsWithin : Df K mg "_cells_within" sCellsWithin ["grid", "rows", "columns"] (He.ga K "_cells_within") d_sCellsWithin := ⟨F_sCellsWithin.fun, bind1 F_sCellsWithin.fun fun _ _ _ _ _ _ us hl => match us, hl with | [_, _, _], _ => rfl, gl 4 rfl⟩
  have D_sBoxLots : Df K mg "box_lots" sBoxLots ["grid", "tall", "wide"] (He.ga K "box_lots") d_sBoxLots := ⟨F_sBoxLots.fun, bind1 F_sBoxLots.fun fun _ _ _ _ _ _ us hl => match us, hl with | [_, _, _], _ => rfl, gl 5 rfl⟩
  have D_sAllCells : Df K mg "_all_cells" sAllCells ["grid"] (He.ga K "_all_cells") d_sAllCells := ⟨F_sAllCells.fun, bind1 F_sAllCells.fun fun _ _ _ _ _ _ us hl => match us, hl with | [_], _ => rfl, gl 6 rfl⟩
  have D_sGaps : Df K mg "_gaps" sGaps ["grid", "one", "other"] (He.ga K "_gaps") d_sGaps := ⟨F_sGaps.fun, bind1 F_sGaps.fun fun _ _ _ _ _ _ us hl => match us, hl with | [_, _, _], _ => rfl, gl 7 rfl⟩
  have D_sSideTies : Df K mg "side_ties" sSideTies ["grid"] (He.ga K "side_ties") d_sSideTies := ⟨F_sSideTies.fun, bind1 F_sSideTies.fun fun _ _ _ _ _ _ us hl => match us, hl with | [_], _ => rfl, gl 8 rfl⟩
  have D_sCellsAbout : Df K mg "cells_about" sCellsAbout ["grid", "cell"] (He.ga K "cells_about") d_sCellsAbout := ⟨F_sCellsAbout.fun, bind1 F_sCellsAbout.fun fun _ _ _ _ _ _ us hl => match us, hl with | [_, _], _ => rfl, gl 9 rfl⟩
  have D_sRowLots : Df K mg "_row_lots" sRowLots ["grid"] (He.ga K "_row_lots") d_sRowLots := ⟨F_sRowLots.fun, bind1 F_sRowLots.fun fun _ _ _ _ _ _ us hl => match us, hl with | [_], _ => rfl, gl 10 rfl⟩
  have D_sColumnLots : Df K mg "_column_lots" sColumnLots ["grid"] (He.ga K "_column_lots") d_sColumnLots := ⟨F_sColumnLots.fun, bind1 F_sColumnLots.fun fun _ _ _ _ _ _ us hl => match us, hl with | [_], _ => rfl, gl 11 rfl⟩
  have D_sSameDomains : Df K mg "_same_domains" sSameDomains ["grid", "low", "high"] (He.ga K "_same_domains") d_sSameDomains := ⟨F_sSameDomains.fun, bind1 F_sSameDomains.fun fun _ _ _ _ _ _ us hl => match us, hl with | [_, _, _], _ => rfl, gl 12 rfl⟩
  have D_sSquares : Df K mg "squares" sSquares ["size"] (He.ga K "squares") d_sSquares := ⟨F_sSquares.fun, bind1 F_sSquares.fun fun _ _ _ _ _ _ us hl => match us, hl with | [_], _ => rfl, gl 13 rfl⟩
  have D_sBoxed : Df K mg "boxed" sBoxed ["tall", "wide"] (He.ga K "boxed") d_sBoxed := ⟨F_sBoxed.fun, bind1 F_sBoxed.fun fun _ _ _ _ _ _ us hl => match us, hl with | [_, _], _ => rfl, gl 14 rfl⟩
  have D_sSigned : Df K mg "signed" sSigned ["size", "pairs"] (He.ga K "signed") d_sSigned := ⟨F_sSigned.fun, bind1 F_sSigned.fun fun _ _ _ _ _ _ us hl => match us, hl with | [_, _], _ => rfl, gl 15 rfl⟩
  have D_sSummed : Df K mg "summed" sSummed ["grid", "most", "lots"] (He.ga K "summed") d_sSummed := ⟨F_sSummed.fun, bind1 F_sSummed.fun fun _ _ _ _ _ _ us hl => match us, hl with | [_, _, _], _ => rfl, gl 16 rfl⟩
  have D_sPainted : Df K mg "painted" sPainted ["grid", "rows", "columns"] (He.ga K "painted") d_sPainted := ⟨F_sPainted.fun, bind1 F_sPainted.fun fun _ _ _ _ _ _ us hl => match us, hl with | [_, _, _], _ => rfl, gl 17 rfl⟩
  have D_sMined : Df K mg "mined" sMined ["grid", "told"] (He.ga K "mined") d_sMined := ⟨F_sMined.fun, bind1 F_sMined.fun fun _ _ _ _ _ _ us hl => match us, hl with | [_, _], _ => rfl, gl 18 rfl⟩
  have D_sRoaded : Df K mg "roaded" sRoaded ["grid", "rows", "columns"] (He.ga K "roaded") d_sRoaded := ⟨F_sRoaded.fun, bind1 F_sRoaded.fun fun _ _ _ _ _ _ us hl => match us, hl with | [_, _, _], _ => rfl, gl 19 rfl⟩
  have D_sOpen : Df K mg "_law_open_cells" sOpen ["_law_script"] (He.ga K "_law_open_cells") d_sOpen := ⟨F_sOpen.fun, bind1 F_sOpen.fun fun _ _ _ _ _ _ us hl => match us, hl with | [_], _ => rfl, gl 20 rfl⟩
  have D_sPick : Df K mg "_law_pick" sPick ["_law_source", "_law_most"] (He.ga K "_law_pick") d_sPick := ⟨F_sPick.fun, bind1 F_sPick.fun fun _ _ _ _ _ _ us hl => match us, hl with | [_, _], _ => rfl, gl 21 rfl⟩
  have D_sOrder : Df K mg "_law_any_order" sOrder ["_law_source", "_law_things"] (He.ga K "_law_any_order") d_sOrder := ⟨F_sOrder.fun, bind1 F_sOrder.fun fun _ _ _ _ _ _ us hl => match us, hl with | [_, _], _ => rfl, gl 22 rfl⟩
  have D_sLLines : Df K mg "_law_lines" sLLines ["_law_grid"] (He.ga K "_law_lines") d_sLLines := ⟨F_sLLines.fun, bind1 F_sLLines.fun fun _ _ _ _ _ _ us hl => match us, hl with | [_], _ => rfl, gl 23 rfl⟩
  have D_sLNear : Df K mg "_law_near" sLNear ["_law_grid", "_law_cell", "_law_is_corner"] (He.ga K "_law_near") d_sLNear := ⟨F_sLNear.fun, bind1 F_sLNear.fun fun _ _ _ _ _ _ us hl => match us, hl with | [_, _, _], _ => rfl, gl 24 rfl⟩
  have D_sLTies : Df K mg "_law_ties" sLTies ["_law_grid"] (He.ga K "_law_ties") d_sLTies := ⟨F_sLTies.fun, bind1 F_sLTies.fun fun _ _ _ _ _ _ us hl => match us, hl with | [_], _ => rfl, gl 25 rfl⟩
  have D_sLDrawGrid : Df K mg "_law_draw_grid" sLDrawGrid ["_law_source", "_law_most"] (He.ga K "_law_draw_grid") d_sLDrawGrid := ⟨F_sLDrawGrid.fun, bind1 F_sLDrawGrid.fun fun _ _ _ _ _ _ us hl => match us, hl with | [_, _], _ => rfl, gl 26 rfl⟩
  have D_sLPlacesRight : Df K mg "_law_places_right" sLPlacesRight ["_law_grid"] (He.ga K "_law_places_right") d_sLPlacesRight := ⟨F_sLPlacesRight.fun, bind1 F_sLPlacesRight.fun fun _ _ _ _ _ _ us hl => match us, hl with | [_], _ => rfl, gl 27 rfl⟩
  have D_sLBoxes : Df K mg "_law_boxes" sLBoxes ["_law_grid", "_law_tall", "_law_wide"] (He.ga K "_law_boxes") d_sLBoxes := ⟨F_sLBoxes.fun, bind1 F_sLBoxes.fun fun _ _ _ _ _ _ us hl => match us, hl with | [_, _, _], _ => rfl, gl 28 rfl⟩
  have D_sLUnlike : Df K mg "_law_unlike" sLUnlike ["_law_lots"] (He.ga K "_law_unlike") d_sLUnlike := ⟨F_sLUnlike.fun, bind1 F_sLUnlike.fun fun _ _ _ _ _ _ us hl => match us, hl with | [_], _ => rfl, gl 29 rfl⟩
  have TO : TxtO K mg (He.ga K "_law_open_cells") (He.ga K "_law_pick") d_sOpen d_sPick :=
    { FOpen := D_sOpen.F, bOpen := D_sOpen.b, gOpen := D_sOpen.g, FPick := D_sPick.F, bPick := D_sPick.b, gPick := D_sPick.g, abs := B.abs, int := B.int, len := B.len }
  refine ⟨d_sLaw, F_sLaw.fun, bind1 F_sLaw.fun fun _ _ _ _ _ _ us hl => match us, hl with | [_], _ => rfl, fun {P base} cdv A outer s H vs Q E hr hs => ?_⟩
  have g_sOpen := ok_open (P := P) (w := w) (base := base) TO
  have g_sPick := ok_pick (P := P) (w := w) (base := base) TO
  have g_sCellAt := ok_cellAt (P := P) (w := w) (base := base) D_sCellAt
  have g_sPlaceOf := ok_placeOf (P := P) (w := w) (base := base) D_sPlaceOf (fr 50 rfl)
  have g_sRowCells := ok_rowCells (P := P) (w := w) (base := base) B D_sRowCells D_sCellAt g_sCellAt
  have g_sColumnCells := ok_colCells (P := P) (w := w) (base := base) B D_sColumnCells D_sCellAt g_sCellAt
  have g_sCellsWithin := ok_within (P := P) (w := w) (base := base) B D_sCellsWithin D_sCellAt g_sCellAt
  have g_sBoxLots := ok_boxLots (P := P) (w := w) (base := base) B D_sBoxLots D_sCellsWithin g_sCellsWithin
  have g_sAllCells := ok_allCells (P := P) (w := w) (base := base) B D_sAllCells
  have g_sGaps := ok_gaps (P := P) (w := w) (base := base) D_sGaps (fr 45 rfl) D_sPlaceOf g_sPlaceOf
  have g_sSideTies := ok_sideTies (P := P) (w := w) (base := base) B D_sSideTies D_sAllCells g_sAllCells D_sGaps g_sGaps
  have g_sCellsAbout := ok_about (P := P) (w := w) (base := base) B D_sCellsAbout D_sAllCells g_sAllCells D_sGaps g_sGaps
  have g_sRowLots := ok_rowLots (P := P) (w := w) (base := base) B D_sRowLots D_sRowCells g_sRowCells
  have g_sColumnLots := ok_colLots (P := P) (w := w) (base := base) B D_sColumnLots D_sColumnCells g_sColumnCells
  have g_sSameDomains := ok_doms (P := P) (w := w) (base := base) B D_sSameDomains D_sAllCells g_sAllCells
  have g_sSquares := ok_squares (P := P) (w := w) (base := base) B D_sSquares D_sRowLots g_sRowLots D_sColumnLots g_sColumnLots D_sSameDomains g_sSameDomains
  have g_sBoxed := ok_boxed (P := P) (w := w) (base := base) B D_sBoxed D_sSquares g_sSquares D_sBoxLots g_sBoxLots
  have g_sSigned := ok_signed (P := P) (w := w) (base := base) B D_sSigned D_sSquares g_sSquares
  have g_sSummed := ok_summed (P := P) (w := w) (base := base) B D_sSummed D_sSameDomains g_sSameDomains
  have g_sPainted := ok_painted (P := P) (w := w) (base := base) B D_sPainted D_sRowLots g_sRowLots D_sColumnLots g_sColumnLots D_sSameDomains g_sSameDomains
  have g_sMined := ok_mined (P := P) (w := w) (base := base) B D_sMined D_sAllCells g_sAllCells D_sCellsAbout g_sCellsAbout
  have g_sRoaded := ok_roaded (P := P) (w := w) (base := base) B D_sRoaded D_sRowLots g_sRowLots D_sColumnLots g_sColumnLots D_sSameDomains g_sSameDomains D_sAllCells g_sAllCells D_sSideTies g_sSideTies
  have g_sOrder := ok_order (P := P) (w := w) (base := base) B D_sOrder D_sPick g_sPick
  have g_sLLines := ok_lines (P := P) (w := w) (base := base) B D_sLLines
  have g_sLNear := ok_near (P := P) (w := w) (base := base) B D_sLNear
  have g_sLTies := ok_lties (P := P) (w := w) (base := base) B D_sLTies D_sLNear g_sLNear
  have g_sLDrawGrid := ok_drawGrid (P := P) (w := w) (base := base) B D_sLDrawGrid D_sPick g_sPick
  have g_sLPlacesRight := ok_right (P := P) (w := w) (base := base) B D_sLPlacesRight D_sLLines g_sLLines D_sRowCells g_sRowCells D_sColumnCells g_sColumnCells D_sCellAt g_sCellAt D_sPlaceOf g_sPlaceOf D_sCellsAbout g_sCellsAbout D_sLNear g_sLNear D_sSideTies g_sSideTies D_sLTies g_sLTies
  have g_sLBoxes := ok_lboxes (P := P) (w := w) (base := base) B D_sLBoxes
  have g_sLUnlike := ok_unlike (P := P) (w := w) (base := base) B D_sLUnlike
  exact law_body B ⟨D_sOpen, g_sOpen⟩ ⟨D_sPick, g_sPick⟩ ⟨D_sOrder, g_sOrder⟩ ⟨D_sLLines, g_sLLines⟩ ⟨D_sLNear, g_sLNear⟩ ⟨D_sLTies, g_sLTies⟩ ⟨D_sLDrawGrid, g_sLDrawGrid⟩ ⟨D_sLPlacesRight, g_sLPlacesRight⟩ ⟨D_sLBoxes, g_sLBoxes⟩ ⟨D_sLUnlike, g_sLUnlike⟩ ⟨D_sBoxLots, g_sBoxLots⟩ ⟨D_sSquares, g_sSquares⟩ ⟨D_sBoxed, g_sBoxed⟩ ⟨D_sSigned, g_sSigned⟩ ⟨D_sSummed, g_sSummed⟩ ⟨D_sPainted, g_sPainted⟩ ⟨D_sMined, g_sMined⟩ ⟨D_sRoaded, g_sRoaded⟩ hr hs
end G9
open PySem PySem.W PySem.Calls PyProof.Rows
set_option maxHeartbeats 0 in
theorem PySem.Challenge.cw_toldreasons_k21_puzzles_built_holds : PySem.Challenge.rw_toldreasons_k21_puzzles_built.Holds := by
  w_on; o_law
  refine HandSHeadRun.head_any (r := OpenLaw.row PySem.Challenge.rw_toldreasons_k21_puzzles_built) (q := view (OpenLaw.row PySem.Challenge.rw_toldreasons_k21_puzzles_built).prog [32]) (H := G9.hk) (ob := G9.ob) (M := 5000) (loose := G9.loN) (d := HandSHeadRun.topDef (OpenLaw.row PySem.Challenge.rw_toldreasons_k21_puzzles_built).prog 32) (kwd := []) G9.ob_eq
    (by kernel_rfl) (fun s => by kernel_rfl) G9.run (by kernel_rfl) (by kernel_rfl) (by kernel_rfl) (by rfl) (by first | assumption | decide +kernel) (by decide +kernel) ⟨rfl, rfl, rfl, rfl, rfl, by decide +kernel⟩ ?hw ?hc
  case hw => w_witness2
  case hc =>
    refine Att.attach_callB (l := PySem.Challenge.rw_toldreasons_k21_puzzles_built) (n := 63) rfl (by kernel_rfl) fun w s₀ s₁ mg mb fa o pm cd doc a vs ns GG Y ho hd hcd hmg hobj hints hlen hbits hg => ?_
    obtain ⟨K, KX, c⟩ := Y
    have hmg2 : mg ("law" : PySem.Str) = some (.ref fa) := by
      have e : (HandSHeadRun.topDef (OpenLaw.row PySem.Challenge.rw_toldreasons_k21_puzzles_built).prog 32).name = ("law" : PySem.Str) := by kernel_rfl
      rw [← e]
      exact hmg
    obtain ⟨fd, FL, bL, body⟩ := G9.at_head KX GG.T.g hmg2 c
    refine G9.call_end (cs := G9.tf.map (He.cT K)) KX GG.T.g GG.T.b GG.T.builtins GG.T.nolimit hg (fun p hp => ?_) (fun p hp => ?_) (fun p hp => ?_) GG.T.bmain hobj hints hlen (fun H base env tb tE scr => ?_)
    · obtain ⟨q, hq, rfl⟩ := List.mem_map.mp hp
      exact c.empty q hq
    · obtain ⟨q, hq, rfl⟩ := List.mem_map.mp hp
      exact c.out q hq
    · obtain ⟨q, hq, rfl⟩ := List.mem_map.mp hp
      exact PySem.W.codeHd_of_K KX (c.hd q hq)
    · refine G9.run_at (k := 5) (ps := ["_law_script"]) (N := G9.nmLaw) (us := [.ref a]) (vs := [.ref a]) (sp := G9.spLaw K) FL G9.scLaw ⟨rfl, by decide, by decide⟩ (fun cdv hr => body cdv callerA [] s₁ H [.ref a] (fun v _ => v = .bl true) L2.E0 hr ⟨a, ns, rfl, scr, hlen, fun _ => rfl⟩) rfl env (bL _ _ ?_ rfl) (.cons rfl .nil)
      exact KX

