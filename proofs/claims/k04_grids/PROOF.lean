import PyProof.Rows.All
import Wide.All
import OpenK.AllK
import Wide.FinOn
import HandS.ForMost
import HandS.ForExc
import HandS.ExcInit
import HandS.ExcField
import HandS.IsInst
import HandS.StrMore
import HandS.Style
import HandS.Conv
import KE.IntTextLaws
import HandS.Walk
import HandS.AnyAll
import HandS.JoinGen
import KE.KDictPairs
import HandS.RaiseMore
import HandS.ExcIs
import KE.KExcIs
import PyProof.StrLawsIn
import HandS.TryOnly
import HandS.EndBits
import HandS.EndTab
import HandS.Head0
import HandS.Head1
import HandS.Head2
import HandS.HeadHook1
import HandS.HeadHook2
import HandS.HeadHook3
import HandS.HeadHook4
import Lean
import PySem.Challenge.RW_toldreasons_k04_grids
set_option Elab.async false
set_option linter.all false
set_option maxRecDepth 100000
set_option maxHeartbeats 2000000
namespace G4
open PySem PySem.Spec PyProof.Rows L2
def top (i : Nat) : Stmt := PySem.Challenge.pw_toldreasons_k04_grids.main.body.getD i (.Pass ⟨0, 0, 0, 0⟩)
abbrev sCopied : Stmt := top 1
abbrev sBadInit : Stmt := inClass (top 3) 0
abbrev sRInit : Stmt := inClass (top 5) 0
abbrev sEnds : Stmt := inClass (top 5) 1
abbrev sSees : Stmt := inClass (top 5) 2
abbrev sDigit : Stmt := inClass (top 5) 3
abbrev sTake : Stmt := inClass (top 5) 4
abbrev sNumber : Stmt := inClass (top 5) 5
abbrev sShut : Stmt := inClass (top 5) 6
abbrev sGridText : Stmt := top 6
abbrev sPlace : Stmt := top 7
abbrev sRow : Stmt := top 8
abbrev sRead : Stmt := top 9
abbrev sOpen : Stmt := top 11
abbrev sPick : Stmt := top 12
abbrev sTold : Stmt := top 13
abbrev sLines : Stmt := top 14
abbrev sWalk : Stmt := top 15
abbrev sLaw : Stmt := top 16
theorem scCopied : FnScope ["value"] ["value"] (defScope sCopied) := ⟨rfl, rfl, rfl, by decide +kernel, rfl, by decide +kernel, by decide +kernel⟩
theorem scBadInit : FnScope ["self", "place"] ["self", "place"] (defScope sBadInit) := ⟨rfl, rfl, rfl, by decide +kernel, rfl, by decide +kernel, by decide +kernel⟩
theorem scRInit : FnScope ["self", "text"] ["self", "text"] (defScope sRInit) := ⟨rfl, rfl, rfl, by decide +kernel, rfl, by decide +kernel, by decide +kernel⟩
theorem scEnds : FnScope ["self"] ["self"] (defScope sEnds) := ⟨rfl, rfl, rfl, by decide +kernel, rfl, by decide +kernel, by decide +kernel⟩
theorem scSees : FnScope ["self", "sign"] ["self", "sign"] (defScope sSees) := ⟨rfl, rfl, rfl, by decide +kernel, rfl, by decide +kernel, by decide +kernel⟩
theorem scDigit : FnScope ["self"] ["self"] (defScope sDigit) := ⟨rfl, rfl, rfl, by decide +kernel, rfl, by decide +kernel, by decide +kernel⟩
theorem scTake : FnScope ["self", "words", "start", "read", "longer"] ["self", "words"] (defScope sTake) := ⟨rfl, rfl, rfl, by decide +kernel, rfl, by decide +kernel, by decide +kernel⟩
theorem scNumber : FnScope ["self", "start", "most"] ["self"] (defScope sNumber) := ⟨rfl, rfl, rfl, by decide +kernel, rfl, by decide +kernel, by decide +kernel⟩
theorem scShut : FnScope ["self"] ["self"] (defScope sShut) := ⟨rfl, rfl, rfl, by decide +kernel, rfl, by decide +kernel, by decide +kernel⟩
theorem scGridText : FnScope ["n", "width", "f", "given", "signs"] ["n", "width", "f"] (defScope sGridText) := ⟨rfl, rfl, rfl, by decide +kernel, rfl, by decide +kernel, by decide +kernel⟩
theorem scPlace : FnScope ["reader"] ["reader"] (defScope sPlace) := ⟨rfl, rfl, rfl, by decide +kernel, rfl, by decide +kernel, by decide +kernel⟩
theorem scRow : FnScope ["reader", "most", "row"] ["reader", "most"] (defScope sRow) := ⟨rfl, rfl, rfl, by decide +kernel, rfl, by decide +kernel, by decide +kernel⟩
theorem scRead : FnScope ["text", "reader", "row", "width", "found"] ["text"] (defScope sRead) := ⟨rfl, rfl, rfl, by decide +kernel, rfl, by decide +kernel, by decide +kernel⟩
theorem scOpen : FnScope ["_law_script", "_law_stirred", "_law_cell", "_law_cells"] ["_law_script"] (defScope sOpen) := ⟨rfl, rfl, rfl, by decide +kernel, rfl, by decide +kernel, by decide +kernel⟩
theorem scPick : FnScope ["_law_source", "_law_most", "_law_cells", "_law_others", "_law_lap", "_law_stirred"] ["_law_source", "_law_most"] (defScope sPick) := ⟨rfl, rfl, rfl, by decide +kernel, rfl, by decide +kernel, by decide +kernel⟩
theorem scTold : FnScope ["_law_text", "e"] ["_law_text"] (defScope sTold) := ⟨rfl, rfl, rfl, by decide +kernel, rfl, by decide +kernel, by decide +kernel⟩
theorem scLines : FnScope ["_law_n", "_law_width", "_law_f", "_law_known", "_law_lines", "_law_first", "_law_some"] ["_law_n", "_law_width", "_law_f"] (defScope sLines) := ⟨rfl, rfl, rfl, by decide +kernel, rfl, by decide +kernel, by decide +kernel⟩
theorem scWalk : FnScope ["_law_text", "_law_width", "_law_here", "_law_signs", "_law_word", "_law_place", "_law_sign", "_law_is_end"] ["_law_text"] (defScope sWalk) := ⟨rfl, rfl, rfl, by decide +kernel, rfl, by decide +kernel, by decide +kernel⟩
theorem scLaw : FnScope ["_law_script", "_law_source", "_law_lap", "_law_n", "_law_width", "_law_f", "_law_cell", "_law_text", "_law_turn", "_law_k", "_law_sign", "_law_some", "_law_near", "_law_place", "_law_due", "_law_rows"] ["_law_script"] (defScope sLaw) := ⟨rfl, rfl, rfl, by decide +kernel, rfl, by decide +kernel, by decide +kernel⟩
end G4

set_option Elab.async false
set_option linter.all false
set_option maxRecDepth 100000
set_option maxHeartbeats 2000000
namespace G4
open PySem PySem.Spec PyProof.Rows L2
theorem kTP : ¬ (("text" : Str) = "place") := by decide +kernel
def flds (t : Str) (p : Nat) : List (Str × V) := putF "place" (.int p) (putF "text" (.str t) [])
theorem flds_eq (t : Str) (p : Nat) : flds t p = ([("text", V.str t), ("place", V.int p)] : List (Str × V)) := by
  show (if ("text" : Str) = "place" then [(("text" : Str), V.int p)] else (("text" : Str), V.str t) :: putF "place" (V.int p) []) = _
  rw [if_neg kTP]
  all_goals rfl
theorem flds_text (t : Str) (p : Nat) : (flds t p).lookup ("text" : Str) = some (.str t) := by
  unfold flds
  rw [lookup_putF, if_neg kTP, lookup_putF, if_pos rfl]
theorem flds_place (t : Str) (p : Nat) : (flds t p).lookup ("place" : Str) = some (.int p) := by
  unfold flds
  rw [lookup_putF, if_pos rfl]
theorem flds_no (t : Str) (p : Nat) {m : Str} (h1 : ¬ m = "place") (h2 : ¬ m = "text") : (flds t p).lookup m = none := by
  unfold flds
  rw [lookup_putF, if_neg h1, lookup_putF, if_neg h2]
  all_goals rfl
theorem flds_put (t : Str) (p q : Nat) : putF "place" (.int q) (flds t p) = flds t q := by
  rw [flds_eq, flds_eq]
  show (if ("text" : Str) = "place" then _ else (("text" : Str), V.str t) :: (if ("place" : Str) = "place" then [(("place" : Str), V.int q)] else _)) = _
  rw [if_neg kTP, if_pos rfl]
theorem flds_len (t : Str) (p : Nat) : (flds t p).length < 1000 := by
  rw [flds_eq]
  show 2 < 1000
  decide
/-- the sign at a place -/
def sg (t : Str) (p : Nat) : Option Nat := t.cps.toList[p]?
theorem len_list (t : Str) : t.cps.toList.length = t.length := by simp [Str.length]
theorem sg_none {t : Str} {p : Nat} (h : t.length ≤ p) : sg t p = none := by
  unfold sg
  rw [List.getElem?_eq_none_iff, len_list]
  exact h
theorem sg_some {t : Str} {p : Nat} (h : p < t.length) : ∃ c, sg t p = some c :=
  ⟨t.cps.toList[p]'(by rw [len_list]; exact h), List.getElem?_eq_getElem _⟩
theorem sg_lt {t : Str} {p c : Nat} (h : sg t p = some c) : p < t.length := by
  have := (List.getElem?_eq_some_iff.mp h).1
  rw [len_list] at this
  exact this
/-- what the walk asks of the class Reader as the top has made it -/
structure Txt (K : PySem.W.Frag) (mg : Str → Option Value) (C : Addr) : Prop where
  cl : Cls K C
  nT : NoAttr K C "text"
  nP : NoAttr K C "place"
  len : mg "len" = none
def RdAt (C : Addr) (H : Hp) (a : Addr) (t : Str) (p : Nat) : Prop := (∃ dx, H a = some (.ins C dx (flds t p))) ∧ t.length ≤ sizeLine ∧ p ≤ t.length
def spEnds (C : Addr) : Sp := fun vs H Q _ => ∃ (a : Addr) (t : Str) (p : Nat), vs = [.ref a] ∧ RdAt C H a t p ∧ Q (.bl (decide (p = t.length))) H
def spSees (C : Addr) : Sp := fun vs H Q _ => ∃ (a : Addr) (t : Str) (p c : Nat), vs = [.ref a, .str ⟨#[c]⟩] ∧ RdAt C H a t p ∧ Q (.bl (decide (sg t p = some c))) H
def isDig (t : Str) (p : Nat) : Bool := match sg t p with
  | some c => decide (48 ≤ c) && decide (c ≤ 57)
  | none => false
def spDigit (C : Addr) : Sp := fun vs H Q _ => ∃ (a : Addr) (t : Str) (p : Nat), vs = [.ref a] ∧ RdAt C H a t p ∧ Q (.bl (isDig t p)) H
theorem dec_int (p q : Nat) : decide (V.int (p : Int) = V.int (q : Int)) = decide (p = q) := by
  by_cases h : p = q
  · subst h
    rw [decide_eq_true rfl, decide_eq_true rfl]
  · rw [decide_eq_false h]
    refine decide_eq_false fun e => h ?_
    have := V.int.inj e
    omega
theorem str1_inj {c d : Nat} (e : (⟨#[c]⟩ : Str) = ⟨#[d]⟩) : c = d := by
  have e1 := congrArg (fun s : Str => s.cps.toList) e
  have e2 : [c] = [d] := e1
  exact List.head_eq_of_cons_eq e2
theorem dec_str1 (c d : Nat) : decide (V.str ⟨#[c]⟩ = V.str ⟨#[d]⟩) = decide (some c = some d) := by
  by_cases h : c = d
  · subst h
    rw [decide_eq_true rfl, decide_eq_true rfl]
  · rw [decide_eq_false (p := some c = some d) fun e => h (Option.some.inj e)]
    exact decide_eq_false fun e => h (str1_inj (V.str.inj e))
theorem atI_sg {t : Str} {p c : Nat} (h : sg t p = some c) : atI t.cps.toList (p : Int) = some c := atI_nat h
section
variable {P : Program} {w : World} {K : PySem.W.Frag} {mg : Str → Option Value} {base : Heap}
theorem ok_ends {f C : Addr} {fd : FuncData} (F : Fun K "ends" "Reader.ends" sEnds f fd) (T : Txt K mg C) : FnOk P w K mg base CX0 1 f fd ["self"] (spEnds C) := by
  refine F.ok scEnds (fun vs H Q E h => ?_) (fun cdv A outer s H vs Q E hr h => ?_)
  · obtain ⟨a, t, p, rfl, _⟩ := h
    rfl
  · obtain ⟨a, t, p, rfl, ⟨⟨dx, ha⟩, hz, hp⟩, k⟩ := h
    refine ⟨_, pss_one (ps_ret (pe_cmpR op_eq (pe_fld (pv 0) rfl) (pe_callB call_len_str (by rfl) T.len PySem.boot_len (pa_cons (pe_fld (pv 0) rfl) pa_nil)) (nomark _))), ?_⟩
    refine ⟨_, rfl, a, C, dx, _, _, rfl, ha, T.cl, T.nP, flds_place _ _, _, rfl, a, C, dx, _, _, rfl, ha, T.cl, T.nT, flds_text _ _, t, rfl, hz, rfl, ?_⟩
    rw [dec_int]
    exact k
theorem ok_sees {f C fE : Addr} {fd fdE : FuncData} (F : Fun K "sees" "Reader.sees" sSees f fd) (T : Txt K mg C) (FE : Fun K "ends" "Reader.ends" sEnds fE fdE) (bE : Binds K fdE ["self"] []) (mE : Meth K C "ends" fE) :
    FnOk P w K mg base CX0 2 f fd ["self", "sign"] (spSees C) := by
  have GE : FnOk P w K mg base CX0 1 fE fdE ["self"] (spEnds C) := ok_ends FE T
  refine F.ok scSees (fun vs H Q E h => ?_) (fun cdv A outer s H vs Q E hr h => ?_)
  · obtain ⟨a, t, p, c, rfl, _⟩ := h
    rfl
  · obtain ⟨a, t, p, c, rfl, R, k⟩ := h
    obtain ⟨⟨dx, ha⟩, hz, hp⟩ := id R
    refine ⟨_, pss_one (ps_ret (pe_and (pe_not (pe_meth0 (pv 0) T.cl mE GE hr bE .nil pass0)) (pe_one (pe_cmpR op_eq (pe_ix ix_str (pe_fld (pv 0) rfl) (pe_fld (pv 0) rfl) (fun _ _ => rfl)) (pv 1) (nomark _))))), ?_⟩
    refine ⟨_, rfl, a, dx, _, rfl, ha, flds_no _ _ (by decide +kernel) (by decide +kernel), a, t, p, rfl, R, _, rfl, _, rfl, ?_⟩
    by_cases e : p = t.length
    · rw [decide_eq_true e]
      refine iteF ?_
      rw [sg_none (Nat.le_of_eq e.symm)] at k
      exact k
    · rw [decide_eq_false e]
      refine iteT ?_
      obtain ⟨d, hd⟩ := sg_some (t := t) (p := p) (by omega)
      refine ⟨_, rfl, a, C, dx, _, _, rfl, ha, T.cl, T.nT, flds_text _ _, _, rfl, a, C, dx, _, _, rfl, ha, T.cl, T.nP, flds_place _ _, t, p, d, rfl, rfl, hz, atI_sg hd, _, rfl, rfl, ?_⟩
      rw [dec_str1, ← hd]
      exact k
end
end G4

set_option Elab.async false
set_option linter.all false
set_option maxRecDepth 100000
set_option maxHeartbeats 2000000
namespace G4
open PySem PySem.Spec PyProof.Rows L2
/-! a block, an expression of which nothing is asked as it is never come to -/
theorem pss_off {X : Cx} {l : List Stmt} : PSs X l (fun _ _ _ => False) := ⟨fun _ _ _ _ _ _ h => h.elim⟩
theorem lt_one (c d : Nat) : decide (([c] : List Nat) < [d]) = decide (c < d) := by
  by_cases h : c < d
  · rw [decide_eq_true h]
    exact decide_eq_true (List.Lex.rel h)
  · rw [decide_eq_false h]
    refine decide_eq_false fun e => h ?_
    cases e with
    | rel r => exact r
    | cons r => cases r
/-! the digits -/
def runD (t : Str) : Nat → Nat → Nat
  | _, 0 => 0
  | p, k + 1 => if isDig t p = true then runD t (p + 1) k + 1 else 0
theorem runD_le (t : Str) : ∀ (k p : Nat), runD t p k ≤ k
  | 0, _ => Nat.le_refl _
  | k + 1, p => by
    unfold runD
    split
    · exact Nat.succ_le_succ (runD_le t k (p + 1))
    · exact Nat.zero_le _
theorem isDig_sg {t : Str} {p : Nat} (h : isDig t p = true) : ∃ c, sg t p = some c ∧ 48 ≤ c ∧ c ≤ 57 := by
  unfold isDig at h
  cases e : sg t p with
  | none => rw [e] at h; cases h
  | some c =>
    rw [e] at h
    have h' : (decide (48 ≤ c) && decide (c ≤ 57)) = true := h
    rw [Bool.and_eq_true, decide_eq_true_eq, decide_eq_true_eq] at h'
    exact ⟨c, rfl, h'.1, h'.2⟩
theorem runD_bound (t : Str) : ∀ (k p : Nat), p ≤ t.length → p + runD t p k ≤ t.length
  | 0, p, h => h
  | k + 1, p, h => by
    unfold runD
    split
    · rename_i c
      obtain ⟨d, hd, _⟩ := isDig_sg c
      have := sg_lt hd
      have := runD_bound t k (p + 1) this
      omega
    · exact h
/-- the digits from p on -/
def digL (t : Str) (p m : Nat) : List Nat := (t.cps.toList.drop p).take m
theorem digL_len {t : Str} {p m : Nat} (h : p + m ≤ t.length) : (digL t p m).length = m := by
  unfold digL
  rw [List.length_take, List.length_drop, len_list]
  omega
theorem digL_cut {t : Str} {p m : Nat} (h : p + m ≤ t.length) : (cutS t (some (p : Int)) (some ((p + m : Nat) : Int))).cps.toList = digL t p m := by
  unfold cutS digL
  rw [HT.sIx_nat, HT.sIx_nat, Nat.min_eq_left h, Nat.min_eq_left (by omega), Nat.add_sub_cancel_left]
theorem digL_mem {t : Str} : ∀ {k p : Nat}, ∀ c ∈ digL t p (runD t p k), 48 ≤ c ∧ c ≤ 57
  | 0, p, c, h => by
    unfold digL runD at h
    rw [List.take_zero] at h
    cases h
  | k + 1, p, c, h => by
    unfold runD at h
    by_cases e : isDig t p = true
    · rw [if_pos e] at h
      obtain ⟨d, hd, h1, h2⟩ := isDig_sg e
      unfold digL at h
      have hlt : p < t.cps.toList.length := (List.getElem?_eq_some_iff.mp hd).1
      rw [List.drop_eq_getElem_cons hlt, List.take_succ_cons] at h
      rcases List.mem_cons.mp h with z | z
      · have : t.cps.toList[p] = d := (List.getElem?_eq_some_iff.mp hd).2
        rw [z, this]
        exact ⟨h1, h2⟩
      · exact digL_mem (k := k) (p := p + 1) c z
    · rw [if_neg e] at h
      unfold digL at h
      rw [List.take_zero] at h
      cases h
def mostAt (t : Str) (p : Nat) : Nat := if sg t p = some 48 then 1 else 9
def numLen (t : Str) (p : Nat) : Nat := runD t p (mostAt t p)
def numVal (t : Str) (p : Nat) : Nat := NumText.digitsVal (digL t p (numLen t p))
theorem mostAt_pos (t : Str) (p : Nat) : 0 < mostAt t p ∧ mostAt t p ≤ 9 := by
  unfold mostAt
  split <;> decide
theorem numLen_pos {t : Str} {p : Nat} (h : isDig t p = true) : 0 < numLen t p := by
  unfold numLen
  obtain ⟨k, hk⟩ : ∃ k, mostAt t p = k + 1 := ⟨mostAt t p - 1, by have := mostAt_pos t p; omega⟩
  rw [hk]
  unfold runD
  rw [if_pos h]
  exact Nat.succ_pos _
theorem numLen_le (t : Str) (p : Nat) : numLen t p ≤ 9 := Nat.le_trans (runD_le t _ _) (mostAt_pos t p).2
theorem num_text {t : Str} {p : Nat} (hp : p ≤ t.length) (h : isDig t p = true) : PySem.intText? (cutS t (some (p : Int)) (some ((p + numLen t p : Nat) : Int))) = some ((numVal t p : Nat) : Int) ∧ (cutS t (some (p : Int)) (some ((p + numLen t p : Nat) : Int))).length ≤ 640 := by
  have hb : p + numLen t p ≤ t.length := runD_bound t _ _ hp
  have e := digL_cut hb
  have hl : (cutS t (some (p : Int)) (some ((p + numLen t p : Nat) : Int))).length = numLen t p := by
    rw [← len_list, e, digL_len hb]
  have h9 := numLen_le t p
  have h0 := numLen_pos h
  refine ⟨?_, by omega⟩
  have := PySem.intText_digits (x := cutS t (some (p : Int)) (some ((p + numLen t p : Nat) : Int))) (by rw [e]; exact fun c hc => digL_mem c hc) (by
    intro z
    have z2 := congrArg List.length z
    rw [len_list, hl] at z2
    have z3 : numLen t p = 0 := z2
    omega) (by omega)
  rw [e] at this
  exact this
/-! the error -/
/-- what the top has written of BadText at CB, its __init__ at fI, and of copied at fC -/
structure TxtE (K : PySem.W.Frag) (mg : Str → Option Value) (CB fI fC : Addr) (fdI fdC : FuncData) : Prop where
  oex : OexC K CB
  iC : PySem.W.findIn K (.ref CB) "__init__" = some (some (.ref fI))
  tI : PySem.W.typeIn K (.ref fI) = some (.type "function")
  noP : PySem.W.findIn K (.ref CB) "place" = some none
  mgB : mg "BadText" = some (.ref CB)
  FI : Fun K "__init__" "BadText.__init__" sBadInit fI fdI
  bI : Binds K fdI ["self", "place"] []
  FC : Fun K "copied" "copied" sCopied fC fdC
  bC : Binds K fdC ["value"] []
  gC : mg "copied" = some (.ref fC)
  isi : mg "isinstance" = none
  lst : mg "list" = none
  tpl : mg "tuple" = none
  dct : mg "dict" = none
def xdP (p : Nat) : HO := .xd [(("place" : Str), .int p)]
def Bad (E : XK) (CB : Addr) (H : Hp) (p : Nat) : Prop := ∀ d, H d = none → E (.ref CB) (some d) (upd H d (xdP p))
def spCopied : Sp := fun vs H Q _ => ∃ i : Int, vs = [.int i] ∧ Q (.int i) H
def spBadInit (CB : Addr) : Sp := fun vs H Q _ => ∃ (a : Addr) (i : Int), vs = [.ref a, .int i] ∧ H a = some (exo a CB none) ∧
  ∀ dx, H dx = none → dx ≠ a → Q .non (upd (upd H dx (exd dx [(("place" : Str), .int i)])) a (exo a CB (some dx)))
theorem cls_list : bootBuiltins "list" = some (.type "list") := PyProof.Rows.boot_list
section
variable {P : Program} {w : World} {K : PySem.W.Frag} {mg : Str → Option Value} {base : Heap} {CB fI fC : Addr} {fdI fdC : FuncData}
theorem ok_copied (T : TxtE K mg CB fI fC fdI fdC) : FnOk P w K mg base CX0 1 fC fdC ["value"] spCopied := by
  refine T.FC.ok scCopied (fun vs H Q E h => ?_) (fun cdv A outer s H vs Q E hr h => ?_)
  · obtain ⟨i, rfl, _⟩ := h
    rfl
  · obtain ⟨i, rfl, k⟩ := h
    refine ⟨_, pss_cons (ps_if (pt_val (pe_callB call_isi (by rfl) T.isi PyProof.Rows.boot_isinstance (pa_cons (pv 0) (pa_cons (pe_bltn (v := .ty "list") (by rfl) T.lst PyProof.Rows.boot_list rfl) pa_nil)))) pss_off pss_nil)
      (pss_cons (ps_if (pt_val (pe_callB call_isi (by rfl) T.isi PyProof.Rows.boot_isinstance (pa_cons (pv 0) (pa_cons (pe_bltn (v := .ty "tuple") (by rfl) T.tpl PyProof.Rows.boot_tuple rfl) pa_nil)))) pss_off pss_nil)
      (pss_cons (ps_if (pt_val (pe_callB call_isi (by rfl) T.isi PyProof.Rows.boot_isinstance (pa_cons (pv 0) (pa_cons (pe_bltn (v := .ty "dict") (by rfl) T.dct PyProof.Rows.boot_dict rfl) pa_nil)))) pss_off pss_nil)
      (pss_one (ps_ret (pv 0))))), ?_⟩
    refine ⟨_, rfl, _, _, _, _, false, rfl, .ty _, .base (.int i), kit_ty (by decide +kernel), _, rfl, iteF ?_⟩
    refine ⟨_, rfl, _, _, _, _, false, rfl, .ty _, .base (.int i), kit_ty (by decide +kernel), _, rfl, iteF ?_⟩
    refine ⟨_, rfl, _, _, _, _, false, rfl, .ty _, .base (.int i), kit_ty (by decide +kernel), _, rfl, iteF ?_⟩
    exact ⟨_, rfl, k⟩
theorem ok_badInit (T : TxtE K mg CB fI fC fdI fdC) : FnOk P w K mg base CX0 2 fI fdI ["self", "place"] (spBadInit CB) := by
  have GC : FnOk P w K mg base CX0 1 fC fdC ["value"] spCopied := ok_copied T
  refine T.FI.ok scBadInit (fun vs H Q E h => ?_) (fun cdv A outer s H vs Q E hr h => ?_)
  · obtain ⟨a, i, rfl, _⟩ := h
    rfl
  · obtain ⟨a, i, rfl, ha, k⟩ := h
    refine ⟨_, pss_one (ps_ost (pv 0) (pe_call GC hr (by rfl) T.gC T.FC.kp T.bC .nil pass0 (pa_cons (pv 1) pa_nil))), ?_⟩
    refine ⟨_, rfl, i, rfl, _, rfl, a, CB, rfl, T.oex, T.noP, .inl ⟨ha, fun dx hd hn => k dx hd hn⟩⟩
end
end G4

set_option Elab.async false
set_option linter.all false
set_option maxRecDepth 100000
set_option maxHeartbeats 2000000
namespace G4
open PySem PySem.Spec PyProof.Rows L2
/-- behind the making of the error the heap is the one ahead, with its dict -/
theorem bad_heap {H : Hp} {a d : Addr} {o1 o2 o3 : HO} {x : HO} (ha : H a = none) (hd : d ≠ a) : upd (del (upd (upd (upd H a o1) d o2) a o3) a) d x = upd H d x := by
  funext b
  by_cases hb : b = d
  · rw [hb, upd_same, upd_same]
  · rw [upd_ne hb, upd_ne hb]
    by_cases hba : b = a
    · rw [hba, del_same, ha]
    · rw [del_ne hba, upd_ne hba, upd_ne hb, upd_ne hba]
def tBad (CB : Addr) (E : XK) (ta : TA) : TS := fun _ σ H => tMkO CB (spBadInit CB) [] ta σ H fun cls d H' => E cls d H'
/-- the reading of raise BadText(..) -/
theorem bad_read {CB : Addr} {E : XK} {H : Hp} {p : Nat} (hB : Bad E CB H p) :
    ([V.int (p : Int)] : List V).length ≤ 1000 ∧ ∀ a, H a = none → spBadInit CB (.ref a :: ([.int (p : Int)] ++ [])) (upd H a (exo a CB none))
      (fun v H2 => v = .non ∧ ∃ (d : Addr) (fs : List (Str × V)), H2 a = some (exo a CB (some d)) ∧ H2 d = some (exd d fs) ∧ H d = none ∧ E (.ref CB) (some d) (upd (del H2 a) d (.xd fs))) (fun _ _ _ => False) := by
  refine ⟨(by show 1 ≤ 1000; decide), fun a ha => ⟨a, p, rfl, upd_same, fun dx hd hn => ⟨rfl, dx, [(("place" : Str), V.int (p : Int))], upd_same, ?_, ?_, ?_⟩⟩⟩
  · rw [upd_ne hn, upd_same]
  · rw [upd_ne hn] at hd
    exact hd
  · rw [upd_ne hn] at hd
    rw [bad_heap ha hn]
    exact hB dx hd
theorem tIf_int (c : Bool) (x y : Int) (σ : L2.St) (H : Hp) (Q : VK) : (if c = true then tC (.int x) σ H Q else tC (.int y) σ H Q) = tC (.int (if c = true then x else y)) σ H Q := by
  cases c <;> rfl
theorem if_true_of {c : Bool} {A B : Prop} (hc : c = true) (h : A) : if c = true then A else B := by
  rw [if_pos hc]
  exact h
theorem if_false_of {c : Bool} {A B : Prop} (hc : c = false) (h : B) : if c = true then A else B := by
  rw [hc, if_neg Bool.false_ne_true]
  exact h
theorem upd_id {H : Hp} {a : Addr} {o : HO} (h : H a = some o) : upd H a o = H := by
  funext b
  by_cases e : b = a
  · rw [e, upd_same, h]
  · rw [upd_ne e]
/-- the names of Reader's methods, as the top has left them -/
structure TxtR (K : PySem.W.Frag) (mg : Str → Option Value) (C fEnds fSees fDigit fTake fNumber fShut : Addr) (dEnds dSees dDigit dTake dNumber dShut : FuncData) : Prop where
  t : Txt K mg C
  FEnds : Fun K "ends" "Reader.ends" sEnds fEnds dEnds
  bEnds : Binds K dEnds ["self"] []
  mEnds : Meth K C "ends" fEnds
  FSees : Fun K "sees" "Reader.sees" sSees fSees dSees
  bSees : Binds K dSees ["self", "sign"] []
  mSees : Meth K C "sees" fSees
  FDigit : Fun K "sees_digit" "Reader.sees_digit" sDigit fDigit dDigit
  bDigit : Binds K dDigit ["self"] []
  mDigit : Meth K C "sees_digit" fDigit
  FTake : Fun K "take" "Reader.take" sTake fTake dTake
  bTake : Binds K dTake ["self", "words"] []
  mTake : Meth K C "take" fTake
  FNumber : Fun K "number" "Reader.number" sNumber fNumber dNumber
  bNumber : Binds K dNumber ["self"] []
  mNumber : Meth K C "number" fNumber
  FShut : Fun K "shut" "Reader.shut" sShut fShut dShut
  bShut : Binds K dShut ["self"] []
  mShut : Meth K C "shut" fShut
  int : mg "int" = none
section
variable {P : Program} {w : World} {K : PySem.W.Frag} {mg : Str → Option Value} {base : Heap} {CB fI fC : Addr} {fdI fdC : FuncData}
variable {C fEnds fSees fDigit fTake fNumber fShut : Addr} {dEnds dSees dDigit dTake dNumber dShut : FuncData}
theorem ok_digit (T : TxtR K mg C fEnds fSees fDigit fTake fNumber fShut dEnds dSees dDigit dTake dNumber dShut) : FnOk P w K mg base CX0 2 fDigit dDigit ["self"] (spDigit C) := by
  have GE : FnOk P w K mg base CX0 1 fEnds dEnds ["self"] (spEnds C) := ok_ends T.FEnds T.t
  refine T.FDigit.ok scDigit (fun vs H Q E h => ?_) (fun cdv A outer s H vs Q E hr h => ?_)
  · obtain ⟨a, t, p, rfl, _⟩ := h
    rfl
  · obtain ⟨a, t, p, rfl, R, k⟩ := h
    obtain ⟨⟨dx, ha⟩, hz, hp⟩ := id R
    refine ⟨_, pss_one (ps_ret (pe_and (pe_not (pe_meth0 (pv 0) T.t.cl T.mEnds GE hr T.bEnds .nil pass0)) (pe_one (pe_chain op_le_str op_le_str pe_str (pe_ix ix_str (pe_fld (pv 0) rfl) (pe_fld (pv 0) rfl) (fun _ _ => rfl)) pe_str)))), ?_⟩
    refine ⟨_, rfl, a, dx, _, rfl, ha, flds_no _ _ (by decide +kernel) (by decide +kernel), a, t, p, rfl, R, _, rfl, _, rfl, ?_⟩
    by_cases e : p = t.length
    · rw [decide_eq_true e]
      refine iteF ?_
      unfold isDig at k
      rw [sg_none (Nat.le_of_eq e.symm)] at k
      exact k
    · rw [decide_eq_false e]
      refine iteT ?_
      obtain ⟨d, hd⟩ := sg_some (t := t) (p := p) (by omega)
      have e2 : isDig t p = (decide (48 ≤ d) && decide (d ≤ 57)) := by
        unfold isDig
        rw [hd]
      rw [e2] at k
      refine ⟨_, rfl, a, C, dx, _, _, rfl, ha, T.t.cl, T.t.nT, flds_text _ _, _, rfl, a, C, dx, _, _, rfl, ha, T.t.cl, T.t.nP, flds_place _ _, t, p, d, rfl, rfl, hz, atI_sg hd, _, _, rfl, rfl, ?_⟩
      show ∃ k, V.bl (!decide (([d] : List Nat) < [48])) = .bl k ∧ _
      rw [lt_one]
      refine ⟨_, rfl, ?_⟩
      by_cases h1 : d < 48
      · rw [decide_eq_true h1]
        refine iteF ?_
        rw [decide_eq_false (show ¬ 48 ≤ d by omega)] at k
        exact k
      · rw [decide_eq_false h1]
        refine iteT ?_
        refine ⟨_, _, rfl, rfl, ?_⟩
        show Q (V.bl (!decide (([57] : List Nat) < [d]))) H
        rw [lt_one]
        rw [decide_eq_true (show 48 ≤ d by omega)] at k
        by_cases h2 : 57 < d
        · rw [decide_eq_true h2]
          rw [decide_eq_false (show ¬ d ≤ 57 by omega)] at k
          exact k
        · rw [decide_eq_false h2]
          rw [decide_eq_true (show d ≤ 57 by omega)] at k
          exact k
def spShut (C CB : Addr) : Sp := fun vs H Q E => ∃ (a : Addr) (t : Str) (p : Nat), vs = [.ref a] ∧ RdAt C H a t p ∧ (p ≠ t.length → Bad E CB H p) ∧ (p = t.length → Q .non H)
theorem ok_shut (T : TxtR K mg C fEnds fSees fDigit fTake fNumber fShut dEnds dSees dDigit dTake dNumber dShut) (TE : TxtE K mg CB fI fC fdI fdC) : FnOk P w K mg base (L2.CX P w) 4 fShut dShut ["self"] (spShut C CB) := by
  have GE : FnOk P w K mg base CX0 1 fEnds dEnds ["self"] (spEnds C) := ok_ends T.FEnds T.t
  have GI : FnOk P w K mg base CX0 2 fI fdI ["self", "place"] (spBadInit CB) := ok_badInit TE
  refine T.FShut.okX scShut (fun vs H Q E h => ?_) (fun cdv A outer s H vs Q E hr h => ?_)
  · obtain ⟨a, t, p, rfl, _⟩ := h
    rfl
  · obtain ⟨a, t, p, rfl, R, kB, kQ⟩ := h
    obtain ⟨⟨dx, ha⟩, hz, hp⟩ := id R
    refine ⟨_, pss_one (ps_if (pt_not (pt_val (pe_meth0 (pv 0) T.t.cl T.mEnds GE (hr.mono (by decide)) T.bEnds .nil pass0)))
      (pss_one (ps_raise rfl (takes_of rfl rfl rfl rfl) (pmk_oex TE.oex TE.iC TE.tI GI (hr.mono (by decide)) TE.bI .nil pass0 (by rfl) TE.mgB (pa_cons (pe_fld (pv 0) rfl) pa_nil)))) pss_nil), ?_⟩
    refine ⟨_, rfl, a, dx, _, rfl, ha, flds_no _ _ (by decide +kernel) (by decide +kernel), a, t, p, rfl, R, _, rfl, ?_⟩
    by_cases e : p = t.length
    · rw [decide_eq_true e]
      refine iteF ?_
      exact kQ e
    · rw [decide_eq_false e]
      refine iteT ?_
      refine ⟨_, rfl, a, C, dx, _, _, rfl, ha, T.t.cl, T.t.nP, flds_place _ _, ?_⟩
      exact bad_read (kB e)
def spNumber (C CB : Addr) : Sp := fun vs H Q E => ∃ (a dx : Addr) (t : Str) (p : Nat), vs = [.ref a] ∧ H a = some (.ins C dx (flds t p)) ∧ t.length ≤ sizeLine ∧ p ≤ t.length ∧ (isDig t p = false → Bad E CB H p) ∧
  (isDig t p = true → Q (.int ((numVal t p : Nat) : Int)) (upd H a (.ins C dx (flds t (p + numLen t p)))))
theorem ok_number (T : TxtR K mg C fEnds fSees fDigit fTake fNumber fShut dEnds dSees dDigit dTake dNumber dShut) (TE : TxtE K mg CB fI fC fdI fdC) : FnOk P w K mg base (L2.CX P w) 4 fNumber dNumber ["self"] (spNumber C CB) := by
  have GS : FnOk P w K mg base CX0 2 fSees dSees ["self", "sign"] (spSees C) := ok_sees T.FSees T.t T.FEnds T.bEnds T.mEnds
  have GD : FnOk P w K mg base CX0 2 fDigit dDigit ["self"] (spDigit C) := ok_digit T
  have GI : FnOk P w K mg base CX0 2 fI fdI ["self", "place"] (spBadInit CB) := ok_badInit TE
  refine T.FNumber.okX scNumber (fun vs H Q E h => ?_) (fun cdv A outer s H vs Q E hr h => ?_)
  · obtain ⟨a, dx, t, p, rfl, _⟩ := h
    rfl
  · obtain ⟨a, dx, t, p, rfl, ha, hz, hp, kB, kQ⟩ := h
    have R : RdAt C H a t p := ⟨⟨dx, ha⟩, hz, hp⟩
    have nD : (flds t p).lookup ("sees_digit" : Str) = none := flds_no _ _ (by decide +kernel) (by decide +kernel)
    have nS : (flds t p).lookup ("sees" : Str) = none := flds_no _ _ (by decide +kernel) (by decide +kernel)
    refine ⟨_, pss_cons (ps_set (i := 1) scNumber.nd rfl (.inl rfl) (pe_fld (pv 0) rfl))
      (pss_cons (ps_if (pt_not (pt_val (pe_meth0 (pv 0) T.t.cl T.mDigit GD (hr.mono (by decide)) T.bDigit .nil pass0)))
        (pss_one (ps_raise rfl (takes_of rfl rfl rfl rfl) (pmk_oex TE.oex TE.iC TE.tI GI (hr.mono (by decide)) TE.bI .nil pass0 (by rfl) TE.mgB (pa_cons (pe_fld (pv 0) rfl) pa_nil)))) pss_nil)
      (pss_cons (ps_set (i := 2) scNumber.nd rfl (.inl rfl) (pe_ifExp (pt_val (pe_meth (pv 0) T.t.cl T.mSees GS (hr.mono (by decide)) T.bSees .nil pass0 (pa_cons pe_str pa_nil))) pe_int pe_int))
      (pss_cons (ps_while PassesOwn.leaving (pw_and (pt_val (pe_meth0 (pv 0) T.t.cl T.mDigit GD (hr.mono (by decide)) T.bDigit .nil pass0)) (pw_and1 (pt_cmpR op_lt (pe_op op_sub (pe_fld (pv 0) rfl) (pv 1)) (pv 2) (nomark _)))).pt
        (pss_one (ps_fldaug (pv 0) pe_int in_add)))
      (pss_one (ps_ret (pe_callTy call_int_str (by rfl) T.int PyProof.Rows.boot_int (pa_cons (pe_slice sl_str (pe_fld (pv 0) rfl) (po_some (pv 1)) (po_some (pe_fld (pv 0) rfl))) pa_nil))))))), ?_⟩
    -- start = self.place
    refine ⟨_, rfl, a, C, dx, _, _, rfl, ha, T.t.cl, T.t.nP, flds_place _ _, ?_⟩
    -- if not self.sees_digit()
    refine ⟨_, rfl, a, dx, _, rfl, ha, nD, a, t, p, rfl, R, _, rfl, ?_⟩
    by_cases e : isDig t p = true
    · rw [e]
      refine iteF ?_
      -- most
      refine ⟨_, rfl, a, dx, _, rfl, ha, nS, a, t, p, 48, rfl, R, _, rfl, ?_⟩
      refine cast (tIf_int _ _ _ _ _ _).symm ?_
      -- the loop
      have hmo : ((if decide (sg t p = some 48) = true then (1 : Int) else 9) : Int) = ((mostAt t p : Nat) : Int) := by
        unfold mostAt
        by_cases c : sg t p = some 48
        · rw [if_pos (decide_eq_true c), if_pos c]
          rfl
        · rw [if_neg (by rw [decide_eq_false c]; decide), if_neg c]
          rfl
      rw [hmo]
      have hmp := mostAt_pos t p
      refine ⟨fun m σ H' => ∃ j, σ = [some (.ref a), some (.int p), some (.int (mostAt t p : Nat))] ∧ m = mostAt t p - j ∧ j ≤ mostAt t p ∧ H' = upd H a (.ins C dx (flds t (p + j))) ∧ p + j ≤ t.length ∧ runD t p (mostAt t p) = j + runD t (p + j) (mostAt t p - j),
        ⟨_, 0, rfl, rfl, Nat.zero_le _, (upd_id ha).symm, hp, (Nat.zero_add _).symm⟩, fun m σ H' hW => ?_⟩
      obtain ⟨j, rfl, rfl, hj, rfl, hpj, hrun⟩ := hW
      have R2 : RdAt C (upd H a (.ins C dx (flds t (p + j)))) a t (p + j) := ⟨⟨dx, upd_same⟩, hz, hpj⟩
      have nD2 : (flds t (p + j)).lookup ("sees_digit" : Str) = none := flds_no _ _ (by decide +kernel) (by decide +kernel)
      have fin : runD t (p + j) (mostAt t p - j) = 0 → tRet (tCB (fun xs H Q => ∃ a n, xs = [V.str a] ∧ PySem.intText? a = some n ∧ a.length ≤ 640 ∧ Q (V.int n) H)
          (tCons (tSl rSlS (tFld K (tVar 0) "text") (tPart (tVar 1)) (tPart (tFld K (tVar 0) "place"))) tNil)) { nx := fun _ H' => Q .non H', rt := Q } [some (.ref a), some (.int p), some (.int (mostAt t p : Nat))] (upd H a (.ins C dx (flds t (p + j)))) := by
        intro h0
        have hn : numLen t p = j := by
          unfold numLen
          omega
        have hq := kQ e
        obtain ⟨n1, n2⟩ := num_text hp e
        rw [hn] at hq n1 n2
        exact ⟨_, rfl, a, C, dx, _, _, rfl, upd_same, T.t.cl, T.t.nT, flds_text _ _, _, rfl, _, rfl, _, rfl, a, C, dx, _, _, rfl, upd_same, T.t.cl, T.t.nP, flds_place _ _, _, rfl, t, rfl, hz, _, _, rfl, n1, n2, hq⟩
      refine ⟨_, rfl, a, dx, _, rfl, upd_same, nD2, a, t, p + j, rfl, R2, _, rfl, ?_⟩
      by_cases c : isDig t (p + j) = true
      · refine if_true_of c ?_
        refine ⟨_, rfl, a, C, dx, _, _, rfl, upd_same, T.t.cl, T.t.nP, flds_place _ _, _, rfl, _, _, rfl, rfl, _, rfl, _, _, rfl, rfl, _, rfl, ?_⟩
        by_cases d : j < mostAt t p
        · refine if_true_of (decide_eq_true (by omega)) ?_
          refine ⟨fun σ' H' => σ' = [some (.ref a), some (.int p), some (.int (mostAt t p : Nat))] ∧ H' = upd H a (.ins C dx (flds t (p + (j + 1)))), fun σ' H' hN => ?_, ?_⟩
          · obtain ⟨rfl, rfl⟩ := hN
            obtain ⟨c1, hc1, _⟩ := isDig_sg c
            have := sg_lt hc1
            refine ⟨mostAt t p - (j + 1), by omega, j + 1, rfl, rfl, d, rfl, by omega, ?_⟩
            obtain ⟨m, hm⟩ : ∃ m, mostAt t p - j = m + 1 := ⟨mostAt t p - j - 1, by omega⟩
            rw [hrun, hm]
            show j + (if isDig t (p + j) = true then runD t (p + j + 1) m + 1 else 0) = _
            rw [if_pos c, show mostAt t p - (j + 1) = m by omega, show p + (j + 1) = p + j + 1 by omega]
            omega
          · refine ⟨_, rfl, a, C, dx, _, _, rfl, upd_same, T.t.cl, T.t.nP, flds_place _ _, _, _, rfl, rfl, dx, _, upd_same, flds_len _ _, rfl, ?_⟩
            rw [upd_upd]
            have e3 : V.int (((p + j : Nat) : Int) + 1) = V.int ((p + (j + 1) : Nat) : Int) := congrArg V.int (by omega)
            rw [e3, flds_put]
        · refine if_false_of (decide_eq_false (by omega)) ?_
          refine fin ?_
          rw [show mostAt t p - j = 0 by omega]
          rfl
      · refine if_false_of (by simpa using c) ?_
        refine fin ?_
        cases q : mostAt t p - j with
        | zero => rfl
        | succ m =>
          unfold runD
          rw [if_neg c]
    · have e' : isDig t p = false := by
        cases q : isDig t p with
        | true => exact absurd q e
        | false => rfl
      rw [e']
      refine iteT ?_
      refine ⟨_, rfl, a, C, dx, _, _, rfl, ha, T.t.cl, T.t.nP, flds_place _ _, ?_⟩
      exact bad_read (kB e')
end
end G4

set_option Elab.async false
set_option linter.all false
set_option maxRecDepth 100000
set_option maxHeartbeats 2000000
namespace G4
open PySem PySem.Spec PyProof.Rows L2
/-- enumerate of a text: each sign in a new pair with its place -/
def ItS (z : Str) : It :=
  ⟨fun i _ => i < z.cps.size, fun i H v H' => ∃ T c, v = .ref T ∧ H T = none ∧ z.cps[i]? = some c ∧ H' = upd H T (.tup [.int ((i : Nat) : Int), .str ⟨#[c]⟩]), fun i _ => z.cps.size = i⟩
theorem turn_enumS {P : Program} {w : World} {K : PySem.W.Frag} {elts : List Expr} {kk : Nat} {tpos : Pos} (z : Str) (t : Tok) (ty : String) (hty : ty = "str_ascii_iterator" ∨ ty = "str_iterator") (e it : Addr) :
    Turn P w K (.Tuple elts kk tpos) (ItS z) [e, it] e (fun i h => (∃ old, IsEnum h e it ((i : Nat) : Int) old) ∧ h.IsStrIter it ty z t i ∧ e ≠ it) where
  mem := by simp
  obj := fun i h st b hb => by
    obtain ⟨⟨old, he⟩, ⟨o, ho, hc, hd⟩, _⟩ := st
    have e' : b = e ∨ b = it := by simpa using hb
    rcases e' with q | q
    · exact q ▸ ⟨_, he, fun v y => nomatch y⟩
    · exact q ▸ ⟨o, ho, fun v y => by rw [hd] at y; cases y⟩
  keep := fun i h h' st k => by
    obtain ⟨⟨old, he⟩, ⟨o, ho, r⟩, hne⟩ := st
    exact ⟨⟨old, k e (by simp) _ he⟩, ⟨o, k it (by simp) o ho, r⟩, hne⟩
  item := by
    intro X hP hw hK hc i pins s σ H E I hf st hg
    subst hP hw hK
    obtain ⟨⟨old, he⟩, hit, hne⟩ := st
    have D : Draws X.prog X.w X.A.in1 it [it] z.cps.size (fun i v => ∃ c u, z.cps[i]? = some c ∧ v = .str ⟨#[c]⟩ u) (fun i h => h.IsStrIter it ty z t i) := by
      rcases hty with q | q
      · rw [q]
        exact Draws.strAscii (A := X.A.in1) (I.ok.hd hc) it z t
      · rw [q]
        exact Draws.strWide (A := X.A.in1) (I.ok.hd hc) it z t
    have l1 : e < s.heap.objs.size := Heap.lt_size he
    have l2 : it < s.heap.objs.size := by
      obtain ⟨_, q, _⟩ := hit
      exact Heap.lt_size q
    refine wpAny_pyNext_enum_itemD D he hit hg hne (by simpa using hne) fun x h' tk hx ho hit' hT hsz hk => ?_
    obtain ⟨c, u, hcx, rfl⟩ := hx
    refine ⟨_, rfl, wpAny_letOwnedTupleGo_enum (s := { s with heap := h', toks := tk + 1 }) ho fun h'' he' sb => ?_⟩
    have hT2 := (sb.2 _ (Nat.ne_of_gt l1)).trans hT
    have new : ObjOk X.prog X.w (upd H s.heap.objs.size (.tup [.int ((i : Nat) : Int), .str ⟨#[c]⟩])) h'' s.heap.objs.size (.tup [.int ((i : Nat) : Int), .str ⟨#[c]⟩]) :=
      ⟨by show 2 ≤ sizeLine; decide, [.int ((i : Nat) : Int) tk, .str ⟨#[c]⟩ u], .cons ⟨_, rfl⟩ (.cons ⟨_, rfl⟩ .nil), ⟨_, hT2, rfl, _, rfl⟩⟩
    have I1 : Inv X pins σ (upd H s.heap.objs.size (.tup [.int ((i : Nat) : Int), .str ⟨#[c]⟩])) { s with heap := h'', toks := tk + 1 } :=
      I.turnedNew (ch := [e, it]) (fun b ob hb q => (sb.2 b (fun y => hb (by simp [y]))).trans (hk b ob (fun y => hb (by simp [y])) (fun y => hb (by simp [y])) q)) hf (Nat.le_refl _) new
    refine ⟨.ref s.heap.objs.size, _, I1, rfl, ⟨_, c, rfl, I.hok.fresh (Nat.le_refl _), hcx, rfl⟩, ⟨⟨Value.str ⟨#[c]⟩ u, ?_⟩, ?_, hne⟩, fun b hb => ?_⟩
    · rw [show ((i + 1 : Nat) : Int) = (i : Int) + 1 by omega]
      exact he'
    · obtain ⟨o, ho2, r⟩ := hit'
      exact ⟨o, (sb.2 it (Ne.symm hne)).trans ho2, r⟩
    · have hb' : b < s.heap.objs.size := by
        have e' : b = e ∨ b = it := by simpa using hb
        rcases e' with q | q
        · exact q ▸ l1
        · exact q ▸ l2
      rw [upd_ne (Nat.ne_of_lt hb')]
      exact (hf b hb).1
  done := by
    intro X hP hw hK hc i pins s σ H E I hf st hg
    subst hP hw hK
    obtain ⟨⟨old, he⟩, hit, hne⟩ := st
    obtain ⟨f0, f1, f2, f3, f4, f5⟩ := hf it (by simp)
    have D : Draws X.prog X.w X.A.in1 it [it] z.cps.size (fun i v => ∃ c u, z.cps[i]? = some c ∧ v = .str ⟨#[c]⟩ u) (fun i h => h.IsStrIter it ty z t i) := by
      rcases hty with q | q
      · rw [q]
        exact Draws.strAscii (A := X.A.in1) (I.ok.hd hc) it z t
      · rw [q]
        exact Draws.strWide (A := X.A.in1) (I.ok.hd hc) it z t
    have hgi : z.cps.size = i := hg
    exact wpAny_pyNext_enum_endD D he (hgi ▸ hit) fun h' eb => ⟨rfl, I.turned (t' := s.toks) (fun b o hb q => eb b o hb q) f0 f1 f3 f4 f5⟩
  self := fun A i s Q E st h => by
    obtain ⟨⟨_, he⟩, _⟩ := st
    exact wpAny_pyIter_enum he h
def iEnumS (ta : TA) : TI := fun σ H R => ta σ H fun vs H1 => ∃ z, vs = [.str z] ∧ R (ItS z) H1
theorem pi_enumS {X : Cx} {e : Expr} {ta : TA} {p pos tpos : Pos} {elts : List Expr} {kk : Nat} (hg : Gl X "enumerate") (hm : X.mg "enumerate" = none) (ha : PA X [e] ta) (hs : starEach [e] X.env = [(false, eval e X.env)] := by rfl) :
    PI X (.Tuple elts kk tpos) (.Call (.Name "enumerate" p) [e] [] pos) (iEnumS ta) := by
  refine ⟨fun pins s σ H R I h => ?_⟩
  refine Call_ (ld_blt I hg hm boot_enumerate (PyProof.Rows.callWith_type1 (thn (ha.run pos pins s σ H _ I h) fun us s1 ⟨vs, H1, I1, r1, z, ex, q⟩ => ?_) hs rfl))
  subst ex
  cases r1 with
  | cons r rr =>
    cases rr
    obtain ⟨t, rfl⟩ := r
    refine call_enumerate_str fun h' he hit hsz hk => wpAny_pyIter_enum he ?_
    have hty : strIterType z = "str_ascii_iterator" ∨ strIterType z = "str_iterator" := by
      unfold strIterType
      split
      · exact .inl rfl
      · exact .inr rfl
    have I2 : Inv X pins σ H1 { s1 with heap := h' } := I1.kept (t' := s1.toks) hk
    refine ⟨s1.heap.objs.size + 1, [s1.heap.objs.size + 1, s1.heap.objs.size], _, _, H1, rfl, I2, turn_enumS z t _ hty (s1.heap.objs.size + 1) s1.heap.objs.size, ⟨⟨.none, he⟩, hit, Nat.succ_ne_self _⟩, fun b hb => ?_, q⟩
    have hle : s1.heap.objs.size ≤ b := by
      have e' : b = s1.heap.objs.size + 1 ∨ b = s1.heap.objs.size := by simpa using hb
      rcases e' with q | q
      · exact q ▸ Nat.le_add_right _ _
      · exact q ▸ Nat.le_refl _
    exact I1.fpOk hle (I1.hok.fresh hle)
theorem walk_enumS {z : Str} : Walk (ItS z) z.cps.size (fun _ => True) (fun i H v H' => ∃ T c, v = .ref T ∧ H T = none ∧ z.cps[i]? = some c ∧ H' = upd H T (.tup [.int ((i : Nat) : Int), .str ⟨#[c]⟩])) :=
  ⟨fun _ _ hi _ => hi, fun _ _ => rfl, fun _ _ _ _ _ _ y => y⟩
end G4

set_option Elab.async false
set_option linter.all false
set_option maxRecDepth 100000
set_option maxHeartbeats 4000000
namespace G4
open PySem PySem.Spec PyProof.Rows L2
/-- the source's dict -/
def srcK (cs : Addr) (l m t : Int) : List (Key × V) := [(.inr "cells", .ref cs), (.inr "left", .int l), (.inr "mixed", .int m), (.inr "turn", .int t)]
theorem kne (a b : Str) (h : ¬ a = b) : ¬ ((Sum.inr a : Key) = Sum.inr b) := fun e => h (Sum.inr.inj e)
theorem src_cells (cs : Addr) (l m t : Int) : valV (srcK cs l m t) (.inr "cells") = some (.ref cs) := valV_pos rfl
theorem src_left (cs : Addr) (l m t : Int) : valV (srcK cs l m t) (.inr "left") = some (.int l) := (valV_neg (kne _ _ (by decide +kernel))).trans (valV_pos rfl)
theorem src_mixed (cs : Addr) (l m t : Int) : valV (srcK cs l m t) (.inr "mixed") = some (.int m) := (valV_neg (kne _ _ (by decide +kernel))).trans ((valV_neg (kne _ _ (by decide +kernel))).trans (valV_pos rfl))
theorem src_turn (cs : Addr) (l m t : Int) : valV (srcK cs l m t) (.inr "turn") = some (.int t) := (valV_neg (kne _ _ (by decide +kernel))).trans ((valV_neg (kne _ _ (by decide +kernel))).trans ((valV_neg (kne _ _ (by decide +kernel))).trans (valV_pos rfl)))
theorem any_key {kvs : List (Key × V)} {k : Key} {v : V} (h : valV kvs k = some v) : (kvs.any fun kv => decide (kv.1 = k)) = true := by
  induction kvs with
  | nil => cases h
  | cons p r ih =>
    rw [List.any_cons]
    by_cases e : p.1 = k
    · rw [decide_eq_true e, Bool.true_or]
    · rw [valV_neg e] at h
      rw [ih h, Bool.or_true]
theorem put_left (cs : Addr) (l m t l2 : Int) : putK (srcK cs l m t) (.inr "left") (.int l2) = srcK cs l2 m t := by
  unfold putK
  rw [if_pos (any_key (src_left cs l m t))]
  show [if (Sum.inr ("cells" : Str) : Key) = Sum.inr ("left" : Str) then _ else _, if (Sum.inr ("left" : Str) : Key) = Sum.inr ("left" : Str) then _ else _, if (Sum.inr ("mixed" : Str) : Key) = Sum.inr ("left" : Str) then _ else _, if (Sum.inr ("turn" : Str) : Key) = Sum.inr ("left" : Str) then _ else _] = _
  rw [if_neg (kne _ _ (by decide +kernel)), if_pos rfl, if_neg (kne _ _ (by decide +kernel)), if_neg (kne _ _ (by decide +kernel))]
  all_goals rfl
abbrev kq (x : Str) : Key := Sum.inr x
theorem merge_src (cs : Addr) (l m t : Int) : mergeK [] (srcK cs l m t) = srcK cs l m t := by
  show putK (putK (putK (putK [] (kq "cells") (.ref cs)) (kq "left") (.int l)) (kq "mixed") (.int m)) (kq "turn") (.int t) = _
  rw [putK_new (kvs := []) (k := kq "cells") _ rfl]
  show putK (putK (putK [(kq "cells", V.ref cs)] (kq "left") (.int l)) (kq "mixed") (.int m)) (kq "turn") (.int t) = _
  rw [putK_new (kvs := [(kq "cells", V.ref cs)]) (k := kq "left") _ (valV_neg (kne _ _ (by decide +kernel)))]
  show putK (putK [(kq "cells", V.ref cs), (kq "left", .int l)] (kq "mixed") (.int m)) (kq "turn") (.int t) = _
  rw [putK_new (kvs := [(kq "cells", V.ref cs), (kq "left", .int l)]) (k := kq "mixed") _ ((valV_neg (kne _ _ (by decide +kernel))).trans (valV_neg (kne _ _ (by decide +kernel))))]
  show putK [(kq "cells", V.ref cs), (kq "left", .int l), (kq "mixed", .int m)] (kq "turn") (.int t) = _
  rw [putK_new (kvs := [(kq "cells", V.ref cs), (kq "left", .int l), (kq "mixed", .int m)]) (k := kq "turn") _ ((valV_neg (kne _ _ (by decide +kernel))).trans ((valV_neg (kne _ _ (by decide +kernel))).trans (valV_neg (kne _ _ (by decide +kernel)))))]
  rfl
theorem put_turn (cs : Addr) (l m t t2 : Int) : putK (srcK cs l m t) (.inr "turn") (.int t2) = srcK cs l m t2 := by
  unfold putK
  rw [if_pos (any_key (src_turn cs l m t))]
  show [if (Sum.inr ("cells" : Str) : Key) = Sum.inr ("turn" : Str) then _ else _, if (Sum.inr ("left" : Str) : Key) = Sum.inr ("turn" : Str) then _ else _, if (Sum.inr ("mixed" : Str) : Key) = Sum.inr ("turn" : Str) then _ else _, if (Sum.inr ("turn" : Str) : Key) = Sum.inr ("turn" : Str) then _ else _] = _
  rw [if_neg (kne _ _ (by decide +kernel)), if_neg (kne _ _ (by decide +kernel)), if_neg (kne _ _ (by decide +kernel)), if_pos rfl]
  all_goals rfl
/-- the source at d, its cells at cs -/
def SrcAt (H : Hp) (d cs : Addr) : Prop := ∃ (zs : List Int) (l m t : Int), H d = some (.dK (srcK cs l m t)) ∧ H cs = some (.lst (zs.map V.int)) ∧ zs.length ≤ 100 ∧ (∀ z ∈ zs, 0 ≤ z) ∧ 0 ≤ l ∧ 0 ≤ m ∧ 0 ≤ t
def spOpen (K : PySem.W.Frag) : Sp := fun vs H Q _ => ∃ (a : Addr) (ns : List Int), vs = [.ref a] ∧ SqL K H a (ns.map V.int) ∧ ns.length ≤ 63 ∧ ∀ d cs H', Same H H' → H d = none → H cs = none → SrcAt H' d cs → Q (.ref d) H'
def spPick : Sp := fun vs H Q _ => ∃ (d cs : Addr) (most : Int), vs = [.ref d, .int most] ∧ SrcAt H d cs ∧ most < 1073741824 ∧
  ∀ r H', (most < 2 → r = 0) → (2 ≤ most → 0 ≤ r ∧ r < most) → SrcAt H' d cs → (∀ b o, b ≠ d → b ≠ cs → H b = some o → H' b = some o) → Q (.int r) H'
theorem ifT {c : Bool} {A B : Prop} (hc : c = true) (h : A) : if c = true then A else B := by
  rw [if_pos hc]
  exact h
theorem ifF {c : Bool} {A B : Prop} (hc : c = false) (h : B) : if c = true then A else B := by
  rw [hc, if_neg Bool.false_ne_true]
  exact h
section
variable {H : Hp} {d cs : Addr} {l m t : Int}
theorem g_cells (hd : H d = some (.dK (srcK cs l m t))) : DGet H d (.str "cells") (some (.ref cs)) := by
  have := DGet.k (k := (Sum.inr "cells" : Key)) hd
  rw [src_cells] at this
  exact this
theorem g_left (hd : H d = some (.dK (srcK cs l m t))) : DGet H d (.str "left") (some (.int l)) := by
  have := DGet.k (k := (Sum.inr "left" : Key)) hd
  rw [src_left] at this
  exact this
theorem g_mixed (hd : H d = some (.dK (srcK cs l m t))) : DGet H d (.str "mixed") (some (.int m)) := by
  have := DGet.k (k := (Sum.inr "mixed" : Key)) hd
  rw [src_mixed] at this
  exact this
theorem g_turn (hd : H d = some (.dK (srcK cs l m t))) : DGet H d (.str "turn") (some (.int t)) := by
  have := DGet.k (k := (Sum.inr "turn" : Key)) hd
  rw [src_turn] at this
  exact this
theorem p_left (l2 : Int) (hd : H d = some (.dK (srcK cs l m t))) : DPut H d (.str "left") (.int l2) (upd H d (.dK (srcK cs l2 m t))) := by
  have := DPut.k (k := (Sum.inr "left" : Key)) (v := .int l2) hd (by show 4 < sizeLine; decide)
  rw [put_left] at this
  exact this
theorem p_turn (t2 : Int) (hd : H d = some (.dK (srcK cs l m t))) : DPut H d (.str "turn") (.int t2) (upd H d (.dK (srcK cs l m t2))) := by
  have := DPut.k (k := (Sum.inr "turn" : Key)) (v := .int t2) hd (by show 4 < sizeLine; decide)
  rw [put_turn] at this
  exact this
end
structure TxtO (K : PySem.W.Frag) (mg : Str → Option Value) (fOpen fPick : Addr) (dOpen dPick : FuncData) : Prop where
  FOpen : Fun K "_law_open_cells" "_law_open_cells" sOpen fOpen dOpen
  bOpen : Binds K dOpen ["_law_script"] []
  gOpen : mg "_law_open_cells" = some (.ref fOpen)
  FPick : Fun K "_law_pick" "_law_pick" sPick fPick dPick
  bPick : Binds K dPick ["_law_source", "_law_most"] []
  gPick : mg "_law_pick" = some (.ref fPick)
  abs : mg "abs" = none
  int : mg "int" = none
  len : mg "len" = none
section
variable {P : Program} {w : World} {K : PySem.W.Frag} {mg : Str → Option Value} {base : Heap} {fOpen fPick : Addr} {dOpen dPick : FuncData}
theorem ok_pick (T : TxtO K mg fOpen fPick dOpen dPick) : FnOk P w K mg base CX0 1 fPick dPick ["_law_source", "_law_most"] spPick := by
  refine T.FPick.ok scPick (fun vs H Q E h => ?_) (fun cdv A outer s H vs Q E hr h => ?_)
  · obtain ⟨d, cs, most, rfl, _⟩ := h
    rfl
  · obtain ⟨d, cs, most, rfl, ⟨zs, l, m, t, hd, hcs, hzl, hz, hl, hm, ht⟩, hmo, k⟩ := h
    have hu := hu_of hr
    have ncd : cs ≠ d := ne_of hcs hd (by intro z; cases z)
    refine ⟨_, pss_cons (ps_if (pt_cmpR op_lt (pv 1) pe_int (nomark _)) (pss_one (ps_ret pe_int)) pss_nil)
      (pss_cons (ps_set (i := 2) scPick.nd rfl (.inl rfl) (pe_dget hu (pv 0) pe_str (fun _ _ => rfl)))
      (pss_cons (ps_while PassesOwn.never (pw_and (pt_cmpR op_lt (pe_dget hu (pv 0) pe_str (fun _ _ => rfl)) pe_int (nomark _)) (pw_and1 (pt_cmpR op_gt (pe_callB call_len_seq (by rfl) T.len PySem.boot_len (pa_cons (pv 2) pa_nil)) pe_int (nomark _)))).pt
        (pss_one (ps_dput hu (pv 0) pe_str (pe_bm0 PySem.F.plainAttrs_list PySem.F.slot_list_pop PySem.F.type_list_pop mt_pop (pv 2)) rfl)))
      (pss_cons (ps_set (i := 3) scPick.nd rfl (.inl rfl) (pe_dget hu (pv 0) pe_str (fun _ _ => rfl)))
      (pss_cons (ps_if (pt_cmpR op_gt (pv 3) pe_int (nomark _))
        (pss_cons (ps_dput hu (pv 0) pe_str (pe_op op_fdiv (pv 3) (pv 1)) rfl)
        (pss_one (ps_ret (pe_op op_mod (pe_callTy call_int1 (by rfl) T.int PyProof.Rows.boot_int (pa_cons (pv 3) pa_nil)) (pv 1))))) pss_nil)
      (pss_cons (ps_dput hu (pv 0) pe_str (pe_op op_add (pe_dget hu (pv 0) pe_str (fun _ _ => rfl)) pe_int) rfl)
      (pss_cons (ps_set (i := 4) scPick.nd rfl (.inl rfl) (pe_dget hu (pv 0) pe_str (fun _ _ => rfl)))
      (pss_cons (ps_set (i := 5) scPick.nd rfl (.inl rfl) (pe_op op_mod (pe_callTy call_int1 (by rfl) T.int PyProof.Rows.boot_int (pa_cons (pe_op op_add (pe_dget hu (pv 0) pe_str (fun _ _ => rfl)) (pe_op op_mul (pv 4) pe_int)) pa_nil)) pe_int))
      (pss_cons (ps_set (i := 5) scPick.nd rfl (.inl rfl) (pe_op op_mod (pe_callTy call_int1 (by rfl) T.int PyProof.Rows.boot_int (pa_cons (pe_op op_add (pe_op op_mul (pv 5) (pv 5)) (pe_op op_mul (pv 4) pe_int)) pa_nil)) pe_int))
      (pss_one (ps_ret (pe_op op_mod (pe_callTy call_int1 (by rfl) T.int PyProof.Rows.boot_int (pa_cons (pe_op op_fdiv (pv 5) pe_int) pa_nil)) (pv 1)))))))))))), ?_⟩
    -- if most < 2
    refine ⟨_, rfl, _, _, rfl, rfl, _, rfl, ?_⟩
    by_cases h2 : most < 2
    · refine ifT (decide_eq_true h2) ?_
      exact k 0 H (fun _ => rfl) (fun z => absurd h2 (by omega)) ⟨zs, l, m, t, hd, hcs, hzl, hz, hl, hm, ht⟩ fun b o _ _ e => e
    · refine ifF (decide_eq_false h2) ?_
      refine ⟨_, rfl, d, _, rfl, g_cells hd, ?_⟩
      refine ⟨fun n σ H' => ∃ (zs : List Int) (l : Int), n = zs.length ∧ σ = [some (.ref d), some (.int most), some (.ref cs), none, none, none] ∧ H' d = some (.dK (srcK cs l m t)) ∧ H' cs = some (.lst (zs.map V.int)) ∧ zs.length ≤ 100 ∧ (∀ z ∈ zs, 0 ≤ z) ∧ 0 ≤ l ∧ (∀ b o, b ≠ d → b ≠ cs → H b = some o → H' b = some o),
        ⟨_, zs, l, rfl, rfl, hd, hcs, hzl, hz, hl, fun b o _ _ e => e⟩, fun n σ H' hW => ?_⟩
      clear hd hcs hzl hz hl
      obtain ⟨zs, l, rfl, rfl, hd, hcs, hzl, hz, hl, hk⟩ := hW
      suffices fin : _ by
        refine ⟨_, rfl, d, _, rfl, g_left hd, _, _, rfl, rfl, _, rfl, ?_⟩
        by_cases c1 : l < 2
        · refine ifT (decide_eq_true c1) ?_
          refine ⟨_, rfl, cs, _, rfl, .inl (.inl (.inl hcs)), _, _, rfl, rfl, _, rfl, ?_⟩
          rw [List.length_map]
          by_cases c2 : zs = []
          · subst c2
            exact ifF rfl fin
          · have hpos : 0 < zs.length := List.length_pos_iff.mpr c2
            refine ifT (decide_eq_true (by omega)) ?_
            refine ⟨fun σ' H'' => ∃ (zs' : List Int) (l : Int), zs'.length < zs.length ∧ σ' = [some (.ref d), some (.int most), some (.ref cs), none, none, none] ∧ H'' d = some (.dK (srcK cs l m t)) ∧ H'' cs = some (.lst (zs'.map V.int)) ∧ zs'.length ≤ 100 ∧ (∀ z ∈ zs', 0 ≤ z) ∧ 0 ≤ l ∧ (∀ b o, b ≠ d → b ≠ cs → H b = some o → H'' b = some o), fun σ' H'' hN => ?_, ?_⟩
            · obtain ⟨zs', l', h1, h3⟩ := hN
              exact ⟨zs'.length, h1, zs', l', rfl, h3⟩
            have hlast : (zs.map V.int)[(zs.map V.int).length - 1]? = some (.int (zs.getLast c2)) := by
              rw [List.length_map, List.getElem?_map, ← List.getLast?_eq_getElem?, List.getLast?_eq_getLast c2]
              rfl
            refine ⟨_, rfl, .inl ⟨rfl, _, .inl (.inl hcs)⟩, cs, _, _, rfl, rfl, hcs, hlast, _, rfl, d, _, rfl, p_left _ (by rw [upd_ne ncd.symm]; exact hd), ?_⟩
            refine ⟨zs.dropLast, zs.getLast c2, ?_, rfl, upd_same, ?_, ?_, ?_, hz _ (List.getLast_mem c2), fun b o h1 h3 e => ?_⟩
            · rw [List.length_dropLast]
              omega
            · rw [upd_ne ncd, upd_same, List.map_dropLast]
            · rw [List.length_dropLast]
              omega
            · exact fun z hzm => hz z (List.dropLast_subset zs hzm)
            · rw [upd_ne h1, upd_ne h3]
              exact hk b o h1 h3 e
        · exact ifF (decide_eq_false c1) fin
      have old : ∀ (H2 : Hp), (∀ b, b ≠ d → H2 b = H' b) → ∀ b o, b ≠ d → b ≠ cs → H b = some o → H2 b = some o := fun H2 h b o h1 h3 e => (h b h1).trans (hk b o h1 h3 e)
      refine ⟨_, rfl, d, _, rfl, g_left hd, ?_⟩
      refine ⟨_, rfl, _, _, rfl, rfl, _, rfl, ?_⟩
      by_cases c3 : 1 < l
      · refine ifT (decide_eq_true c3) ?_
        refine ⟨_, rfl, _, rfl, _, _, rfl, rfl, ⟨by omega, hmo⟩, _, rfl, d, _, rfl, p_left _ hd, ?_⟩
        refine ⟨_, rfl, .inl ⟨_, rfl, _, rfl, _, _, rfl, rfl, (by show (0 : Int) < most; omega), ?_⟩⟩
        refine k _ _ (fun z => absurd z h2) (fun _ => ⟨Int.emod_nonneg _ (by omega), Int.emod_lt_of_pos _ (by omega)⟩) ⟨zs, l / most, m, t, upd_same, by rw [upd_ne ncd]; exact hcs, hzl, hz, Int.ediv_nonneg hl (by omega), hm, ht⟩ (old _ fun b hb => upd_ne hb)
      · refine ifF (decide_eq_false c3) ?_
        refine ⟨_, rfl, d, _, rfl, g_turn hd, _, _, rfl, rfl, _, rfl, d, _, rfl, p_turn _ hd, ?_⟩
        generalize hH2 : upd H' d (.dK (srcK cs l m (t + 1))) = H2
        have hd2 : H2 d = some (.dK (srcK cs l m (t + 1))) := by rw [← hH2, upd_same]
        have hcs2 : H2 cs = some (.lst (zs.map V.int)) := by rw [← hH2, upd_ne ncd]; exact hcs
        have ho2 := old H2 fun b hb => by rw [← hH2, upd_ne hb]
        clear hH2
        refine ⟨_, rfl, d, _, rfl, g_turn hd2, ?_⟩
        refine ⟨_, rfl, d, _, rfl, g_mixed hd2, _, rfl, _, _, rfl, rfl, .inr ⟨by decide, by decide⟩, _, _, rfl, rfl, .inl ⟨_, rfl, _, _, rfl, rfl, (by show (0 : Int) < 998244353; decide), ?_⟩⟩
        have b1 := Int.emod_nonneg (m + (t + 1) * 104729) (show (998244353 : Int) ≠ 0 by decide)
        have b2 := Int.emod_lt_of_pos (m + (t + 1) * 104729) (show (0 : Int) < 998244353 by decide)
        generalize (m + (t + 1) * 104729) % 998244353 = z1 at b1 b2 ⊢
        refine ⟨_, rfl, _, rfl, _, _, rfl, rfl, .inl ⟨by omega, by omega⟩, _, rfl, _, _, rfl, rfl, .inr ⟨by decide, by decide⟩, _, _, rfl, rfl, .inl ⟨_, rfl, _, _, rfl, rfl, (by show (0 : Int) < 2147483647; decide), ?_⟩⟩
        generalize (z1 * z1 + (t + 1) * 17) % 2147483647 = z2
        refine ⟨_, rfl, _, _, rfl, rfl, ⟨by decide, by decide⟩, .inl ⟨_, rfl, _, rfl, _, _, rfl, rfl, (by show (0 : Int) < most; omega), ?_⟩⟩
        exact k _ _ (fun z => absurd z h2) (fun _ => ⟨Int.emod_nonneg _ (by omega), Int.emod_lt_of_pos _ (by omega)⟩) ⟨zs, l, m, t + 1, hd2, hcs2, hzl, hz, hl, hm, by omega⟩ ho2
theorem ok_open (T : TxtO K mg fOpen fPick dOpen dPick) : FnOk P w K mg base CX0 1 fOpen dOpen ["_law_script"] (spOpen K) := by
  refine T.FOpen.ok scOpen (fun vs H Q E h => ?_) (fun cdv A outer s H vs Q E hr h => ?_)
  · obtain ⟨a, ns, rfl, _⟩ := h
    rfl
  · obtain ⟨a, ns, rfl, ha, hl, k⟩ := h
    have hu := hu_of hr
    refine ⟨_, pss_cons (ps_set (i := 1) scOpen.nd rfl (.inl rfl) pe_int)
      (pss_cons (ps_for PassesOwn.never rfl (pi_list (pv 0)) (pg_name (i := 2) scOpen.nd rfl (.inl rfl))
        (pss_one (ps_set (i := 1) scOpen.nd rfl (.inl rfl) (pe_op op_mod (pe_callTy call_int1 (by rfl) T.int PyProof.Rows.boot_int (pa_cons (pe_op op_add (pe_op op_add (pe_op op_mul (pv 1) pe_int) (pe_op op_mul (pv 2) pe_int)) pe_int) pa_nil)) pe_int))))
      (pss_cons (ps_setLc (i := 3) (own := [("_law_cell", 2)]) (g := gName 2) (tt := tYes) rfl scOpen.nd rfl rfl (sw_true rfl rfl rfl (by decide +kernel)) (pi_list (pv 0)) (blkOk_by (N := ["_law_script", "_law_stirred", "_law_cell", "_law_cells"]) (sc := defScope sOpen) (by decide +kernel))
          (fun _ _ _ _ _ => pg_name (i := 2) scOpen.nd rfl (.inl rfl)) (fun _ _ _ _ _ => pts_nil) (fun _ _ _ _ _ => pe_callB call_abs (by rfl) T.abs PyProof.Rows.boot_abs (pa_cons (pv 2) pa_nil)))
      (pss_one (ps_ret (pe_disp (pps_cons pe_str (pe_revL (pv 3)) (pps_cons pe_str pe_int (pps_cons pe_str (pv 1) (pps_cons pe_str pe_int pps_nil)))) rfl rfl (by decide) (by decide)))))), ?_⟩
    -- the loop
    refine ⟨_, rfl, a, rfl, ⟨_, ha⟩, for_list (K := K) (a := a) (xs := ns.map V.int) (fun i σ H' => ∃ (st : Int) (v : Option V), σ = [some (.ref a), some (.int st), v, none] ∧ 0 ≤ st ∧ H' = H) ⟨11, none, rfl, by decide, rfl⟩ (fun i σ H' _ h => ?_) (fun i x σ H' hx h => ?_) (fun σ H' h => ?_)⟩
    · obtain ⟨st, v, rfl, _, rfl⟩ := h
      exact ha
    · obtain ⟨st, v, rfl, h0, rfl⟩ := h
      obtain ⟨z, hz, rfl⟩ : ∃ z, ns[i]? = some z ∧ x = V.int z := by
        rw [List.getElem?_map] at hx
        cases e : ns[i]? with
        | none =>
          rw [e] at hx
          cases hx
        | some z =>
          rw [e] at hx
          exact ⟨z, rfl, (Option.some.inj hx).symm⟩
      refine ⟨_, rfl, _, _, rfl, rfl, .inr ⟨by decide, by decide⟩, _, rfl, _, _, rfl, rfl, .inr ⟨by decide, by decide⟩, _, _, rfl, rfl, _, _, rfl, rfl, .inl ⟨_, rfl, _, _, rfl, rfl, (by show (0 : Int) < 2147483629; decide), _, some (.int z), rfl, Int.emod_nonneg _ (by decide), rfl⟩⟩
    obtain ⟨st, v, rfl, h0, rfl⟩ := h
    -- the cells
    let ab : Int → Int := fun i => if i < 0 then -i else i
    refine ⟨_, rfl, a, rfl, ⟨_, ha⟩, fun D hD => ?_⟩
    have hseq : ∀ i, SqL K (upd H' D (.lst (((ns.take i).map ab).map V.int))) a (ns.map V.int) := fun i => (show Same H' (upd H' D (.lst (((ns.take i).map ab).map V.int))) from fun b o e => by
      rw [upd_ne (ne_of_none e hD)]
      exact e).seq ha
    refine lc_list (K := K) (a := a) (xs := ns.map V.int) (fun i H2 => H2 = upd H' D (.lst (((ns.take i).map ab).map V.int))) rfl (fun i H2 _ h => ?_) (fun i x H2 hx h => ?_) (fun H2 h => ?_)
    · rw [h]
      exact hseq i
    · obtain ⟨z, hz, rfl⟩ : ∃ z, ns[i]? = some z ∧ x = V.int z := by
        rw [List.getElem?_map] at hx
        cases e : ns[i]? with
        | none =>
          rw [e] at hx
          cases hx
        | some z =>
          rw [e] at hx
          exact ⟨z, rfl, (Option.some.inj hx).symm⟩
      have hlt := (List.getElem?_eq_some_iff.mp hz).1
      subst h
      refine ⟨rfl, ?_⟩
      refine ⟨_, rfl, z, rfl, _, upd_same, ?_, ?_⟩
      · rw [List.length_map, List.length_map, List.length_take, sizeLine_eq]
        omega
      · rw [upd_upd, List.take_add_one, hz, List.map_append, List.map_append]
        rfl
    · rw [List.length_map, List.take_length] at h
      subst h
      -- the dict
      have hz : ∀ z ∈ (ns.map ab).reverse, (0 : Int) ≤ z := fun z hm => by
        obtain ⟨y, hy, rfl⟩ := List.mem_map.mp (List.mem_reverse.mp hm)
        show 0 ≤ (if y < 0 then -y else y)
        split <;> omega
      refine fun p hp => ?_
      have npD : D ≠ p := ne_of_none upd_same hp
      have hDp : upd (upd H' D (.lst ((ns.map ab).map V.int))) p (.dK []) D = some (.lst ((ns.map ab).map V.int)) := by rw [upd_ne npD, upd_same]
      refine ⟨_, rfl, D, _, rfl, .inl (.inl hDp), fun cs hcs => ?_⟩
      have npc : p ≠ cs := ne_of_none upd_same hcs
      have nDc : D ≠ cs := ne_of_none hDp hcs
      have hcs0 : H' cs = none := by
        rw [upd_ne npc.symm, upd_ne nDc.symm] at hcs
        exact hcs
      have hp0 : H' p = none := by
        rw [upd_ne npD.symm] at hp
        exact hp
      refine ⟨_, rfl, by rw [upd_ne npc, upd_same], srcK cs 1 st 0, rfl, (by show 4 ≤ 15; decide), ?_⟩
      rw [merge_src]
      refine k p cs _ (fun b o e => ?_) hp0 hcs0 ⟨(ns.map ab).reverse, 1, st, 0, upd_same, by rw [upd_ne npc.symm, upd_same, List.map_reverse], by rw [List.length_reverse, List.length_map]; omega, hz, by decide, h0, by decide⟩
      rw [upd_ne (ne_of_none e hp0), upd_ne (ne_of_none e hcs0), upd_ne (ne_of_none e hp0), upd_ne (ne_of_none e hD)]
      exact e
end
end G4

set_option Elab.async false
set_option linter.all false
set_option maxRecDepth 100000
set_option maxHeartbeats 4000000
namespace G4
open PySem PySem.Spec PyProof.Rows L2
section
variable {X : Cx} {pins : List (Addr × Obj)} {σ : L2.St} {H : Hp} {s : Shared}
/-- what a generator expression walks: the value v, told at the heap H1; n items, each as Pf says -/
def Src (X : Cx) (pins : List (Addr × Obj)) (σ : L2.St) (v : V) (H1 : Hp) (P : Addr) (n : Nat) (Pf : Nat → Value → Prop) : Prop :=
  ∀ (s1 : Shared) (xv : Value), Inv X pins σ H1 s1 → RelV v xv → ∃ (fp0 : List Addr) (o : Obj) (St0 : Nat → Heap → Prop) (tk : Nat),
    (∀ Q : Value → Shared → Prop, Q (.ref s1.heap.objs.size) { s1 with heap := s1.heap.push o, toks := tk } → wpAny (model X.prog X.w) X.A (pyIter xv) Q X.xe s1) ∧
    (∀ b ∈ fp0, b < s1.heap.objs.size ∧ b ≠ P) ∧
    (∀ A' : Around, A'.handled = none → Walks X.prog X.w A' s1.heap.objs.size (s1.heap.objs.size :: fp0) [s1.heap.objs.size] n Pf St0) ∧
    (∀ h3 : Heap, (∀ b ∈ s1.heap.objs.size :: fp0, ∀ u, (s1.heap.push o).get? b = some u → h3.get? b = some u) → St0 0 h3)
/-- the generator g, ready to be walked -/
def GenUp (X : Cx) (pins : List (Addr × Obj)) (σ : L2.St) (H1 : Hp) (P : Addr) (n : Nat) (F : Nat → Value → Prop) (g : Addr) (s5 : Shared) : Prop :=
  ∃ (fp wr : List Addr) (G : Array GenState → Array GenState → Prop) (Pg : Nat → Value → Prop) (St : Nat → Shared → Prop),
    WalksS X.prog X.w X.A.in4 g fp wr G n Pg St ∧ (∀ j y, Pg j y → F j y) ∧ St 0 s5 ∧ (∀ b ∈ fp, b < s5.heap.objs.size) ∧ g ∈ fp ∧ (∀ i s9, St i s9 → s9.TypeIs (.ref g) "generator") ∧
    ∀ s', Moved wr G s5 s' → ∃ H2, GxR.Tabbed P H1 H2 ∧ Inv X pins σ H2 s'
/-- the element, at item i, in the generator's own frame; the def's cells stand as they stood -/
def EltG (X : Cx) (scope : Scope) (x : Str) (elt : Expr) (s1 : Shared) (P : Addr) (Pf : Nat → Value → Prop) (F : Nat → Value → Prop) : Prop :=
  ∀ (cenv : Env) (A' : Around) (E' : Value → Shared → Prop) (i : Nat) (v : Value) (s2 : Shared) (m2 : Str → Option Value), cenv.scope = scope → cenv.cells = cloFrom X.env.cells scope.names [] → cenv.globals = X.env.globals → A'.handled = none → Pf i v → s2.heap.Ns cenv.locals m2 → m2 x = some v →
    (∀ b o, b ≠ P → s1.heap.get? b = some o → s2.heap.get? b = some o) → wpAny (model X.prog X.w) A' (eval elt cenv) (fun y s3 => F i y ∧ Keeps s2 s3) E' s2
theorem gen_up {c P : Addr} {elt iter : Expr} {x : Str} {px gpos : Pos} {scope : Scope} {te : TE} {k : Nat} {Qg : Value → Shared → Prop} {R : V → Hp → Prop} {W : Nat → (Nat → Value → Prop) → Hp → Prop}
    (hr : Room k X.A) (TB : GxR.TabB X.base X.mg c P) (hcode : X.env.code = .ref c) (S : GxR.GenS X.env scope x) (hi : PE X iter te) (hs : ∀ v, genFold iter X.env v = pure v)
    (I : Inv X pins σ H s) (h : te σ H R) (hR : ∀ v H1, R v H1 → ∃ (n : Nat) (Pf F : Nat → Value → Prop), GxR.TabG H1 P ∧ Src X pins σ v H1 P n Pf ∧ (∀ s1, Inv X pins σ H1 s1 → EltG X scope x elt s1 P Pf F) ∧ W n F H1)
    (hQ : ∀ n F H1 g s5, W n F H1 → GenUp X pins σ H1 P n F g s5 → Qg (.ref g) s5) :
    wpAny (model X.prog X.w) X.A (eval (.GeneratorExp elt [⟨.Name x px, iter, [], 0⟩] scope gpos) X.env) Qg X.xe s := by
  refine wpAny_GeneratorExp_walksQ hr.hd S.co (closure_ok S.free) S.cell S.dot S.loc S.kind (by have := hr.dp; omega) ?_ hs
  refine thn (hi.run pins s σ H _ I h) fun xv s1 hxv => ?_
  obtain ⟨v, H1, I1, rv, hRv⟩ := hxv
  obtain ⟨n, Pf, F, ⟨ps, hP, hps⟩, hsrc, hel, hW⟩ := hR v H1 hRv
  obtain ⟨fp0, o, St0, tk0, hit, hfp0, hwalk, hst⟩ := hsrc s1 xv I1 rv
  refine hit _ ?_
  have tabAt : s1.heap.get? P = some { cls := .none, data := .fields ps } := I1.hok P _ hP
  have Plt : P < s1.heap.objs.size := Heap.lt_size tabAt
  have tabAt2 : (s1.heap.push o).get? P = some { cls := .none, data := .fields ps } := Heap.get?_push_of_some _ tabAt
  have codeHd : PySem.W.CodeHd (s1.heap.push o) c P := TB.code.keeps fun b u e => Heap.get?_push_of_some _ (I1.bk b u e)
  have noLim : (s1.heap.push o).NoLimit := I1.nolimit.push o
  have elt1 := hel s1 I1
  refine ⟨noLim, ?_⟩
  -- whichever way the code object comes
  suffices way : ∀ (code : Value) (h3 : Heap) (tk : Nat) (qs : Array Value), Heap.ExtBut P (s1.heap.push o) h3 → s1.heap.objs.size + 1 ≤ h3.objs.size → h3.get? P = some { cls := .none, data := .fields qs } → (∃ more, qs = ps ++ more) → TriplesOk qs.toList →
      wpAny (model X.prog X.w) X.A (builtinsFor X.env.globals X.env.builtins) _ X.xe { s1 with heap := h3, toks := tk } by
    cases hf : codeAmong gpos ps.toList with
    | some cv =>
      refine wpAny_genexprCode_hit hcode (codeHd.code tabAt2 hps) hf ?_
      exact way cv (s1.heap.push o) _ ps (Heap.ExtBut.refl _ _) (by rw [Heap.size_push]; exact Nat.le_refl _) tabAt2 ⟨#[], by simp⟩ hps
    | none =>
      refine wpAny_genexprCodeX hcode (codeHd.code tabAt2 hps) (codeHd.tab tabAt2) hf fun c' h' tk hx hge hlt hco' _ htab' _ => ?_
      obtain ⟨o1, vs, f1, tf, fl, tg, inF, tx, tt, op, _, _, _, _, _, _, _, _, _, htr, _⟩ := hco'
      exact way _ h' tk _ hx (by have e := Nat.le_trans hge (Nat.le_of_lt hlt); rw [Heap.size_push] at e; exact e) htab'.2 ⟨_, rfl⟩ htr
  intro code h3 tk qs hx hsz hP3 hmore hqs
  obtain ⟨bm, ob, e1, e2, e3, e4, e5, e6, e7, e8⟩ := TB.bm
  have ncP : cStatics ≠ P := fun e => by
    obtain ⟨_, ⟨o', es, ep, ho, hd, _⟩, _⟩ := I1.nolimit
    rw [e, tabAt] at ho
    cases ho
    cases hd
  have clt : cStatics < s1.heap.objs.size := let ⟨_, hns, _⟩ := I1.nolimit; hns.lt
  have keep3 : ∀ b u, b ≠ P → s1.heap.get? b = some u → h3.get? b = some u := fun b u hb e => hx b u hb (Heap.get?_push_of_some _ e)
  refine wpAny_builtinsFor (m := X.mg) (by rw [I1.ok.glob]; exact ((I1.mod.glob.keeps I1.bk).push o).extBut hx TB.gP) e1 e2 (keep3 _ _ e4 (I1.bk _ _ e5)) e6 e7 e8 ?_
  refine ⟨s1.heap.objs.size, s1.heap.objs.size :: fp0, [s1.heap.objs.size], n, Pf, St0, (fun _ => true), F, rfl, hwalk, ?_, ?_, noLim.extBut hx ncP, ?_, ?_, ?_⟩
  · refine hst h3 fun b hb u e => hx b u ?_ e
    rcases List.mem_cons.mp hb with z | z
    · rw [z]
      exact Nat.ne_of_gt Plt
    · exact (hfp0 b z).2
  · intro b hb
    show b < h3.objs.size
    rcases List.mem_cons.mp hb with z | z
    · rw [z]
      exact hsz
    · exact Nat.lt_of_lt_of_le (hfp0 b z).1 (Nat.le_of_succ_le hsz)
  · intro z
    rcases List.mem_cons.mp z with z | z
    · exact Nat.ne_of_lt clt z
    · cases z
  · intro href hh
    refine ⟨fun A' E' i v' s2 m2 hA hPv hn hm hk => ?_, fun A' E' i v' s2 m2 hA hPv hp hn hm hk => ?_⟩
    · simp only [List.forIn_nil]
      exact wpAny_pure ⟨rfl, GxR.keeps_refl _⟩
    · refine elt1 _ A' E' i v' s2 m2 rfl rfl rfl hA hPv hn hm fun b u hb e => ?_
      have hlt : b < h3.objs.size := Nat.lt_of_lt_of_le (Heap.lt_size e) (Nat.le_of_succ_le hsz)
      refine hk b (List.mem_range.mpr hlt) (fun z => ?_) u (hh b u (keep3 b u hb e))
      rcases List.mem_cons.mp z with z | z
      · exact Nat.ne_of_lt (Heap.lt_size e) z
      · cases z
  · intro g h5 tk5 gs hgb hag hsz5 hk5 W5 hgat
    simp only [GxR.passing_true, List.length_range] at W5
    have hnw : ∀ b u, s1.heap.get? b = some u → b ∉ h3.objs.size :: [s1.heap.objs.size] := fun b u e hb => by
      have hl := Heap.lt_size e
      rcases List.mem_cons.mp hb with z | z
      · rw [z] at hl
        exact absurd (show h3.objs.size < s1.heap.objs.size from hl) (by omega)
      · rcases List.mem_cons.mp z with z | z
        · rw [z] at hl
          exact Nat.lt_irrefl _ hl
        · cases z
    refine hQ n F H1 g _ hW ⟨_, _, _, _, _, W5, fun j y hy => ?_, hgat, ?_, List.mem_cons_self, fun i s9 h9 => h9.1.typeIs, fun s' hm => ?_⟩
    · obtain ⟨i, hij, hF⟩ := hy
      obtain ⟨hj, ej⟩ := List.getElem?_eq_some_iff.mp hij
      rw [List.getElem_range] at ej
      rw [ej]
      exact hF
    · intro b hb
      show b < h5.objs.size
      have a1 : h5.objs.size = g + 1 := hsz5
      have a2 : h3.objs.size < g := hag
      rw [a1]
      rcases List.mem_cons.mp hb with z | z
      · rw [z]
        exact Nat.lt_succ_self g
      · rcases List.mem_cons.mp z with z | z
        · rw [z]
          exact Nat.lt_succ_of_lt a2
        · have a3 : b < h3.objs.size := List.mem_range.mp z
          exact Nat.lt_succ_of_lt (Nat.lt_trans a3 a2)
    · obtain ⟨more, em⟩ := hmore
      have J := GxR.inv_tab (more := more) (h' := s'.heap) (g' := s'.gens) (d' := s'.drawn) (t' := s'.toks) I1 hP (fun b u hb e => hm.heap b u (hnw b u e) (hk5 b u (keep3 b u hb e)))
        (by rw [← em]; exact hm.heap P _ (hnw P _ tabAt) (hk5 P _ hP3)) (AllBare.movedS (I1.bare.push hgb) hm)
      rw [GxR.sh_eta s1 s' hm.os] at J
      exact ⟨upd H1 P (.tbl (ps ++ more)), ⟨⟨ps ++ more, upd_same, by rw [← em]; exact hqs⟩, fun b hb => upd_ne hb⟩, J⟩
end
end G4

set_option Elab.async false
set_option linter.all false
set_option maxRecDepth 100000
set_option maxHeartbeats 4000000
namespace G4
open PySem PySem.Spec PyProof.Rows L2
section
variable {X : Cx} {pins : List (Addr × Obj)} {σ : L2.St} {H : Hp} {s : Shared}
/-- a captured name, in the generator's frame -/
theorem free_look {scope : Scope} {s1 : Shared} {H1 : Hp} {i : Nat} {y : Str} {v : V} {P : Addr} {ps : Array Value} (I : Inv X pins σ H1 s1) (hP : H1 P = some (.tbl ps)) (hN : X.N[i]? = some y) (hσ : σ[i]? = some (some v)) (hk : X.env.kindOf y = some .cell) (hf : (y, NameKind.free) ∈ scope.names)
    (hl : scope.names.lookup y = some NameKind.free) : ∃ c u, RelV v u ∧ (cloFrom X.env.cells scope.names []).lookup y = some c ∧
    ∀ s2 : Shared, (∀ b o, b ≠ P → s1.heap.get? b = some o → s2.heap.get? b = some o) → s2.heap.IsCell c (some u) := by
  obtain ⟨m, hn, hlk⟩ := I.loc
  obtain ⟨u, r, l⟩ := hlk i y v hN hσ (.inr (.inl hk))
  rcases l with ⟨hk2, _⟩ | ⟨_, c, hc, hcell⟩
  · rw [hk] at hk2
    cases hk2
  · have hm := cloFrom_has (cells := X.env.cells) (acc := []) hf
    have hc0 : (X.env.cells.lookup y).getD 0 = c := by rw [hc] <;> rfl
    rw [hc0] at hm
    have uni : ∀ d, (y, d) ∈ cloFrom X.env.cells scope.names [] → d = c := fun d hd => by
      rcases cloFrom_mem hd with z | ⟨_, z⟩
      · cases z
      · first
          | (rw [← hc0]; exact z.symm)
          | (rw [← hc0]; exact z)
          | (rw [← hc0]; simpa using z)
    have look : ∀ l : List (Str × Addr), (∀ d, (y, d) ∈ l → d = c) → (y, c) ∈ l → l.lookup y = some c := by
      intro l
      induction l with
      | nil => intro _ h; cases h
      | cons p l ih =>
        obtain ⟨n, d⟩ := p
        intro hu h
        by_cases e : y = n
        · subst e
          rw [hu d List.mem_cons_self]
          simp [List.lookup]
        · have e2 : (y == n) = false := by simpa using e
          have h2 : (y, c) ∈ l := by
            rcases List.mem_cons.mp h with z | z
            · exact absurd (Prod.mk.inj z).1 e
            · exact z
          simp only [List.lookup, e2]
          exact ih (fun d hd => hu d (List.mem_cons_of_mem _ hd)) h2
    refine ⟨c, u, r, look _ uni hm, fun s2 hk2 => ?_⟩
    obtain ⟨o, ho, hd⟩ := hcell
    refine ⟨o, hk2 c o (fun z => ?_) ho, hd⟩
    have := I.freeC y c hc
    rw [z, hP] at this
    cases this
/-- a tuple of texts is walked -/
def PfT (ws : List Str) : Nat → Value → Prop := fun i v => ∃ (a : Str) (t : Tok), ws[i]? = some a ∧ v = .str a t
theorem src_tuple {H1 : Hp} {P tp : Addr} {ps : Array Value} {ws : List Str} (hP : H1 P = some (.tbl ps)) (ht : SqT X.K H1 tp (ws.map V.str)) : Src X pins σ (.ref tp) H1 P ws.length (PfT ws) := by
  intro s1 xv I1 rv
  obtain rfl : xv = Value.ref tp := rv
  obtain ⟨its, rvs, hT, hz⟩ := I1.tuple ht
  have hlen : its.length = ws.length := by rw [← rvs.length, List.length_map]
  have tlt : tp < s1.heap.objs.size := by
    obtain ⟨_, e, _⟩ := id hT
    exact Heap.lt_size e
  have tabAt : s1.heap.get? P = some { cls := .none, data := .fields ps } := I1.hok P _ hP
  have tne : tp ≠ P := fun z => by
    obtain ⟨_, e, hc, n, hd⟩ := id hT
    rw [z, tabAt] at e
    cases e
    cases hd
  refine ⟨[tp], _, (fun i h => h.IsTupleIter s1.heap.objs.size tp i ∧ h.IsTuple tp its.toArray), _, fun Q hQ => wpAny_pyIter_tuple hT hQ, fun b hb => ?_, fun A' hA => ?_, fun h3 hk => ⟨?_, ?_⟩⟩
  · obtain rfl : b = tp := by simpa using hb
    exact ⟨tlt, tne⟩
  · have W := Walks.tuple (prog := X.prog) (w := X.w) hA s1.heap.objs.size tp (Nat.ne_of_lt tlt) its.toArray
    have esz : its.toArray.size = ws.length := by rw [List.size_toArray, hlen]
    rw [esz] at W
    refine ⟨W.sub, W.frame, fun i s Q E hi st hQ => W.item i s Q E hi st fun v h' tk hv => hQ v h' tk ?_, W.done, W.self⟩
    have hv2 : its[i]? = some v := by simpa using hv
    have hi2 : i < ws.length := hi
    have hb : (ws.map V.str)[i]? = some (V.str ws[i]) := by rw [List.getElem?_map, List.getElem?_eq_getElem hi2] <;> rfl
    obtain ⟨u, hu, ru⟩ := rvs.get hb
    rw [hv2] at hu
    cases hu
    obtain ⟨t, e⟩ := (show ∃ t, v = Value.str ws[i] t from ru)
    exact ⟨_, t, List.getElem?_eq_getElem hi2, e⟩
  · refine ⟨_, hk _ List.mem_cons_self _ (Heap.get?_push_size _ rfl), rfl, rfl⟩
  · obtain ⟨o, e, r⟩ := id hT
    exact ⟨o, hk tp (List.mem_cons_of_mem _ List.mem_cons_self) o (Heap.get?_push_of_some _ e), r⟩
/-- x.startswith(y), x the item, y a captured text -/
theorem elt_starts {scope : Scope} {x y : Str} {p1 p2 p3 p4 : Pos} {i : Nat} {lo : Str} {ws : List Str} {s1 : Shared} {H1 : Hp} {P : Addr} {ps : Array Value} (I : Inv X pins σ H1 s1) (hP : H1 P = some (.tbl ps)) (hN : X.N[i]? = some y) (hσ : σ[i]? = some (some (.str lo)))
    (hk : X.env.kindOf y = some .cell) (hf : (y, NameKind.free) ∈ scope.names) (hl : scope.names.lookup y = some NameKind.free) (hkind : scope.kind = .function) (hx : scope.names.lookup x = some .local)
    (hline : (p2.endLine == p4.line) = true) (hd : (x == ("__debug__" : Str)) = false := by decide) (hd2 : (y == ("__debug__" : Str)) = false := by decide) (hcd : (y == ("__classdict__" : Str)) = false := by decide) :
    EltG X scope x (.Call (.Attribute (.Name x p1) "startswith" p2) [.Name y p3] [] p4) s1 P (PfT ws) (fun j v => ∃ a, ws[j]? = some a ∧ v = .bool (Txt.startswith a lo)) := by
  intro cenv A' E' j v s2 m2 hs hc hg hA hPv hn hm hkeep
  obtain ⟨a, t, ha, rfl⟩ := hPv
  obtain ⟨c, u, ru, hcl, hcell⟩ := free_look (scope := scope) I hP hN hσ hk hf hl
  obtain ⟨tl, rfl⟩ := (show ∃ t, u = Value.str lo t from ru)
  have hk' : cenv.scope.kind = .function := by rw [hs]; exact hkind
  refine wpAny_Call_method_late (by rfl) (by rfl) hline rfl ?_
  refine wpAny_Name (wpAny_loadName_local hk' (show cenv.scope.names.lookup x = some .local by rw [hs]; exact hx) hn hm ?_) hd
  refine ⟨"str", _, PySem.F.plainAttrs_str, PySem.F.slot_str_startswith, PySem.F.type_str_startswith, typeIs_str _ _ _, (fun _ e => nomatch e), ?_⟩
  refine Calls.callWith_builtin (by rfl) (Calls.evalArgs_plain ?_)
  refine Calls.spliced_cons ?_
  refine wpAny_Name (wpAny_loadName_free hk' (show cenv.scope.names.lookup y = some .free by rw [hs]; exact hl) (by rw [hc]; exact hcl) (hcell s2 hkeep) ?_ hcd) hd2
  refine Calls.spliced_nil ?_
  exact PySem.SC.startswith ⟨⟨a, ha, rfl⟩, GxR.keeps_refl _⟩
/-- any(x.startswith(y) for x in e), e a tuple of texts, y the text in slot i -/
def tAnySt (K : PySem.W.Frag) (P : Addr) (i : Nat) (te : TE) : TE := fun σ H Q => te σ H fun v H1 => ∃ (tp : Addr) (ws : List Str) (lo : Str), v = .ref tp ∧ SqT K H1 tp (ws.map V.str) ∧ σ[i]? = some (some (.str lo)) ∧ GxR.TabG H1 P ∧
  ∀ H2, GxR.Tabbed P H1 H2 → Q (.bl (ws.any fun a => Txt.startswith a lo)) H2
def trS (lo : Str) (ws : List Str) (j : Nat) : Bool := match ws[j]? with
  | some a => Txt.startswith a lo
  | none => false
theorem any_trS (lo : Str) : ∀ ws : List Str, (List.range ws.length).any (trS lo ws) = ws.any fun a => Txt.startswith a lo := by
  intro ws
  rw [Bool.eq_iff_iff, List.any_eq_true, List.any_eq_true]
  constructor
  · rintro ⟨j, hj, h⟩
    have hj' := List.mem_range.mp hj
    unfold trS at h
    rw [List.getElem?_eq_getElem hj'] at h
    exact ⟨_, List.getElem_mem hj', h⟩
  · rintro ⟨b, hb, h⟩
    obtain ⟨j, hj, rfl⟩ := List.getElem_of_mem hb
    refine ⟨j, List.mem_range.mpr hj, ?_⟩
    unfold trS
    rw [List.getElem?_eq_getElem hj]
    exact h
theorem pe_anySt {c P : Addr} {iter : Expr} {x y : Str} {p px p1 p2 p3 p4 pos gpos : Pos} {scope : Scope} {te : TE} {k i : Nat}
    (hr : Room k X.A) (hg : Gl X "any") (hm : X.mg "any" = none) (TB : GxR.TabB X.base X.mg c P) (hcode : X.env.code = .ref c) (S : GxR.GenS X.env scope x) (hi : PE X iter te) (hs : ∀ v, genFold iter X.env v = pure v)
    (hN : X.N[i]? = some y) (hk : X.env.kindOf y = some .cell) (hf : (y, NameKind.free) ∈ scope.names) (hl : scope.names.lookup y = some NameKind.free) (hline : (p2.endLine == p4.line) = true)
    (hd : (x == ("__debug__" : Str)) = false := by decide) (hd2 : (y == ("__debug__" : Str)) = false := by decide) (hcd : (y == ("__classdict__" : Str)) = false := by decide)
    (he : starEach [.GeneratorExp (.Call (.Attribute (.Name x p1) "startswith" p2) [.Name y p3] [] p4) [⟨.Name x px, iter, [], 0⟩] scope gpos] X.env = (false, eval (.GeneratorExp (.Call (.Attribute (.Name x p1) "startswith" p2) [.Name y p3] [] p4) [⟨.Name x px, iter, [], 0⟩] scope gpos) X.env) :: starEach [] X.env := by rfl) :
    PE X (.Call (.Name "any" p) [.GeneratorExp (.Call (.Attribute (.Name x p1) "startswith" p2) [.Name y p3] [] p4) [⟨.Name x px, iter, [], 0⟩] scope gpos] [] pos) (tAnySt X.K P i te) := by
  refine ⟨fun pins s σ H Q I h => ?_⟩
  refine wpAny_Call_Name_kw (ld_blt I hg hm boot_any ?_)
  refine PyProof.Rows.callWith_builtin1 ?_ he (by rfl)
  rw [he]
  refine Calls.spliced_cons ?_
  refine gen_up (W := fun n F H1 => ∃ (ws : List Str) (lo : Str), n = ws.length ∧ F = (fun j v => ∃ a, ws[j]? = some a ∧ v = .bool (Txt.startswith a lo)) ∧ ∀ H2, GxR.Tabbed P H1 H2 → Q (.bl (ws.any fun a => Txt.startswith a lo)) H2) hr TB hcode S hi hs I h (fun v H1 hv => ?_) fun n F H1 g s5 hW hG => ?_
  · obtain ⟨tp, ws, lo, rfl, ht, hσ, hT, hq⟩ := hv
    obtain ⟨ps, hP, hps⟩ := id hT
    exact ⟨ws.length, _, _, hT, src_tuple hP ht, fun s1 I1 => elt_starts I1 hP hN hσ hk hf hl S.kind S.loc hline hd hd2 hcd, ws, lo, rfl, rfl, hq⟩
  · obtain ⟨ws, lo, rfl, rfl, hq⟩ := hW
    obtain ⟨fp, wr, G, Pg, St, Wk, hF, hst, hfp, hg', hT, hI⟩ := hG
    refine Calls.spliced_nil ?_
    refine call_any_walkS (Wk.in4_1.self 0 _ _ _ hst ⟨g, fp, wr, G, _, Pg, St, trS lo ws, rfl, Wk.in4_1, hst, ?_, fun s' hmv => ?_⟩)
    · intro j v sj Qj Ej hv hQj
      obtain ⟨a, ha, rfl⟩ := hF j v hv
      have hQ2 : Qj (trS lo ws j) sj := hQj
      unfold trS at hQ2
      rw [ha] at hQ2
      exact wpAny_truthy_bool hQ2
    · obtain ⟨H2, hT2, J⟩ := hI s' hmv
      refine ⟨.bl _, H2, J, rfl, ?_⟩
      rw [any_trS lo ws]
      exact hq H2 hT2
end
end G4

set_option Elab.async false
set_option linter.all false
set_option maxRecDepth 100000
set_option maxHeartbeats 4000000
namespace G4
open PySem PySem.Spec PyProof.Rows L2
abbrev Tbd := GxR.Tabbed
theorem tbd_refl {P : Addr} {H : Hp} (h : GxR.TabG H P) : Tbd P H H := ⟨h, fun _ _ => rfl⟩
theorem tbd_at {P b : Addr} {H H2 : Hp} {o : HO} (h : Tbd P H H2) (e : H b = some o) (n : ∀ q, o ≠ .tbl q) (hT : GxR.TabG H P) : H2 b = some o := by
  have hb : b ≠ P := fun z => by
    obtain ⟨ps, hp, _⟩ := hT
    rw [z, hp] at e
    exact n ps (Option.some.inj e).symm
  rw [h.2 b hb]
  exact e
theorem tbd_trans {P : Addr} {H H2 H3 : Hp} (a : Tbd P H H2) (b : Tbd P H2 H3) : Tbd P H H3 := ⟨b.1, fun c hc => (b.2 c hc).trans (a.2 c hc)⟩
theorem sqt_keep {K : PySem.W.Frag} {H H' : Hp} {tp : Addr} {xs : List V} (h : SqT K H tp xs) (k : ∀ o, (∀ q, o ≠ .tbl q) → (∀ C dx fs, o ≠ .ins C dx fs) → H tp = some o → H' tp = some o) : SqT K H' tp xs := by
  rcases h with (h | ⟨o, h⟩) | h
  · exact .inl (.inl (k _ (fun q z => by cases z) (fun C dx fs z => by cases z) h))
  · exact .inl (.inr ⟨o, k _ (fun q z => by cases z) (fun C dx fs z => by cases z) h⟩)
  · exact .inr h
theorem ins_ntbl {C dx : Addr} {fs : List (Str × V)} : ∀ q, HO.ins C dx fs ≠ .tbl q := fun q z => by cases z
theorem tup_ntbl {xs : List V} : ∀ q, HO.tup xs ≠ .tbl q := fun q z => by cases z
theorem lst_ntbl {xs : List V} : ∀ q, HO.lst xs ≠ .tbl q := fun q z => by cases z
/-- a def whose code object stands at c -/
structure FunC (K : PySem.W.Frag) (x qual : Str) (st : Stmt) (f c : Addr) (fd : FuncData) : Prop where
  ex : ∃ (oc : Value) (od : Option Addr) (kV doc pm : Value) (an : Option Addr) (ct : Value) (osl : Array (Option Value)),
    fd = PySem.W.fnOf x qual (defArgs st) (defBody st) (defScope st) .none kV doc pm an (.ref c) ct ∧ K.lookup f = some ⟨oc, od, .func fd, osl⟩ ∧ PySem.W.codeIn K (.ref c) qual = true
  kp : PySem.W.keepIn K (.ref f) = true
theorem FunC.fun {K : PySem.W.Frag} {x qual : Str} {st : Stmt} {f c : Addr} {fd : FuncData} (F : FunC K x qual st f c fd) : Fun K x qual st f fd := by
  obtain ⟨oc, od, kV, doc, pm, an, ct, osl, h⟩ := F.ex
  exact ⟨⟨oc, od, kV, doc, pm, an, .ref c, ct, osl, h⟩, F.kp⟩
theorem funC_mk {K : PySem.W.Frag} {x qual : Str} {st : Stmt} {f c : Addr} {oc : Value} {od an : Option Addr} {osl : Array (Option Value)} {kV doc pm ct : Value} (l : K.lookup f = some ⟨oc, od, .func (PySem.W.fnOf x qual (defArgs st) (defBody st) (defScope st) .none kV doc pm an (.ref c) ct), osl⟩)
    (hc : PySem.W.codeIn K (.ref c) qual = true) (k : PySem.W.keepIn K (.ref f) = true) : FunC K x qual st f c (PySem.W.fnOf x qual (defArgs st) (defBody st) (defScope st) .none kV doc pm an (.ref c) ct) := ⟨⟨oc, od, kV, doc, pm, an, ct, osl, rfl, l, hc⟩, k⟩
theorem FunC.okX {P : Program} {w : World} {K : PySem.W.Frag} {mg : Str → Option Value} {base : Heap} {x qual : Str} {st : Stmt} {f c : Addr} {fd : FuncData} {N ps : List Str} {k : Nat} {sp : Sp} (F : FunC K x qual st f c fd) (S : FnScope N ps (defScope st)) (len : ∀ vs H Q E, sp vs H Q E → vs.length = ps.length)
    (hbody : ∀ (A : Around) (outer : List Env) (s : Shared) (H : Hp) (vs : List V) (Q : VK) (E : XK), Room k (A.deeper (envOfC qual (defScope st) s.heap.objs.size f (.ref c))) → sp vs H Q E →
      ∃ t, PSs (cxOf (L2.CX P w) P w K mg base N qual (defScope st) f (.ref c) A outer s H E) (defBody st) t ∧ t { nx := fun _ H' => Q .non H', rt := Q } (start N vs) H) : FnOk P w K mg base (L2.CX P w) (k + 1) f fd ps sp := by
  obtain ⟨oc, od, kV, doc, pm, an, ct, osl, rfl, lk, hcd⟩ := F.ex
  exact fn_of lk hcd S len fun A outer s H vs Q E hr hsp => hbody A outer s H vs Q E hr hsp
theorem FunC.ok {P : Program} {w : World} {K : PySem.W.Frag} {mg : Str → Option Value} {base : Heap} {x qual : Str} {st : Stmt} {f c : Addr} {fd : FuncData} {N ps : List Str} {k : Nat} {sp : Sp} (F : FunC K x qual st f c fd) (S : FnScope N ps (defScope st)) (len : ∀ vs H Q E, sp vs H Q E → vs.length = ps.length)
    (hbody : ∀ (A : Around) (outer : List Env) (s : Shared) (H : Hp) (vs : List V) (Q : VK) (E : XK), Room k (A.deeper (envOfC qual (defScope st) s.heap.objs.size f (.ref c))) → sp vs H Q E →
      ∃ t, PSs (cxOf CX0 P w K mg base N qual (defScope st) f (.ref c) A outer s H E).nox (defBody st) t ∧ t { nx := fun _ H' => Q .non H', rt := Q } (start N vs) H) : FnOk P w K mg base CX0 (k + 1) f fd ps sp := by
  obtain ⟨oc, od, kV, doc, pm, an, ct, osl, rfl, lk, hcd⟩ := F.ex
  refine fn_of lk hcd S len fun A outer s H vs Q E hr hsp => ?_
  obtain ⟨t, h, q⟩ := hbody A outer s H vs Q E hr hsp
  exact ⟨t, h.nox, q⟩
/-- what the top has written of Reader.take: its code object at c, the table at P -/
theorem sw_one (c d : Nat) : Txt.startswith ⟨#[c]⟩ ⟨#[d]⟩ = decide (c = d) := by
  have e1 : (#[c] : Array Nat).extract 0 (0 + 1) = #[c] := by simp
  have e2 : Txt.startswith ⟨#[c]⟩ ⟨#[d]⟩ = ((#[c] : Array Nat) == #[d]) := by
    show (decide (0 + 1 ≤ 1) && ((#[c] : Array Nat).extract 0 (0 + 1) == #[d])) = _
    rw [e1]
    rfl
  rw [e2]
  by_cases h : c = d
  · subst h
    simp
  · rw [decide_eq_false h]
    exact beq_eq_false_iff_ne.mpr fun e => h (by
      have e3 := congrArg Array.toList e
      exact List.head_eq_of_cons_eq (show ([c] : List Nat) = [d] from e3))
theorem cut_one {t : Str} {p d : Nat} (h : sg t p = some d) : cutS t (some (p : Int)) (some ((p : Int) + 1)) = ⟨#[d]⟩ := by
  have hl := sg_lt h
  have e : (p : Int) + 1 = ((p + 1 : Nat) : Int) := by omega
  have h2 : (t.cps.toList.drop p).take 1 = [d] := by
    have hlt : p < t.cps.toList.length := (List.getElem?_eq_some_iff.mp h).1
    rw [List.drop_eq_getElem_cons hlt, List.take_succ_cons, List.take_zero]
    have : t.cps.toList[p] = d := (List.getElem?_eq_some_iff.mp h).2
    rw [this]
  unfold cutS
  rw [e, HT.sIx_nat, HT.sIx_nat, Nat.min_eq_left (by omega), Nat.min_eq_left (by omega), Nat.add_sub_cancel_left, h2]
theorem emp_ne (c : Nat) : (Str.empty == (⟨#[c]⟩ : Str)) = false := beq_eq_false_iff_ne.mpr fun e => by
  have h := congrArg (fun s : Str => s.cps.size) e
  have h2 : 0 = 1 := h
  cases h2
structure TxtT (K : PySem.W.Frag) (mg : Str → Option Value) (base : Heap) (f c P : Addr) (fd : FuncData) : Prop where
  tb : GxR.TabB base mg c P
  F : FunC K "take" "Reader.take" sTake f c fd
  any : mg "any" = none
def spTake (C CB P : Addr) (K : PySem.W.Frag) : Sp := fun vs H Q E => ∃ (a dx tp : Addr) (t : Str) (p c : Nat), vs = [.ref a, .ref tp] ∧ SqT K H tp [V.str ⟨#[c]⟩] ∧ H a = some (.ins C dx (flds t p)) ∧ t.length ≤ sizeLine ∧ p ≤ t.length ∧ GxR.TabG H P ∧
  (sg t p ≠ some c → ∀ H2, Tbd P H H2 → Bad E CB H2 p) ∧ (sg t p = some c → ∀ H2, Tbd P H H2 → Q (.str ⟨#[c]⟩) (upd H2 a (.ins C dx (flds t (p + 1)))))
section
variable {P : Program} {w : World} {K : PySem.W.Frag} {mg : Str → Option Value} {base : Heap} {CB fI fC : Addr} {fdI fdC : FuncData}
variable {C fEnds fSees fDigit fTake fNumber fShut : Addr} {dEnds dSees dDigit dTake dNumber dShut : FuncData} {cT pT : Addr}
theorem ok_take (T : TxtR K mg C fEnds fSees fDigit fTake fNumber fShut dEnds dSees dDigit dTake dNumber dShut) (TE : TxtE K mg CB fI fC fdI fdC) (TT : TxtT K mg base fTake cT pT dTake) : FnOk P w K mg base (L2.CX P w) 4 fTake dTake ["self", "words"] (spTake C CB pT K) := by
  have GE : FnOk P w K mg base CX0 1 fEnds dEnds ["self"] (spEnds C) := ok_ends T.FEnds T.t
  have GI : FnOk P w K mg base CX0 2 fI fdI ["self", "place"] (spBadInit CB) := ok_badInit TE
  refine TT.F.okX scTake (fun vs H Q E h => ?_) (fun A outer s H vs Q E hr h => ?_)
  · obtain ⟨a, dx, tp, t, p, c, rfl, _⟩ := h
    rfl
  · obtain ⟨a, dx, tp, t, p, c, rfl, htp, ha, hz, hp, hT, kB, kQ⟩ := h
    refine ⟨_, pss_cons (ps_set (i := 2) scTake.nd rfl (.inl rfl) (pe_fld (pv 0) rfl))
      (pss_cons (ps_set (i := 3) scTake.nd rfl (.inl rfl) pe_str)
      (pss_cons (ps_while PassesOwn.leaving (pt_cmpR op_notIn_seq (pv 3) (pv 1) (by rfl))
        (pss_cons (ps_set (i := 4) scTake.nd rfl (.inr rfl) (pe_slice sl_str (pe_fld (pv 0) rfl) (po_some (pv 2)) (po_some (pe_op op_add (pe_fld (pv 0) rfl) pe_int))))
        (pss_cons (ps_if (pw_or (pt_val (pe_meth0 (pv 0) T.t.cl T.mEnds GE (hr.mono (by decide)) T.bEnds .nil pass0))
            (pw_or1 (pt_not (pt_val (pe_anySt (c := cT) (P := pT) (i := 4) hr (by rfl) TT.any TT.tb ?hcode ?S (pv 1) (fun _ => rfl) rfl rfl ?hf rfl rfl))))).pt
          (pss_one (ps_raise rfl (takes_of rfl rfl rfl rfl) (pmk_oex TE.oex TE.iC TE.tI GI (hr.mono (by decide)) TE.bI .nil pass0 (by rfl) TE.mgB (pa_cons (pe_fld (pv 0) rfl) pa_nil)))) pss_nil)
        (pss_cons (ps_set (i := 3) scTake.nd rfl (.inl rfl) (pv 4))
        (pss_one (ps_fldaug (pv 0) pe_int in_add))))))
      (pss_one (ps_ret (pv 3))))), ?_⟩
    case hcode => rfl
    case S =>
      refine ⟨rfl, rfl, by decide +kernel, rfl, rfl, fun y hy hf => ?_⟩
      rcases List.mem_cons.mp hy with z | hy
      · rw [z] at hf
        cases hf
      · rcases List.mem_cons.mp hy with z | hy
        · rw [z] at hf
          cases hf
        · rcases List.mem_cons.mp hy with z | hy
          · rw [z]
            exact ⟨_, rfl⟩
          · cases hy
    case hf => exact List.mem_cons_of_mem _ (List.mem_cons_of_mem _ List.mem_cons_self)
    have nE : (flds t p).lookup ("ends" : Str) = none := flds_no _ _ (by decide +kernel) (by decide +kernel)
    -- start, read
    refine ⟨_, rfl, a, C, dx, _, _, rfl, ha, T.t.cl, T.t.nP, flds_place _ _, ?_⟩
    refine ⟨fun m σ H' => (m = 1 ∧ σ = [some (.ref a), some (.ref tp), some (.int p), some (.str Str.empty), none] ∧ H' = H) ∨
        (m = 0 ∧ ∃ (lo : V) (H2 : Hp), σ = [some (.ref a), some (.ref tp), some (.int p), some (.str ⟨#[c]⟩), some lo] ∧ sg t p = some c ∧ Tbd pT H H2 ∧ H' = upd H2 a (.ins C dx (flds t (p + 1)))),
      ⟨1, .inl ⟨rfl, rfl, rfl⟩⟩, fun m σ H' hW => ?_⟩
    rcases hW with ⟨rfl, rfl, hH⟩ | ⟨rfl, lo, H2, rfl, hsg, ht2, rfl⟩
    · subst hH
      have R : RdAt C H' a t p := ⟨⟨dx, ha⟩, hz, hp⟩
      refine ⟨_, rfl, _, rfl, tp, _, rfl, .inr htp, rfl, rfl, _, rfl, ?_⟩
      refine if_true_of (by show (!((Str.empty == (⟨#[c]⟩ : Str)) || false)) = true; rw [emp_ne]; rfl) ?_
      refine ⟨fun σ' H'' => ∃ (lo : V) (H2 : Hp), σ' = [some (.ref a), some (.ref tp), some (.int p), some (.str ⟨#[c]⟩), some lo] ∧ sg t p = some c ∧ Tbd pT H' H2 ∧ H'' = upd H2 a (.ins C dx (flds t (p + 1))),
        fun σ' H'' hN => ⟨0, by decide, .inr ⟨rfl, hN⟩⟩, ?_⟩
      refine ⟨_, rfl, a, C, dx, _, _, rfl, ha, T.t.cl, T.t.nT, flds_text _ _, _, rfl, _, rfl, _, rfl, a, C, dx, _, _, rfl, ha, T.t.cl, T.t.nP, flds_place _ _, _, _, rfl, rfl, _, rfl, t, rfl, hz, ?_⟩
      refine ⟨_, rfl, a, dx, _, rfl, ha, nE, a, t, p, rfl, R, _, rfl, ?_⟩
      by_cases e : p = t.length
      · refine if_true_of (decide_eq_true e) ?_
        refine iteT ?_
        refine ⟨_, rfl, a, C, dx, _, _, rfl, ha, T.t.cl, T.t.nP, flds_place _ _, ?_⟩
        refine bad_read (kB (fun z => ?_) H' (tbd_refl hT))
        rw [sg_none (Nat.le_of_eq e.symm)] at z
        cases z
      · refine if_false_of (decide_eq_false e) ?_
        obtain ⟨d, hd⟩ := sg_some (t := t) (p := p) (by omega)
        refine ⟨_, rfl, tp, [⟨#[c]⟩], _, rfl, htp, rfl, hT, fun H2 h2 => ⟨_, rfl, ?_⟩⟩
        have hany : ([(⟨#[c]⟩ : Str)].any fun w => Txt.startswith w (cutS t (some (p : Int)) (some ((p : Int) + 1)))) = decide (c = d) := by
          rw [cut_one hd]
          show (Txt.startswith ⟨#[c]⟩ ⟨#[d]⟩ || false) = _
          rw [sw_one, Bool.or_false]
        have ha2 := tbd_at h2 ha ins_ntbl hT
        by_cases q : c = d
        · refine if_false_of (by rw [hany, decide_eq_true q]; rfl) ?_
          subst q
          refine ⟨_, rfl, _, rfl, a, C, dx, _, _, rfl, ha2, T.t.cl, T.t.nP, flds_place _ _, _, _, rfl, rfl, dx, _, ha2, flds_len _ _, .str (cutS t (some (p : Int)) (some ((p : Int) + 1))), H2, ?_, hd, h2, ?_⟩
          · rw [cut_one hd]
            rfl
          · have e3 : V.int ((p : Int) + 1) = V.int ((p + 1 : Nat) : Int) := congrArg V.int (by omega)
            rw [e3, flds_put]
        · refine if_true_of (by rw [hany, decide_eq_false q]; rfl) ?_
          refine ⟨_, rfl, a, C, dx, _, _, rfl, ha2, T.t.cl, T.t.nP, flds_place _ _, ?_⟩
          refine bad_read (kB (fun z => ?_) H2 h2)
          rw [hd] at z
          exact q (Option.some.inj z).symm
    · have htp2 : SqT K (upd H2 a (.ins C dx (flds t (p + 1)))) tp [V.str ⟨#[c]⟩] := by
        refine sqt_keep htp fun o n1 n2 ho => ?_
        have hne : tp ≠ a := fun z => by
          rw [z, ha] at ho
          exact n2 _ _ _ (Option.some.inj ho).symm
        rw [upd_ne hne]
        exact tbd_at ht2 ho n1 hT
      refine ⟨_, rfl, _, rfl, tp, _, rfl, .inr htp2, rfl, rfl, _, rfl, ?_⟩
      refine if_false_of (by show (!(((⟨#[c]⟩ : Str) == (⟨#[c]⟩ : Str)) || false)) = false; rw [beq_self_eq_true]; rfl) ?_
      exact ⟨_, rfl, kQ hsg H2 ht2⟩
end
end G4

set_option Elab.async false
set_option linter.all false
set_option maxRecDepth 100000
set_option maxHeartbeats 4000000
namespace G4
open PySem PySem.Spec PyProof.Rows L2
/-! the reading of a grid as a plain function -/
def placeR (t : Str) (p : Nat) : Option (Option Nat × Nat) :=
  if sg t p = some 46 then some (none, p + 1) else if isDig t p = true then some (some (numVal t p), p + numLen t p) else none
def rowL (t : Str) (most : Option Nat) : Nat → Nat → List (Option Nat) → Except Nat (List (Option Nat) × Nat)
  | 0, p, acc => .ok (acc, p)
  | k + 1, p, acc => if sg t p = some 32 ∧ some acc.length ≠ most then
      (match placeR t (p + 1) with
        | none => .error (p + 1)
        | some (v, q) => rowL t most k q (acc ++ [v]))
    else .ok (acc, p)
def rowR (t : Str) (most : Option Nat) (p : Nat) : Except Nat (List (Option Nat) × Nat) :=
  match placeR t p with
    | none => .error p
    | some (v, q) => rowL t most (t.length + 1 - q) q [v]
theorem placeR_lt {t : Str} {p : Nat} {v : Option Nat} {q : Nat} (hp : p ≤ t.length) (h : placeR t p = some (v, q)) : p < q ∧ q ≤ t.length := by
  unfold placeR at h
  by_cases c : sg t p = some 46
  · rw [if_pos c] at h
    have e := (Prod.mk.inj (Option.some.inj h)).2
    have := sg_lt c
    omega
  · rw [if_neg c] at h
    by_cases d : isDig t p = true
    · rw [if_pos d] at h
      have e := (Prod.mk.inj (Option.some.inj h)).2
      have h1 := numLen_pos d
      have h2 : p + numLen t p ≤ t.length := runD_bound t _ _ hp
      omega
    · rw [if_neg d] at h
      cases h
theorem rowL_fuel {t : Str} {most : Option Nat} : ∀ (k k' q : Nat) (acc : List (Option Nat)), q ≤ t.length → t.length + 1 - q ≤ k → t.length + 1 - q ≤ k' → rowL t most k q acc = rowL t most k' q acc
  | 0, _, q, _, hq, h, _ => absurd h (by omega)
  | _ + 1, 0, q, _, hq, _, h => absurd h (by omega)
  | k + 1, k' + 1, q, acc, hq, h1, h2 => by
    unfold rowL
    by_cases c : sg t q = some 32 ∧ some acc.length ≠ most
    · rw [if_pos c, if_pos c]
      have := sg_lt c.1
      cases e : placeR t (q + 1) with
      | none => rfl
      | some vq =>
        obtain ⟨v, r⟩ := vq
        have := placeR_lt (by omega) e
        exact rowL_fuel k k' r _ this.2 (by omega) (by omega)
    · rw [if_neg c, if_neg c]
/-- all else is as it was: but the table at P and the reader at a -/
def Kp (P a : Addr) (H H' : Hp) : Prop := GxR.TabG H' P ∧ ∀ b o, b ≠ P → b ≠ a → H b = some o → H' b = some o
theorem kp_refl {P a : Addr} {H : Hp} (h : GxR.TabG H P) : Kp P a H H := ⟨h, fun _ _ _ _ e => e⟩
theorem kp_trans {P a : Addr} {H H2 H3 : Hp} (x : Kp P a H H2) (y : Kp P a H2 H3) : Kp P a H H3 := ⟨y.1, fun b o h1 h2 e => y.2 b o h1 h2 (x.2 b o h1 h2 e)⟩
theorem kp_tbd {P a : Addr} {H H2 : Hp} (h : Tbd P H H2) : Kp P a H H2 := ⟨h.1, fun b o h1 _ e => (h.2 b h1).trans e⟩
theorem tabG_ne {P b : Addr} {H : Hp} {o : HO} (hT : GxR.TabG H P) (e : H b = some o) (n : ∀ q, o ≠ .tbl q) : b ≠ P := fun z => by
  obtain ⟨ps, hp, _⟩ := hT
  rw [z, hp] at e
  exact n ps (Option.some.inj e).symm
theorem tabG_upd {P b : Addr} {H : Hp} {o : HO} (hT : GxR.TabG H P) (h : b ≠ P) : GxR.TabG (upd H b o) P := by
  obtain ⟨ps, hp, r⟩ := hT
  exact ⟨ps, by rw [upd_ne h.symm]; exact hp, r⟩
theorem tabG_free {P b : Addr} {H : Hp} (hT : GxR.TabG H P) (h : H b = none) : b ≠ P := fun z => by
  obtain ⟨ps, hp, _⟩ := hT
  rw [z, hp] at h
  cases h
/-- a new object is laid -/
theorem kp_new {P a b : Addr} {H : Hp} {o : HO} (hT : GxR.TabG H P) (h : H b = none) : Kp P a H (upd H b o) :=
  ⟨tabG_upd hT (tabG_free hT h), fun c u _ _ e => by
    rw [upd_ne (ne_of_none e h)]
    exact e⟩
/-- the reader is stored -/
theorem kp_self {P a : Addr} {H : Hp} {o : HO} (hT : GxR.TabG H P) (h : a ≠ P) : Kp P a H (upd H a o) :=
  ⟨tabG_upd hT h, fun c u _ h2 e => by
    rw [upd_ne h2]
    exact e⟩
def BadK (E : XK) (CB P a : Addr) (H : Hp) (p : Nat) : Prop := ∀ H', Kp P a H H' → Bad E CB H' p
theorem badK_on {E : XK} {CB P a : Addr} {H H2 : Hp} {p : Nat} (h : BadK E CB P a H p) (k : Kp P a H H2) : BadK E CB P a H2 p := fun H' k' => h H' (kp_trans k k')
def valV : Option Nat → V
  | none => .non
  | some n => .int ((n : Nat) : Int)
def spPlace (C CB P : Addr) : Sp := fun vs H Q E => ∃ (a dx : Addr) (t : Str) (p : Nat), vs = [.ref a] ∧ H a = some (.ins C dx (flds t p)) ∧ t.length ≤ sizeLine ∧ p ≤ t.length ∧ GxR.TabG H P ∧
  (placeR t p = none → BadK E CB P a H p) ∧ (∀ v q, placeR t p = some (v, q) → ∀ H', Kp P a H H' → H' a = some (.ins C dx (flds t q)) → Q (valV v) H')
def mostV : Option Nat → V
  | none => .non
  | some n => .int ((n : Nat) : Int)
def spRow (C CB P : Addr) : Sp := fun vs H Q E => ∃ (a dx : Addr) (t : Str) (p : Nat) (most : Option Nat), vs = [.ref a, mostV most] ∧ H a = some (.ins C dx (flds t p)) ∧ t.length ≤ 100000 ∧ p ≤ t.length ∧ GxR.TabG H P ∧
  (∀ e, rowR t most p = .error e → BadK E CB P a H e) ∧
  (∀ r q, rowR t most p = .ok (r, q) → ∀ l H', H l = none → Kp P a H H' → H' a = some (.ins C dx (flds t q)) → H' l = some (.lst (r.map valV)) → Q (.ref l) H')
/-- the names of the readers of a grid, as the top has left them -/
structure TxtG (K : PySem.W.Frag) (mg : Str → Option Value) (fPlace fRow fRead fRI C : Addr) (dPlace dRow dRead dRI : FuncData) : Prop where
  FPlace : Fun K "_read_place" "_read_place" sPlace fPlace dPlace
  bPlace : Binds K dPlace ["reader"] []
  gPlace : mg "_read_place" = some (.ref fPlace)
  FRow : Fun K "_read_grid_row" "_read_grid_row" sRow fRow dRow
  bRow : Binds K dRow ["reader", "most"] []
  gRow : mg "_read_grid_row" = some (.ref fRow)
  FRead : Fun K "read_grid" "read_grid" sRead fRead dRead
  bRead : Binds K dRead ["text"] []
  gRead : mg "read_grid" = some (.ref fRead)
  FRI : Fun K "__init__" "Reader.__init__" sRInit fRI dRI
  bRI : Binds K dRI ["self", "text"] []
  mkr : Mk K C fRI
  gReader : mg "Reader" = some (.ref C)
  isi : mg "isinstance" = none
  str : mg "str" = none
  lst : mg "list" = none
  tpl : mg "tuple" = none
  enm : mg "enumerate" = none
section
variable {P : Program} {w : World} {K : PySem.W.Frag} {mg : Str → Option Value} {base : Heap} {CB fI fC : Addr} {fdI fdC : FuncData}
variable {C fEnds fSees fDigit fTake fNumber fShut : Addr} {dEnds dSees dDigit dTake dNumber dShut : FuncData} {cT pT : Addr}
variable {fPlace fRow fRead fRI : Addr} {dPlace dRow dRead dRI : FuncData}
theorem ok_place (T : TxtR K mg C fEnds fSees fDigit fTake fNumber fShut dEnds dSees dDigit dTake dNumber dShut) (TE : TxtE K mg CB fI fC fdI fdC) (TT : TxtT K mg base fTake cT pT dTake) (TG : TxtG K mg fPlace fRow fRead fRI C dPlace dRow dRead dRI) : FnOk P w K mg base (L2.CX P w) 5 fPlace dPlace ["reader"] (spPlace C CB pT) := by
  have GS : FnOk P w K mg base CX0 2 fSees dSees ["self", "sign"] (spSees C) := ok_sees T.FSees T.t T.FEnds T.bEnds T.mEnds
  have GT : FnOk P w K mg base (L2.CX P w) 4 fTake dTake ["self", "words"] (spTake C CB pT K) := ok_take T TE TT
  have GN : FnOk P w K mg base (L2.CX P w) 4 fNumber dNumber ["self"] (spNumber C CB) := ok_number T TE
  refine TG.FPlace.okX scPlace (fun vs H Q E h => ?_) (fun cdv A outer s H vs Q E hr h => ?_)
  · obtain ⟨a, dx, t, p, rfl, _⟩ := h
    rfl
  · obtain ⟨a, dx, t, p, rfl, ha, hz, hp, hT, kB, kQ⟩ := h
    have R : RdAt C H a t p := ⟨⟨dx, ha⟩, hz, hp⟩
    have nS : (flds t p).lookup ("sees" : Str) = none := flds_no _ _ (by decide +kernel) (by decide +kernel)
    have nT : (flds t p).lookup ("take" : Str) = none := flds_no _ _ (by decide +kernel) (by decide +kernel)
    have nN : (flds t p).lookup ("number" : Str) = none := flds_no _ _ (by decide +kernel) (by decide +kernel)
    have haP : a ≠ pT := tabG_ne hT ha ins_ntbl
    refine ⟨_, pss_cons (ps_if (pt_val (pe_meth (pv 0) T.t.cl T.mSees GS (hr.mono (by decide)) T.bSees .nil pass0 (pa_cons pe_str pa_nil)))
        (pss_cons (ps_expr (pe_meth (pv 0) T.t.cl T.mTake GT hr T.bTake .nil (passes_call (takes_of rfl rfl rfl rfl) fun _ _ _ _ h => h) (pa_cons (pe_tup (pa_cons pe_str pa_nil)) pa_nil)))
        (pss_one (ps_ret pe_non))) pss_nil)
      (pss_one (ps_ret (pe_meth0 (pv 0) T.t.cl T.mNumber GN hr T.bNumber .nil (passes_call (takes_of rfl rfl rfl rfl) fun _ _ _ _ h => h)))), ?_⟩
    refine ⟨_, rfl, a, dx, _, rfl, ha, nS, a, t, p, 46, rfl, R, _, rfl, ?_⟩
    by_cases c : sg t p = some 46
    · refine if_true_of (decide_eq_true c) ?_
      have hpl : placeR t p = some (none, p + 1) := if_pos c
      refine ⟨_, rfl, a, dx, _, rfl, ha, nT, (by show 1 ≤ sizeLine; decide), fun tp htp => ?_⟩
      have hne : a ≠ tp := ne_of_none ha htp
      refine ⟨a, dx, tp, t, p, 46, rfl, .inl (.inl upd_same), by rw [upd_ne hne]; exact ha, hz, hp, tabG_upd hT (tabG_free hT htp), fun z => absurd c z, fun _ H2 h2 => ?_⟩
      have k2 : Kp pT a H H2 := kp_trans (kp_new hT htp) (kp_tbd h2)
      exact kQ _ _ hpl _ (kp_trans k2 (kp_self h2.1 haP)) upd_same
    · refine if_false_of (decide_eq_false c) ?_
      refine ⟨_, rfl, a, dx, _, rfl, ha, nN, a, dx, t, p, rfl, ha, hz, hp, fun hd => ?_, fun hd => ?_⟩
      · exact kB (by unfold placeR; rw [if_neg c, if_neg (by rw [hd]; decide)]) H (kp_refl hT)
      · exact kQ _ _ (by unfold placeR; rw [if_neg c, if_pos hd]) _ (kp_self hT haP) upd_same
theorem dec_most (n : Nat) (most : Option Nat) : decide (V.int (n : Int) = mostV most) = decide (some n = most) := by
  cases most with
  | none => rfl
  | some m =>
    show decide (V.int (n : Int) = V.int (m : Int)) = _
    rw [dec_int]
    by_cases h : n = m
    · subst h
      simp
    · rw [decide_eq_false h, decide_eq_false fun e => h (Option.some.inj e)]
theorem scal_most (n : Int) (most : Option Nat) : scal (V.int n) (mostV most) = true := by
  cases most <;> rfl
theorem ok_row (T : TxtR K mg C fEnds fSees fDigit fTake fNumber fShut dEnds dSees dDigit dTake dNumber dShut) (TE : TxtE K mg CB fI fC fdI fdC) (TT : TxtT K mg base fTake cT pT dTake) (TG : TxtG K mg fPlace fRow fRead fRI C dPlace dRow dRead dRI) : FnOk P w K mg base (L2.CX P w) 6 fRow dRow ["reader", "most"] (spRow C CB pT) := by
  have GS : FnOk P w K mg base CX0 2 fSees dSees ["self", "sign"] (spSees C) := ok_sees T.FSees T.t T.FEnds T.bEnds T.mEnds
  have GT : FnOk P w K mg base (L2.CX P w) 4 fTake dTake ["self", "words"] (spTake C CB pT K) := ok_take T TE TT
  have GP : FnOk P w K mg base (L2.CX P w) 5 fPlace dPlace ["reader"] (spPlace C CB pT) := ok_place T TE TT TG
  refine TG.FRow.okX scRow (fun vs H Q E h => ?_) (fun cdv A outer s H vs Q E hr h => ?_)
  · obtain ⟨a, dx, t, p, most, rfl, _⟩ := h
    rfl
  · obtain ⟨a, dx, t, p, most, rfl, ha, hz, hp, hT, kB, kQ⟩ := h
    have hz' : t.length ≤ sizeLine := by
      rw [sizeLine_eq]
      omega
    have haP : a ≠ pT := tabG_ne hT ha ins_ntbl
    refine ⟨_, pss_cons (ps_set (i := 2) scRow.nd rfl (.inl rfl) (pe_lst (pa_cons (pe_call GP hr (by rfl) TG.gPlace TG.FPlace.kp TG.bPlace .nil (passes_call (takes_of rfl rfl rfl rfl) fun _ _ _ _ h => h) (pa_cons (pv 0) pa_nil)) pa_nil)))
      (pss_cons (ps_while PassesOwn.leaving (pw_and (pt_val (pe_meth (pv 0) T.t.cl T.mSees GS (hr.mono (by decide)) T.bSees .nil pass0 (pa_cons pe_str pa_nil))) (pw_and1 (pt_cmpR op_ne (pe_callB call_len_seq (by rfl) T.t.len PySem.boot_len (pa_cons (pv 2) pa_nil)) (pv 1) (nomark _)))).pt
        (pss_cons (ps_expr (pe_meth (pv 0) T.t.cl T.mTake GT (hr.mono (by decide)) T.bTake .nil (passes_call (takes_of rfl rfl rfl rfl) fun _ _ _ _ h => h) (pa_cons (pe_tup (pa_cons pe_str pa_nil)) pa_nil)))
        (pss_one (ps_expr (pe_bm PySem.F.plainAttrs_list PySem.F.slot_list_append PySem.F.type_list_append mt_append (pv 2) (pa_cons (pe_call GP hr (by rfl) TG.gPlace TG.FPlace.kp TG.bPlace .nil (passes_call (takes_of rfl rfl rfl rfl) fun _ _ _ _ h => h) (pa_cons (pv 0) pa_nil)) pa_nil))))))
      (pss_one (ps_ret (pv 2)))), ?_⟩
    -- row = [_read_place(reader)]
    refine ⟨_, rfl, a, dx, t, p, rfl, ha, hz', hp, hT, fun hn => kB p (by unfold rowR; rw [hn]), fun v q hv H1 k1 ha1 => ?_⟩
    have hq := placeR_lt hp hv
    refine ⟨(by show 1 ≤ sizeLine; decide), fun l hl => ?_⟩
    have nal : a ≠ l := ne_of_none ha1 hl
    have hlH : H l = none := by
      cases e : H l with
      | none => rfl
      | some o =>
        by_cases h1 : l = pT
        · obtain ⟨ps, hps, _⟩ := k1.1
          rw [← h1, hl] at hps
          cases hps
        · rw [k1.2 l o h1 nal.symm e] at hl
          cases hl
    have hR : rowR t most p = rowL t most (t.length + 1 - q) q [v] := by
      unfold rowR
      rw [hv]
    refine ⟨fun m σ H' => ∃ (q : Nat) (acc : List (Option Nat)), m = t.length - q ∧ σ = [some (.ref a), some (mostV most), some (.ref l)] ∧ q ≤ t.length ∧ Kp pT a H H' ∧ H' a = some (.ins C dx (flds t q)) ∧ H' l = some (.lst (acc.map valV)) ∧ acc.length ≤ q + 1 ∧ rowR t most p = rowL t most (t.length + 1 - q) q acc,
      ⟨_, q, [v], rfl, rfl, hq.2, kp_trans k1 (kp_new k1.1 hl), by rw [upd_ne nal]; exact ha1, upd_same, by show 1 ≤ q + 1; omega, hR⟩, fun m σ H' hW => ?_⟩
    clear hR ha1 k1 hl hq hv
    obtain ⟨q, acc, rfl, rfl, hq, k2, ha2, hl2, hac, hR⟩ := hW
    have R : RdAt C H' a t q := ⟨⟨dx, ha2⟩, hz', hq⟩
    have nS : (flds t q).lookup ("sees" : Str) = none := flds_no _ _ (by decide +kernel) (by decide +kernel)
    have nT : (flds t q).lookup ("take" : Str) = none := flds_no _ _ (by decide +kernel) (by decide +kernel)
    have fin : ¬ (sg t q = some 32 ∧ some acc.length ≠ most) → Q (.ref l) H' := fun hc => by
      refine kQ acc q ?_ l H' hlH k2 ha2 hl2
      rw [hR]
      obtain ⟨k, hk⟩ : ∃ k, t.length + 1 - q = k + 1 := ⟨t.length - q, by omega⟩
      rw [hk]
      unfold rowL
      rw [if_neg hc]
    refine ⟨_, rfl, a, dx, _, rfl, ha2, nS, a, t, q, 32, rfl, R, _, rfl, ?_⟩
    by_cases c : sg t q = some 32
    · refine if_true_of (decide_eq_true c) ?_
      refine ⟨_, rfl, l, _, rfl, .inl (.inl (.inl hl2)), _, rfl, scal_most _ _, _, rfl, ?_⟩
      rw [List.length_map, dec_most]
      by_cases d : some acc.length = most
      · refine if_false_of (by rw [decide_eq_true d]; rfl) ?_
        exact ⟨_, rfl, fin fun z => z.2 d⟩
      · refine if_true_of (by rw [decide_eq_false d]; rfl) ?_
        have hlt := sg_lt c
        have hlP : l ≠ pT := tabG_ne k2.1 hl2 lst_ntbl
        have nla : l ≠ a := ne_of hl2 ha2 (by intro z; cases z)
        have step : rowR t most p = (match placeR t (q + 1) with
            | none => .error (q + 1)
            | some (v, r) => rowL t most (t.length - q) r (acc ++ [v])) := by
          rw [hR, show t.length + 1 - q = (t.length - q) + 1 by omega]
          show (if sg t q = some 32 ∧ some acc.length ≠ most then _ else _) = _
          rw [if_pos ⟨c, d⟩]
        refine ⟨fun σ' H'' => ∃ (q' : Nat) (acc' : List (Option Nat)), q < q' ∧ σ' = [some (.ref a), some (mostV most), some (.ref l)] ∧ q' ≤ t.length ∧ Kp pT a H H'' ∧ H'' a = some (.ins C dx (flds t q')) ∧ H'' l = some (.lst (acc'.map valV)) ∧ acc'.length ≤ q' + 1 ∧ rowR t most p = rowL t most (t.length + 1 - q') q' acc',
          fun σ' H'' hN => ?_, ?_⟩
        · obtain ⟨q', acc', h1, h2, h3, h4⟩ := hN
          exact ⟨t.length - q', by omega, q', acc', rfl, h2, h3, h4⟩
        refine ⟨_, rfl, a, dx, _, rfl, ha2, nT, (by show 1 ≤ sizeLine; decide), fun tp htp => ?_⟩
        have nat : a ≠ tp := ne_of_none ha2 htp
        have nlt : l ≠ tp := ne_of_none hl2 htp
        refine ⟨a, dx, tp, t, q, 32, rfl, .inl (.inl upd_same), by rw [upd_ne nat]; exact ha2, hz', hq, tabG_upd k2.1 (tabG_free k2.1 htp), fun z => absurd c z, fun _ H2 h2 => ?_⟩
        have k3 : Kp pT a H' (upd H2 a (.ins C dx (flds t (q + 1)))) := kp_trans (kp_trans (kp_new k2.1 htp) (kp_tbd h2)) (kp_self h2.1 haP)
        have hl3 := k3.2 l _ hlP nla hl2
        refine ⟨_, rfl, .inl ⟨rfl, _, .inl (.inl hl3)⟩, _, rfl, a, dx, t, q + 1, rfl, upd_same, hz', hlt, k3.1, fun hn => ?_, fun v r hv H3 k4 ha4 => ?_⟩
        · refine badK_on (kB (q + 1) ?_) (kp_trans k2 k3)
          rw [step, hn]
        · have hl4 := k4.2 l _ hlP nla hl3
          have hr2 := placeR_lt (t := t) hlt hv
          refine ⟨l, _, _, rfl, rfl, hl4, ?_, r, acc ++ [v], by omega, rfl, hr2.2, ?_, ?_, ?_, ?_, ?_⟩
          · rw [List.length_map, sizeLine_eq]
            omega
          · refine ⟨tabG_upd k4.1 hlP, fun b o h1 h5 e => ?_⟩
            rw [upd_ne (ne_of_none e hlH)]
            exact (kp_trans k2 (kp_trans k3 k4)).2 b o h1 h5 e
          · rw [upd_ne nla.symm]
            exact ha4
          · rw [upd_same, List.map_append]
            rfl
          · rw [List.length_append]
            show acc.length + 1 ≤ r + 1
            omega
          · rw [step, hv]
            exact rowL_fuel _ _ r _ hr2.2 (by omega) (Nat.le_refl _)
    · refine if_false_of (decide_eq_false c) ?_
      exact ⟨_, rfl, fin fun z => c z.1⟩
end
end G4

set_option Elab.async false
set_option linter.all false
set_option maxRecDepth 100000
set_option maxHeartbeats 4000000
namespace G4
open PySem PySem.Spec PyProof.Rows L2
theorem rowL_len {t : Str} {most : Option Nat} : ∀ (k p : Nat) (acc : List (Option Nat)) (p0 : Nat) (r : List (Option Nat)) (q : Nat), p ≤ t.length → 0 < acc.length → acc.length + p0 ≤ p → rowL t most k p acc = .ok (r, q) → r.length + p0 ≤ q ∧ p ≤ q ∧ q ≤ t.length ∧ 0 < r.length
  | 0, p, acc, p0, r, q, hp, h0, ha, h => by
    have e := Prod.mk.inj (Except.ok.inj h)
    rw [← e.1, ← e.2]
    exact ⟨ha, Nat.le_refl _, hp, h0⟩
  | k + 1, p, acc, p0, r, q, hp, h0, ha, h => by
    unfold rowL at h
    by_cases c : sg t p = some 32 ∧ some acc.length ≠ most
    · rw [if_pos c] at h
      have hl := sg_lt c.1
      cases e : placeR t (p + 1) with
      | none => rw [e] at h; cases h
      | some vq =>
        obtain ⟨v, s⟩ := vq
        rw [e] at h
        have h1 := placeR_lt (t := t) hl e
        have h2 := rowL_len k s (acc ++ [v]) p0 r q h1.2 (by rw [List.length_append]; show 0 < acc.length + 1; omega) (by rw [List.length_append]; show acc.length + 1 + p0 ≤ s; omega) h
        omega
    · rw [if_neg c] at h
      have e := Prod.mk.inj (Except.ok.inj h)
      rw [← e.1, ← e.2]
      exact ⟨ha, Nat.le_refl _, hp, h0⟩
theorem rowR_len {t : Str} {most : Option Nat} {p : Nat} {r : List (Option Nat)} {q : Nat} (hp : p ≤ t.length) (h : rowR t most p = .ok (r, q)) : r.length + p ≤ q ∧ p < q ∧ q ≤ t.length ∧ 0 < r.length := by
  unfold rowR at h
  cases e : placeR t p with
  | none => rw [e] at h; cases h
  | some vq =>
    obtain ⟨v, s⟩ := vq
    rw [e] at h
    have h1 := placeR_lt hp e
    have h2 := rowL_len _ s [v] p r q h1.2 (by show 0 < 1; omega) (by show 1 + p ≤ s; omega) h
    omega
def gridL (t : Str) (w : Nat) : Nat → Nat → List (Option Nat) → Nat → Except Nat (List (Option Nat))
  | 0, _, _, _ => .error 0
  | k + 1, p, found, n => if n = w ∧ p ≠ t.length then
      (if sg t p = some 10 then
        (match rowR t (some w) (p + 1) with
          | .error e => .error e
          | .ok (r, q) => gridL t w k q (found ++ r) r.length)
      else .error p)
    else if p = t.length then .ok found else .error p
theorem gridL_fuel {t : Str} {w : Nat} : ∀ (k k' q : Nat) (found : List (Option Nat)) (n : Nat), q ≤ t.length → t.length + 1 - q ≤ k → t.length + 1 - q ≤ k' → gridL t w k q found n = gridL t w k' q found n
  | 0, _, q, _, _, hq, h, _ => absurd h (by omega)
  | _ + 1, 0, q, _, _, hq, _, h => absurd h (by omega)
  | k + 1, k' + 1, q, found, n, hq, h1, h2 => by
    unfold gridL
    by_cases c : n = w ∧ q ≠ t.length
    · rw [if_pos c, if_pos c]
      by_cases d : sg t q = some 10
      · rw [if_pos d, if_pos d]
        have hl := sg_lt d
        cases e : rowR t (some w) (q + 1) with
        | error x => rfl
        | ok rq =>
          obtain ⟨r, s⟩ := rq
          have h3 := rowR_len (t := t) hl e
          exact gridL_fuel k k' s _ _ h3.2.2.1 (by omega) (by omega)
      · rw [if_neg d, if_neg d]
    · rw [if_neg c, if_neg c]
/-- what read_grid tells: the cells, the width; or the place of the fault -/
def gridR (t : Str) : Except Nat (List (Option Nat) × Nat) :=
  match rowR t none 0 with
    | .error e => .error e
    | .ok (r, q) => (match gridL t r.length (t.length + 1 - q) q r r.length with
      | .error e => .error e
      | .ok found => .ok (found, r.length))
/-- the cells that have a value -/
def cellsFromN : Nat → List (Option Nat) → List (Nat × Nat)
  | _, [] => []
  | i, none :: l => cellsFromN (i + 1) l
  | i, some v :: l => (i, v) :: cellsFromN (i + 1) l
theorem cellsFromN_app : ∀ (i : Nat) (l : List (Option Nat)) (x : Option Nat), cellsFromN i (l ++ [x]) = cellsFromN i l ++ (match x with | none => [] | some v => [(i + l.length, v)])
  | i, [], none => rfl
  | i, [], some v => rfl
  | i, none :: l, x => by
    show cellsFromN (i + 1) (l ++ [x]) = _
    rw [cellsFromN_app (i + 1) l x]
    show _ = cellsFromN (i + 1) l ++ _
    rw [List.length_cons, show i + 1 + l.length = i + (l.length + 1) by omega]
  | i, some v :: l, x => by
    show (i, v) :: cellsFromN (i + 1) (l ++ [x]) = _
    rw [cellsFromN_app (i + 1) l x]
    show _ = (i, v) :: cellsFromN (i + 1) l ++ _
    rw [List.length_cons, show i + 1 + l.length = i + (l.length + 1) by omega]
    rfl
/-- pairs of ints, laid as tuples -/
def PairsAt (H : Hp) : List V → List (Nat × Nat) → Prop := Paired fun v x => ∃ p, v = .ref p ∧ H p = some (.tup [.int ((x.1 : Nat) : Int), .int ((x.2 : Nat) : Int)])
theorem PairsAt.keep {H H' : Hp} : ∀ {vs : List V} {xs : List (Nat × Nat)}, PairsAt H vs xs → (∀ b ys, H b = some (.tup ys) → H' b = some (.tup ys)) → PairsAt H' vs xs
  | _, _, .nil, _ => .nil
  | _, _, .cons ⟨p, e, h⟩ t, k => .cons ⟨p, e, k _ _ h⟩ (PairsAt.keep t k)
theorem PairsAt.snoc {H : Hp} : ∀ {vs : List V} {xs : List (Nat × Nat)} {v : V} {x : Nat × Nat}, PairsAt H vs xs → (∃ p, v = .ref p ∧ H p = some (.tup [.int ((x.1 : Nat) : Int), .int ((x.2 : Nat) : Int)])) → PairsAt H (vs ++ [v]) (xs ++ [x])
  | _, _, _, _, .nil, h => .cons h .nil
  | _, _, _, _, .cons a t, h => .cons a (PairsAt.snoc t h)
def GridAt (H : Hp) (r : Addr) (n w : Nat) (xs : List (Nat × Nat)) : Prop := ∃ (tt : Addr) (vs : List V), H r = some (.tup [.int ((n : Nat) : Int), .int ((w : Nat) : Int), .ref tt]) ∧ H tt = some (.tup vs) ∧ PairsAt H vs xs
/-- all that was tracked is as it was, but the table -/
def KpO (P : Addr) (H H' : Hp) : Prop := GxR.TabG H' P ∧ ∀ b o, b ≠ P → H b = some o → H' b = some o
theorem kpO_of {P a : Addr} {H H2 H' : Hp} (hT : GxR.TabG H P) (ha : H a = none) (h : ∀ b o, b ≠ P → H b = some o → H2 b = some o) (k : Kp P a H2 H') : KpO P H H' :=
  ⟨k.1, fun b o h1 e => k.2 b o h1 (fun z => by rw [z, ha] at e; cases e) (h b o h1 e)⟩
/-- what may be handed to read_grid: a text, or None or a list, which are read as "" -/
def Given (H : Hp) (x : V) (t : Str) : Prop := x = .str t ∨ (t = Str.empty ∧ (x = .non ∨ ∃ l xs, x = .ref l ∧ H l = some (.lst xs)))
def spRI (C : Addr) : Sp := fun vs H Q _ => ∃ (a dx : Addr) (x : V) (t : Str), vs = [.ref a, x] ∧ H a = some (.ins C dx []) ∧ Given H x t ∧ Q .non (upd H a (.ins C dx (flds t 0)))
def spRead (CB P : Addr) : Sp := fun vs H Q E => ∃ (x : V) (t : Str), vs = [x] ∧ Given H x t ∧ t.length ≤ 100000 ∧ GxR.TabG H P ∧
  (∀ e, gridR t = .error e → ∀ H', KpO P H H' → Bad E CB H' e) ∧
  (∀ found w, gridR t = .ok (found, w) → ∀ r H', KpO P H H' → H r = none → GridAt H' r found.length w (cellsFromN 0 found) → Q (.ref r) H')
section
variable {P : Program} {w : World} {K : PySem.W.Frag} {mg : Str → Option Value} {base : Heap} {CB fI fC : Addr} {fdI fdC : FuncData}
variable {C fEnds fSees fDigit fTake fNumber fShut : Addr} {dEnds dSees dDigit dTake dNumber dShut : FuncData} {cT pT : Addr}
variable {fPlace fRow fRead fRI : Addr} {dPlace dRow dRead dRI : FuncData}
theorem ok_RI (T : TxtR K mg C fEnds fSees fDigit fTake fNumber fShut dEnds dSees dDigit dTake dNumber dShut) (TG : TxtG K mg fPlace fRow fRead fRI C dPlace dRow dRead dRI) : FnOk P w K mg base CX0 1 fRI dRI ["self", "text"] (spRI C) := by
  refine TG.FRI.ok scRInit (fun vs H Q E h => ?_) (fun cdv A outer s H vs Q E hr h => ?_)
  · obtain ⟨a, dx, x, t, rfl, _⟩ := h
    rfl
  · obtain ⟨a, dx, x, t, rfl, ha, hx, k⟩ := h
    refine ⟨_, pss_cons (ps_fld (pv 0) (pe_ifExp (pt_val (pe_callB call_isi (by rfl) TG.isi PyProof.Rows.boot_isinstance (pa_cons (pv 1) (pa_cons (pe_bltn (v := .ty "str") (by rfl) TG.str PyProof.Rows.boot_str rfl) pa_nil)))) (pv 1) pe_str) rfl)
      (pss_one (ps_fld (pv 0) pe_int rfl)), ?_⟩
    have fin : ∀ z : Str, z = t → (Q .non (upd (upd H a (.ins C dx (putF "text" (.str z) []))) a (.ins C dx (putF "place" (.int 0) (putF "text" (.str z) []))))) := fun z hz => by
      rw [hz, upd_upd]
      exact k
    rcases hx with rfl | ⟨rfl, rfl | ⟨l, xs, rfl, hl⟩⟩
    · refine ⟨_, rfl, _, _, _, _, true, rfl, .ty _, .base (.str t), kit_ty (by decide +kernel), _, rfl, iteT ?_⟩
      exact ⟨_, rfl, _, rfl, a, C, dx, [], rfl, ha, T.t.cl, T.t.nT, (by show 0 < 1000; decide), _, rfl, a, C, dx, _, rfl, upd_same, T.t.cl, T.t.nP, (by show 1 < 1000; decide), fin _ rfl⟩
    · refine ⟨_, rfl, _, _, _, _, false, rfl, .ty _, .base .non, kit_ty (by decide +kernel), _, rfl, iteF ?_⟩
      exact ⟨_, rfl, a, C, dx, [], rfl, ha, T.t.cl, T.t.nT, (by show 0 < 1000; decide), _, rfl, a, C, dx, _, rfl, upd_same, T.t.cl, T.t.nP, (by show 1 < 1000; decide), fin _ rfl⟩
    · refine ⟨_, rfl, _, _, _, _, false, rfl, .ty _, .base (.lst hl), kit_ty (by decide +kernel), _, rfl, iteF ?_⟩
      exact ⟨_, rfl, a, C, dx, [], rfl, ha, T.t.cl, T.t.nT, (by show 0 < 1000; decide), _, rfl, a, C, dx, _, rfl, upd_same, T.t.cl, T.t.nP, (by show 1 < 1000; decide), fin _ rfl⟩
end
end G4

set_option Elab.async false
set_option linter.all false
set_option maxRecDepth 100000
set_option maxHeartbeats 4000000
namespace G4
open PySem PySem.Spec PyProof.Rows L2
theorem scRead2 : FnScope ["text", "reader", "row", "width", "found", "cell", "value"] ["text"] (defScope sRead) := ⟨rfl, rfl, rfl, by decide +kernel, rfl, by decide +kernel, by decide +kernel⟩
section
variable {P : Program} {w : World} {K : PySem.W.Frag} {mg : Str → Option Value} {base : Heap} {CB fI fC : Addr} {fdI fdC : FuncData}
variable {C fEnds fSees fDigit fTake fNumber fShut : Addr} {dEnds dSees dDigit dTake dNumber dShut : FuncData} {cT pT : Addr}
variable {fPlace fRow fRead fRI : Addr} {dPlace dRow dRead dRI : FuncData}
theorem ok_read (T : TxtR K mg C fEnds fSees fDigit fTake fNumber fShut dEnds dSees dDigit dTake dNumber dShut) (TE : TxtE K mg CB fI fC fdI fdC) (TT : TxtT K mg base fTake cT pT dTake) (TG : TxtG K mg fPlace fRow fRead fRI C dPlace dRow dRead dRI) : FnOk P w K mg base (L2.CX P w) 7 fRead dRead ["text"] (spRead CB pT) := by
  have GE : FnOk P w K mg base CX0 1 fEnds dEnds ["self"] (spEnds C) := ok_ends T.FEnds T.t
  have GT : FnOk P w K mg base (L2.CX P w) 4 fTake dTake ["self", "words"] (spTake C CB pT K) := ok_take T TE TT
  have GW : FnOk P w K mg base (L2.CX P w) 6 fRow dRow ["reader", "most"] (spRow C CB pT) := ok_row T TE TT TG
  have GS : FnOk P w K mg base (L2.CX P w) 4 fShut dShut ["self"] (spShut C CB) := ok_shut T TE
  have GR : FnOk P w K mg base CX0 1 fRI dRI ["self", "text"] (spRI C) := ok_RI T TG
  refine TG.FRead.okX scRead2 (fun vs H Q E h => ?_) (fun cdv A outer s H vs Q E hr h => ?_)
  · obtain ⟨x, t, rfl, _⟩ := h
    rfl
  · obtain ⟨x, t, rfl, hx, hz, hT, kB, kQ⟩ := h
    have hz' : t.length ≤ sizeLine := by
      rw [sizeLine_eq]
      omega
    have hu := hu_of hr
    refine ⟨_, pss_cons (ps_set (i := 1) scRead2.nd rfl (.inl rfl) (pe_make TG.mkr GR (hr.mono (by decide)) (by rfl) TG.gReader TG.bRI .nil pass0 (pa_cons (pv 0) pa_nil)))
      (pss_cons (ps_set (i := 2) scRead2.nd rfl (.inl rfl) (pe_call GW hr (by rfl) TG.gRow TG.FRow.kp TG.bRow .nil (passes_call (takes_of rfl rfl rfl rfl) fun _ _ _ _ h => h) (pa_cons (pv 1) (pa_cons pe_non pa_nil))))
      (pss_cons (ps_set (i := 3) scRead2.nd rfl (.inl rfl) (pe_callB call_len_seq (by rfl) T.t.len PySem.boot_len (pa_cons (pv 2) pa_nil)))
      (pss_cons (ps_set (i := 4) scRead2.nd rfl (.inl rfl) (pe_callTy call_list_of (by rfl) TG.lst PyProof.Rows.boot_list (pa_cons (pv 2) pa_nil)))
      (pss_cons (ps_while PassesOwn.leaving (pw_and (pt_cmpR op_eq (pe_callB call_len_seq (by rfl) T.t.len PySem.boot_len (pa_cons (pv 2) pa_nil)) (pv 3) (nomark _)) (pw_and1 (pt_not (pt_val (pe_meth0 (pv 1) T.t.cl T.mEnds GE (hr.mono (by decide)) T.bEnds .nil pass0))))).pt
        (pss_cons (ps_expr (pe_meth (pv 1) T.t.cl T.mTake GT (hr.mono (by decide)) T.bTake .nil (passes_call (takes_of rfl rfl rfl rfl) fun _ _ _ _ h => h) (pa_cons (pe_tup (pa_cons pe_str pa_nil)) pa_nil)))
        (pss_cons (ps_set (i := 2) scRead2.nd rfl (.inl rfl) (pe_call GW hr (by rfl) TG.gRow TG.FRow.kp TG.bRow .nil (passes_call (takes_of rfl rfl rfl rfl) fun _ _ _ _ h => h) (pa_cons (pv 1) (pa_cons (pv 3) pa_nil))))
        (pss_one (ps_expr (pe_bm PySem.F.plainAttrs_list PySem.F.slot_list_extend PySem.F.type_list_extend mt_extend (pv 4) (pa_cons (pv 2) pa_nil)))))))
      (pss_cons (ps_expr (pe_meth0 (pv 1) T.t.cl T.mShut GS (hr.mono (by decide)) T.bShut .nil (passes_call (takes_of rfl rfl rfl rfl) fun _ _ _ _ h => h)))
      (pss_one (ps_ret (pe_tup (pa_cons (pe_callB call_len_seq (by rfl) T.t.len PySem.boot_len (pa_cons (pv 4) pa_nil)) (pa_cons (pv 3) (pa_cons (pe_callTy call_tuple_of (by rfl) TG.tpl PyProof.Rows.boot_tuple
        (pa_cons (pe_lc (own := [("cell", 5), ("value", 6)]) (g := gTup K 2 (gCons (gName 5) (gCons (gName 6) gNil))) rfl scRead2.nd (pi_enum (by rfl) TG.enm (pa_cons (pv 4) pa_nil)) (blkOk_by (N := ["text", "reader", "row", "width", "found", "cell", "value"]) (sc := defScope sRead) (by decide +kernel))
          (fun _ _ _ _ _ => pg_tup rfl (pgs_cons (pg_name (i := 5) scRead2.nd rfl (.inl rfl) (.inr rfl)) (pgs_cons (pg_name (i := 6) scRead2.nd rfl (.inl rfl) (.inr rfl)) pgs_nil)))
          (fun _ _ _ _ _ => pts_one (pt_cmp (pc_notN (pv 6))))
          (fun _ _ _ _ _ => pe_tup (pa_cons (pv 5) (pa_cons (pv 6) pa_nil)))) pa_nil)) pa_nil))))))))))), ?_⟩
    -- reader = Reader(text)
    refine ⟨_, rfl, fun a dx ha hdx hne => ?_⟩
    have keep0 : ∀ (b : Addr) (o u v : HO), H b = some o → upd (upd H dx u) a v b = some o := fun b o u v e => by
      rw [upd_ne (ne_of_none e ha), upd_ne (ne_of_none e hdx)]
      exact e
    have hx' : Given (upd (upd H dx (.own a)) a (.ins C dx [])) x t := by
      rcases hx with h | ⟨h, h2 | ⟨l, xs, h2, h3⟩⟩
      · exact .inl h
      · exact .inr ⟨h, .inl h2⟩
      · exact .inr ⟨h, .inr ⟨l, xs, h2, keep0 _ _ _ _ h3⟩⟩
    refine ⟨a, dx, x, t, rfl, upd_same, hx', rfl, ?_⟩
    rw [upd_upd]
    have keep1 : ∀ b o, b ≠ pT → H b = some o → upd (upd H dx (.own a)) a (.ins C dx (flds t 0)) b = some o := fun b o _ e => keep0 b o _ _ e
    have haP : a ≠ pT := tabG_free hT ha
    have hT1 : GxR.TabG (upd (upd H dx (.own a)) a (.ins C dx (flds t 0))) pT := tabG_upd (tabG_upd hT (tabG_free hT hdx)) haP
    generalize hH1 : upd (upd H dx (.own a)) a (.ins C dx (flds t 0)) = H1 at keep1 hT1 ⊢
    have ha1 : H1 a = some (.ins C dx (flds t 0)) := by rw [← hH1, upd_same]
    clear hH1 hx'
    -- row = _read_grid_row(reader, None)
    refine ⟨_, rfl, a, dx, t, 0, none, rfl, ha1, hz, Nat.zero_le _, hT1, fun e he => fun H' k => ?_, fun r0 q0 hrq l0 H2 hl0 k2 ha2 hl2 => ?_⟩
    · exact kB e (by unfold gridR; rw [he]) H' (kpO_of hT ha keep1 k)
    have hq0 := rowR_len (Nat.zero_le _) hrq
    -- width, found
    refine ⟨_, rfl, l0, _, rfl, .inl (.inl (.inl hl2)), ?_⟩
    rw [List.length_map]
    refine ⟨_, rfl, l0, _, rfl, .inl (.inl (.inl hl2)), fun fo hfo => ?_⟩
    have nfa : fo ≠ a := (ne_of_none ha2 hfo).symm
    have hfoH : H fo = none := by
      cases e : H fo with
      | none => rfl
      | some o =>
        have e2 := (kpO_of hT ha keep1 k2).2 fo o (tabG_free k2.1 hfo) e
        rw [hfo] at e2
        cases e2
    have hGr : gridR t = (match gridL t r0.length (t.length + 1 - q0) q0 r0 r0.length with
      | .error e => .error e
      | .ok found => .ok (found, r0.length)) := by
      unfold gridR
      rw [hrq] <;> rfl
    -- the rows
    refine ⟨fun m σ H' => ∃ (q lr : Nat) (cur : List V) (found : List (Option Nat)), m = t.length - q ∧ σ = [some x, some (.ref a), some (.ref lr), some (.int ((r0.length : Nat) : Int)), some (.ref fo), none, none] ∧ q ≤ t.length ∧ KpO pT H H' ∧ H' a = some (.ins C dx (flds t q)) ∧
        H' lr = some (.lst cur) ∧ H' fo = some (.lst (found.map valV)) ∧ found.length ≤ q + 1 ∧ cur.length ≤ q + 1 ∧ gridL t r0.length (t.length + 1 - q0) q0 r0 r0.length = gridL t r0.length (t.length + 1 - q) q found cur.length,
      ⟨_, q0, l0, r0.map valV, r0, rfl, rfl, hq0.2.2.1, ?_, ?_, ?_, upd_same, by omega, by rw [List.length_map]; omega, by rw [List.length_map]⟩, fun m σ H' hW => ?_⟩
    · refine ⟨tabG_upd k2.1 (tabG_free k2.1 hfo), fun b o h1 e => ?_⟩
      rw [upd_ne (ne_of_none e hfoH)]
      exact (kpO_of hT ha keep1 k2).2 b o h1 e
    · rw [upd_ne nfa.symm]
      exact ha2
    · rw [upd_ne (ne_of_none hl2 hfo)]
      exact hl2
    clear hl2 hl0 ha2 k2 hfo hrq
    obtain ⟨q, lr, cur, found, rfl, rfl, hq, k3, ha3, hlr, hfo, hfl, hcl, hG⟩ := hW
    have R : RdAt C H' a t q := ⟨⟨dx, ha3⟩, hz', hq⟩
    have nE : (flds t q).lookup ("ends" : Str) = none := flds_no _ _ (by decide +kernel) (by decide +kernel)
    have nT : (flds t q).lookup ("take" : Str) = none := flds_no _ _ (by decide +kernel) (by decide +kernel)
    have nS : (flds t q).lookup ("shut" : Str) = none := flds_no _ _ (by decide +kernel) (by decide +kernel)
    obtain ⟨kk, hkk⟩ : ∃ k, t.length + 1 - q = k + 1 := ⟨t.length - q, by omega⟩
    -- behind the rows
    suffices fin : ¬ (cur.length = r0.length ∧ q ≠ t.length) → _ by
      refine ⟨_, rfl, lr, _, rfl, .inl (.inl (.inl hlr)), _, rfl, rfl, _, rfl, ?_⟩
      rw [dec_int]
      by_cases c : cur.length = r0.length
      · refine if_true_of (decide_eq_true c) ?_
        refine ⟨_, rfl, a, dx, _, rfl, ha3, nE, a, t, q, rfl, R, _, rfl, ?_⟩
        by_cases d : q = t.length
        · refine if_false_of (by rw [decide_eq_true d]; rfl) ?_
          exact fin fun z => z.2 d
        · refine if_true_of (by rw [decide_eq_false d]; rfl) ?_
          have hstep : ∀ y, gridL t r0.length (t.length + 1 - q) q found cur.length = y → gridL t r0.length (t.length + 1 - q0) q0 r0 r0.length = y := fun y hy => hG.trans hy
          rw [hkk] at hstep
          have hfoP : fo ≠ pT := tabG_ne k3.1 hfo lst_ntbl
          refine ⟨fun σ' H'' => ∃ (q' lr : Nat) (cur : List V) (found : List (Option Nat)), q < q' ∧ σ' = [some x, some (.ref a), some (.ref lr), some (.int ((r0.length : Nat) : Int)), some (.ref fo), none, none] ∧ q' ≤ t.length ∧ KpO pT H H'' ∧ H'' a = some (.ins C dx (flds t q')) ∧
              H'' lr = some (.lst cur) ∧ H'' fo = some (.lst (found.map valV)) ∧ found.length ≤ q' + 1 ∧ cur.length ≤ q' + 1 ∧ gridL t r0.length (t.length + 1 - q0) q0 r0 r0.length = gridL t r0.length (t.length + 1 - q') q' found cur.length, fun σ' H'' hN => ?_, ?_⟩
          · obtain ⟨q', lr, cur, found, h1, h2, h3, h4⟩ := hN
            exact ⟨t.length - q', by omega, q', lr, cur, found, rfl, h2, h3, h4⟩
          refine ⟨_, rfl, a, dx, _, rfl, ha3, nT, (by show 1 ≤ sizeLine; decide), fun tp htp => ?_⟩
          have nat : a ≠ tp := ne_of_none ha3 htp
          have kk1 : ∀ H2, Tbd pT (upd H' tp (.tup [.str ⟨#[10]⟩])) H2 → Kp pT a H' H2 := fun H2 h2 => kp_trans (kp_new k3.1 htp) (kp_tbd h2)
          refine ⟨a, dx, tp, t, q, 10, rfl, .inl (.inl upd_same), by rw [upd_ne nat]; exact ha3, hz', hq, tabG_upd k3.1 (tabG_free k3.1 htp), fun z H2 h2 => ?_, fun z H2 h2 => ?_⟩
          · refine kB q ?_ H2 (kpO_of hT ha k3.2 (kk1 H2 h2))
            rw [hGr, hstep _ (by
              unfold gridL
              rw [if_pos ⟨c, d⟩, if_neg z])]
          · have hlt := sg_lt z
            have k4 : Kp pT a H' (upd H2 a (.ins C dx (flds t (q + 1)))) := kp_trans (kk1 H2 h2) (kp_self h2.1 haP)
            refine ⟨_, rfl, _, rfl, a, dx, t, q + 1, some r0.length, rfl, upd_same, hz, hlt, k4.1, fun e he => fun H5 k5 => ?_, fun r2 q2 hr2 l2 H5 hl2 k5 ha5 hl5 => ?_⟩
            · refine kB e ?_ H5 (kpO_of hT ha k3.2 (kp_trans k4 k5))
              rw [hGr, hstep _ (by
                unfold gridL
                rw [if_pos ⟨c, d⟩, if_pos z, he])]
            · have h9 := rowR_len (t := t) hlt hr2
              have hfo4 := k4.2 fo _ hfoP nfa hfo
              have hfo5 := k5.2 fo _ hfoP nfa hfo4
              have nfl : fo ≠ l2 := ne_of_none hfo4 hl2
              refine ⟨_, rfl, .inl ⟨rfl, _, .inl (.inl hfo5)⟩, _, rfl, fo, l2, _, _, rfl, rfl, hfo5, hl5, ?_, q2, l2, r2.map valV, found ++ r2, by omega, rfl, h9.2.2.1, ?_, ?_, ?_, ?_, ?_, ?_, ?_⟩
              · rw [List.length_map, List.length_map, sizeLine_eq]
                omega
              · have k9 := kpO_of hT ha k3.2 (kp_trans k4 k5)
                refine ⟨tabG_upd k9.1 hfoP, fun b o h1 e => ?_⟩
                rw [upd_ne (ne_of_none e hfoH)]
                exact k9.2 b o h1 e
              · rw [upd_ne nfa.symm]
                exact ha5
              · rw [upd_ne nfl.symm]
                exact hl5
              · rw [upd_same, List.map_append]
              · rw [List.length_append]
                omega
              · rw [List.length_map]
                omega
              · rw [List.length_map]
                refine hstep _ ?_
                show (if cur.length = r0.length ∧ q ≠ t.length then _ else _) = _
                rw [if_pos ⟨c, d⟩, if_pos z, hr2]
                exact gridL_fuel _ _ q2 _ _ h9.2.2.1 (by omega) (Nat.le_refl _)
      · refine if_false_of (decide_eq_false c) ?_
        exact fin fun z => c z.1
    intro hc
    have hstep : gridL t r0.length (t.length + 1 - q0) q0 r0 r0.length = (if q = t.length then .ok found else .error q) := by
      rw [hG, hkk]
      show (if cur.length = r0.length ∧ q ≠ t.length then _ else _) = _
      rw [if_neg hc]
    -- reader.shut()
    refine ⟨_, rfl, a, dx, _, rfl, ha3, nS, a, t, q, rfl, R, fun z => ?_, fun z => ?_⟩
    · exact kB q (by rw [hGr, hstep, if_neg z]) H' k3
    have hok : gridR t = .ok (found, r0.length) := by rw [hGr, hstep, if_pos z]
    clear hstep hGr
    refine ⟨_, rfl, fo, _, rfl, .inl (.inl (.inl hfo)), _, rfl, ?_⟩
    rw [List.length_map]
    refine ⟨_, rfl, fo, _, rfl, .inl (.inl hfo), fun D hD => ?_⟩
    have hfoD : fo ≠ D := ne_of_none hfo hD
    have hDH : H D = none := by
      cases e : H D with
      | none => rfl
      | some o =>
        have e2 := k3.2 D o (tabG_free k3.1 hD) e
        rw [hD] at e2
        cases e2
    refine ⟨fun i m H4 => m = found.length - i ∧ i ≤ found.length ∧ KpO pT H H4 ∧ H4 fo = some (.lst (found.map valV)) ∧ ∃ vs, H4 D = some (.lst vs) ∧ vs.length ≤ i ∧ PairsAt H4 vs (cellsFromN 0 (found.take i)), ⟨_, rfl, Nat.zero_le _, ?_, ?_, [], upd_same, Nat.zero_le _, .nil⟩, fun i m H4 hW => ?_⟩
    · refine ⟨tabG_upd k3.1 (tabG_free k3.1 hD), fun b o h1 e => ?_⟩
      rw [upd_ne (ne_of_none e hDH)]
      exact k3.2 b o h1 e
    · rw [upd_ne hfoD]
      exact hfo
    clear hD
    obtain ⟨rfl, hi, k4, hfo4, vs, hvs, hvl, hpa⟩ := hW
    by_cases ei : i = found.length
    · refine .inl ⟨⟨_, .inl (.inl hfo4), by rw [List.length_map]; omega⟩, ?_⟩
      refine ⟨D, _, rfl, .inl ⟨.inl (.inl hvs), fun tt htt => ?_⟩⟩
      refine ⟨(by show 3 ≤ sizeLine; decide), fun r hr => ?_⟩
      have nrt : tt ≠ r := ne_of_none upd_same hr
      have hrtt : upd H4 tt (.tup vs) r = none := hr
      have hr4 : H4 r = none := by
        rw [upd_ne nrt.symm] at hr
        exact hr
      rw [ei, List.take_length] at hpa
      refine kQ found r0.length hok r _ ?_ ?_ ⟨tt, vs, upd_same, by rw [upd_ne nrt, upd_same], ?_⟩
      · refine ⟨tabG_upd (tabG_upd k4.1 (tabG_free k4.1 htt)) (tabG_free k4.1 hr4), fun b o h1 e => ?_⟩
        have e4 := k4.2 b o h1 e
        rw [upd_ne (ne_of_none e4 hr4), upd_ne (ne_of_none e4 htt)]
        exact e4
      · cases e : H r with
        | none => rfl
        | some o =>
          have e2 := k4.2 r o (tabG_free k4.1 hr4) e
          rw [hr4] at e2
          cases e2
      · refine hpa.keep fun b ys e => ?_
        rw [upd_ne (ne_of_none e hr4), upd_ne (ne_of_none e htt)]
        exact e
    · have hlt : i < found.length := by omega
      have hget : (found.map valV)[i]? = some (valV found[i]) := by
        rw [List.getElem?_map, List.getElem?_eq_getElem hlt]
        rfl
      have htk : found.take (i + 1) = found.take i ++ [found[i]] := by
        rw [List.take_add_one, List.getElem?_eq_getElem hlt]
        rfl
      have hlen : (found.take i).length = i := by
        rw [List.length_take]
        omega
      have hDP : D ≠ pT := tabG_ne k4.1 hvs lst_ntbl
      refine .inr ⟨⟨_, _, .inl (.inl hfo4), hget⟩, fun H5 => KpO pT H H5 ∧ H5 fo = some (.lst (found.map valV)) ∧ ∃ vs, H5 D = some (.lst vs) ∧ vs.length ≤ i + 1 ∧ PairsAt H5 vs (cellsFromN 0 (found.take (i + 1))), fun H5 hN => ⟨found.length - (i + 1), by omega, rfl, by omega, hN⟩, fun v H5 hy => ?_⟩
      obtain ⟨Tt, y, rfl, hTt, rfl, hy⟩ := hy
      have ey : y = valV found[i] := Option.some.inj ((hy _ (.inl (.inl hfo4))).symm.trans hget)
      subst ey
      have nTf : fo ≠ Tt := ne_of_none hfo4 hTt
      have nTD : D ≠ Tt := ne_of_none hvs hTt
      have nTP : Tt ≠ pT := tabG_free k4.1 hTt
      have k5 : KpO pT H (upd H4 Tt (.tup [.int ((i : Nat) : Int), valV found[i]])) := ⟨tabG_upd k4.1 nTP, fun b o h1 e => by
        have e4 := k4.2 b o h1 e
        rw [upd_ne (ne_of_none e4 hTt)]
        exact e4⟩
      have hp5 : PairsAt (upd H4 Tt (.tup [.int ((i : Nat) : Int), valV found[i]])) vs (cellsFromN 0 (found.take i)) := hpa.keep fun b ys e => by
        rw [upd_ne (ne_of_none e hTt)]
        exact e
      have hfo5 : upd H4 Tt (.tup [.int ((i : Nat) : Int), valV found[i]]) fo = some (.lst (found.map valV)) := by
        rw [upd_ne nTf]
        exact hfo4
      have hvs5 : upd H4 Tt (.tup [.int ((i : Nat) : Int), valV found[i]]) D = some (.lst vs) := by
        rw [upd_ne nTD]
        exact hvs
      refine ⟨Tt, _, rfl, .inl (.inl upd_same), rfl, _, _, rfl, _, _, rfl, rfl, rfl, _, rfl, _, rfl, ?_⟩
      cases ev : found[i] with
      | none =>
        rw [ev] at hp5 hfo5 hvs5 k5 htk
        refine if_false_of rfl ⟨k5, hfo5, vs, hvs5, by omega, ?_⟩
        rw [htk, cellsFromN_app, List.append_nil]
        exact hp5
      | some n =>
        rw [ev] at hp5 hfo5 hvs5 k5 htk
        refine if_true_of rfl ⟨_, rfl, _, rfl, (by show 2 ≤ sizeLine; decide), fun pr hpr => ?_⟩
        have nPf : fo ≠ pr := ne_of_none hfo5 hpr
        have nPD : D ≠ pr := ne_of_none hvs5 hpr
        have nfD2 : fo ≠ D := hfoD
        refine ⟨vs, by rw [upd_ne nPD]; exact hvs5, ?_, ?_, ?_, vs ++ [.ref pr], upd_same, by rw [List.length_append]; show vs.length + 1 ≤ i + 1; omega, ?_⟩
        · rw [sizeLine_eq]
          omega
        · refine ⟨tabG_upd (tabG_upd k5.1 (tabG_free k5.1 hpr)) hDP, fun b o h1 e => ?_⟩
          have e5 := k5.2 b o h1 e
          rw [upd_ne (ne_of_none e hDH), upd_ne (ne_of_none e5 hpr)]
          exact e5
        · rw [upd_ne nfD2, upd_ne nPf]
          exact hfo5
        · rw [htk, cellsFromN_app]
          refine PairsAt.snoc (hp5.keep fun b ys e => ?_) ⟨pr, rfl, ?_⟩
          · have nbD : b ≠ D := ne_of e hvs5 (by intro z; cases z)
            rw [upd_ne nbD, upd_ne (ne_of_none e hpr)]
            exact e
          · rw [upd_ne nPD.symm, upd_same, hlen, Nat.zero_add]
            rfl
end
end G4

set_option Elab.async false
set_option linter.all false
set_option maxRecDepth 100000
set_option maxHeartbeats 4000000
namespace G4
open PySem PySem.Spec PyProof.Rows L2
section
variable {X : Cx} {pins : List (Addr × Obj)} {σ : L2.St} {H : Hp} {s : Shared}
/-- tuple(xs), a list: the new tuple is known to the object -/
theorem call_tupleZ : CallR X (.type "tuple") (fun xs H Q => ∃ p ys, xs = [.ref p] ∧ SqL X.K H p ys ∧ ∀ (l : Addr) (o : Obj), H l = none → o.dict = none → o.cls = .type "tuple" → Q (.ref l) (upd H l (.frz o (.tup ys)))) := by
  intro pins s σ H xs us Q I r h
  obtain ⟨p, ys, rfl, hq, q⟩ := h
  obtain ⟨u, rfl, rx⟩ := vals1 r
  cases rx
  obtain ⟨its, r', pl, hz⟩ := I.list hq
  have hlen := r'.length
  refine call_tuple_list pl.isList (fun h' kp => ?_) (by simp only [List.size_toArray] <;> omega)
  have J : Inv X pins σ H { s with heap := h' } := I.kept (t' := s.toks) kp
  have J2 : Inv X pins σ (upd H h'.objs.size (.frz { cls := .type "tuple", data := .seq its.toArray } (.tup ys))) { s with heap := h'.push { cls := .type "tuple", data := .seq its.toArray } } :=
    J.laid (t' := s.toks) (fun b o e => Heap.get?_push_of_some _ e) (Nat.le_refl _) ⟨Heap.get?_push_size _ rfl, hz, its, r', IsTup.new _ _⟩
  exact ⟨.ref h'.objs.size, _, J2, rfl, q _ _ (J.hok.fresh (Nat.le_refl _)) rfl rfl⟩
theorem pairs2 {pins : List (Addr × Obj)} {σ : L2.St} {H : Hp} {s : Shared} (I : Inv X pins σ H s) : ∀ {ps : List Addr} {kvs : List (Key × V)}, Paired (fun p kv => SqT X.K H p [kV kv.1, kv.2]) ps kvs →
    ∃ (vps : List (Value × Value)) (prs : List (Key × Value)), KV kvs prs ∧ vps.length = ps.length ∧ prs.length = vps.length ∧ ∀ (j : Nat) (k v : Value), vps[j]? = some (k, v) → ∃ (b : Addr) (kx : Key), ps[j]? = some b ∧ prs[j]? = some (kx, v) ∧ IsTup s.heap b #[k, v] ∧ keyIs kx k = true
  | _, _, .nil => ⟨[], [], .nil, rfl, rfl, fun j k v e => by simp at e⟩
  | _, _, .cons (a := p) (b := kv) h t => by
    obtain ⟨vps, prs, r, hl, hl2, hp⟩ := pairs2 I t
    obtain ⟨its, rv, ht, _⟩ := I.tuple h
    obtain ⟨u, y, ei, ru, ry⟩ := vals2 rv
    subst ei
    refine ⟨(u, y) :: vps, (kv.1, y) :: prs, .cons ⟨rfl, ry⟩ r, congrArg (· + 1) hl, congrArg (· + 1) hl2, fun j k v e => ?_⟩
    cases j with
    | zero =>
      obtain ⟨rfl, rfl⟩ := Prod.mk.inj (Option.some.inj e)
      exact ⟨p, kv.1, rfl, rfl, ht, kV_is (P := X.prog) (w := X.w) ru⟩
    | succ j =>
      obtain ⟨b, kx, e1, e2, e3, e4⟩ := hp j k v (by simpa using e)
      exact ⟨b, kx, by simpa using e1, by simpa using e2, e3, e4⟩
/-- dict(t), t such a tuple of pairs -/
theorem call_dictZ (hcalm : X.calm = true) : CallR X (.type "dict") (fun xs H Q => ∃ (a : Addr) (o : Obj) (ps : List Addr) (kvs : List (Key × V)), xs = [.ref a] ∧ H a = some (.frz o (.tup (ps.map V.ref))) ∧ o.dict = none ∧ o.cls = .type "tuple" ∧ Paired (fun p kv => SqT X.K H p [kV kv.1, kv.2]) ps kvs ∧
    ∀ p, H p = none → Q (.ref p) (upd H p (.dK (mergeK [] kvs)))) := by
  intro pins s σ H xs us Q I r q
  obtain ⟨a, o, ps, kvs, rfl, ha, hod, hoc, hp, q⟩ := q
  obtain ⟨u, rfl, rx⟩ := vals1 r
  cases rx
  obtain ⟨hget, hz, its, rv, o', ho', hc', n, hd'⟩ := I.hok a _ ha
  rw [hget] at ho'
  cases ho'
  have ei := refs_at rv
  subst ei
  rw [List.length_map] at hz
  obtain ⟨vps, prs, rel, hl, hl2, hpr⟩ := pairs2 I hp
  have hn : ps.length = vps.length := hl.symm
  have hm : (s.heap.objs.size == sysModules) = false := beq_eq_false_iff_ne.mpr (Nat.ne_of_gt I.big)
  refine PySem.call_dict_pairs (knd := mixKind X.prog X.w) (kvs := prs) (PairArg.tuple a _ (fun j => ps.getD j 0) vps) (I.ok.hd hcalm) ⟨⟨o, n, hget, hc', hod, hd'⟩, by simp [hn], fun j k v e => ?_⟩ ⟨hl2, fun j k v e => ?_⟩ (by rw [hl]; exact hz) fun h' tk hdict hk => ?_
  · obtain ⟨b, kx, e1, _, e3, _⟩ := hpr j k v e
    refine ⟨by simp [List.getElem?_map, e1, List.getD_eq_getElem?_getD], .inl ?_⟩
    show s.heap.IsTuple (ps.getD j 0) #[k, v]
    rw [List.getD_eq_getElem?_getD, e1]
    exact e3
  · obtain ⟨b, kx, _, e2, _, e4⟩ := hpr j k v e
    exact ⟨kx, e2, e4⟩
  · have hlen : (mergeK [] kvs).length ≤ sizeLine := by
      refine Nat.le_trans (length_mergeK kvs []) ?_
      rw [List.length_nil, Nat.zero_add, rel.length, hl2, hl]
      exact hz
    exact ⟨.ref s.heap.objs.size, upd H s.heap.objs.size (.dK (mergeK [] kvs)), I.laid (t' := tk) (fun b o e => hk b o (by simp) e) (Nat.le_refl _) (show ObjOk X.prog X.w _ _ _ (.dK (mergeK [] kvs)) from ⟨hlen, hm, merged [] prs, KV.merge rel .nil, hdict⟩), rfl, q _ (I.hok.fresh (Nat.le_refl _))⟩
/-- a range object -/
def rgO (q : Addr) (i j c : Int) : HO := .ext fun h => ∃ t u v : Tok, IsRange h q i j c t u v
theorem pe_range3 {a b c : Expr} {ta : TA} {p pos : Pos} (hg : Gl X "range") (hm : X.mg "range" = none) (ha : PA X [a, b, c] ta)
    (hs : starEach [a, b, c] X.env = (false, eval a X.env) :: starEach [b, c] X.env := by rfl) (hpl : (backTo pos (starEach [b, c] X.env)).any (·.1) = false := by rfl) :
    PE X (.Call (.Name "range" p) [a, b, c] [] pos) (fun σ H Q => ta σ H fun vs H1 => ∃ (i j k : Int) (n : Nat), vs = [.int i, .int j, .int k] ∧ RgC i j k n ∧ ∀ q, H1 q = none → Q (.ref q) (upd H1 q (rgO q i j k))) := by
  refine ⟨fun pins s σ H Q I h => ?_⟩
  refine Call_ (ld_blt I hg hm boot_range (PyProof.Rows.callWith_type1 (thn (ha.run pos pins s σ H _ I h) fun us s1 hh => ?_) hs hpl))
  obtain ⟨vs, H1, I1, r1, i, j, k, n, rfl, ⟨c0, c1, c2, c3⟩, q⟩ := hh
  cases r1 with
  | cons ra rr =>
    cases rr with
    | cons rb rr =>
      cases rr with
      | cons rc rr =>
        cases rr
        obtain ⟨t, rfl⟩ := ra
        obtain ⟨u, rfl⟩ := rb
        obtain ⟨v, rfl⟩ := rc
        refine call_range_3 c0 ?_ (.inl (PyProof.noPylong_small c1))
        have e : (s1.heap.push { cls := .type "range", data := .fields #[.int i t, .int j u, .int k v] }).get? s1.heap.objs.size = some { cls := .type "range", data := .fields #[.int i t, .int j u, .int k v] } := Heap.get?_push_size _ rfl
        refine ⟨.ref s1.heap.objs.size, upd H1 s1.heap.objs.size (rgO s1.heap.objs.size i j k), I1.laid (t' := s1.toks) (fun b o e => Heap.get?_push_of_some _ e) (Nat.le_refl _) ⟨⟨t, u, v, e⟩, ⟨_, e⟩, fun h1 h2 z kk => ?_⟩, rfl, q _ (I1.hok.fresh (Nat.le_refl _))⟩
        obtain ⟨t', u', v', z'⟩ := z
        exact ⟨t', u', v', kk _ z'⟩
theorem src_range {H1 : Hp} {P q : Addr} {i j c : Int} {n : Nat} (hq : H1 q = some (rgO q i j c)) (hr : RgC i j c n) : Src X pins σ (.ref q) H1 P n (fun k v => ∃ t, v = .int (i + (k : Nat) * c) t) := by
  intro s1 xv I1 rv
  obtain rfl : xv = Value.ref q := rv
  obtain ⟨c0, c1, c2, c3⟩ := hr
  obtain ⟨⟨t, u, v, hR⟩, _⟩ := (show ObjOk X.prog X.w H1 s1.heap q (.ext fun h => ∃ t u v : Tok, IsRange h q i j c t u v) from I1.hok q _ hq)
  refine ⟨[], _, (fun k h => IsRangeIter h s1.heap.objs.size (i + (k : Nat) * c) ((n : Int) - (k : Nat)) c), _, fun Q hQ => wpAny_pyIter_range hR c2 hQ, fun b hb => by simp at hb, fun A' hA => Walks.range hA _ i c n, fun h3 hk => ?_⟩
  have e1 : i + ((0 : Nat) : Int) * c = i := by simp
  have e2 : (n : Int) - ((0 : Nat) : Int) = Builtin.Range.rangeSize i j c := by rw [c3]; simp
  show IsRangeIter h3 _ (i + ((0 : Nat) : Int) * c) ((n : Int) - ((0 : Nat) : Int)) c
  rw [e1, e2]
  exact hk _ List.mem_cons_self _ (Heap.get?_push_size _ rfl)
/-- sep.join(xs[start:start + width]), start the item; xs, width captured -/
theorem elt_join {scope : Scope} {x y z : Str} {sep : Str} {jc : Nat} {p1 p2 p3 p4 p5 p6 p7 p8 p9 p10 : Pos} {iy iz : Nat} {xl : Addr} {ws : List Str} {wd : Int} {a0 c0 : Int} {s1 : Shared} {H1 : Hp} {P : Addr} {ps : Array Value} (I : Inv X pins σ H1 s1) (hP : H1 P = some (.tbl ps))
    (hNy : X.N[iy]? = some y) (hσy : σ[iy]? = some (some (.ref xl))) (hky : X.env.kindOf y = some .cell) (hfy : (y, NameKind.free) ∈ scope.names) (hly : scope.names.lookup y = some NameKind.free)
    (hNz : X.N[iz]? = some z) (hσz : σ[iz]? = some (some (.int wd))) (hkz : X.env.kindOf z = some .cell) (hfz : (z, NameKind.free) ∈ scope.names) (hlz : scope.names.lookup z = some NameKind.free)
    (hxl : H1 xl = some (.lst (ws.map V.str))) (hsum : (ws.map (·.length)).sum + ws.length * sep.length ≤ 100000) (hw0 : 0 ≤ wd) (ha0 : 0 ≤ a0) (hc0 : 0 ≤ c0)
    (hkind : scope.kind = .function) (hx : scope.names.lookup x = some .local) (hline : (p2.endLine == p10.line) = true) (hd : (x == ("__debug__" : Str)) = false := by decide) (hdy : (y == ("__debug__" : Str)) = false := by decide) (hdz : (z == ("__debug__" : Str)) = false := by decide)
    (hcy : (y == ("__classdict__" : Str)) = false := by decide) (hcz : (z == ("__classdict__" : Str)) = false := by decide) :
    EltG X scope x (.Call (.Attribute (.Constant (.str sep) jc p1) "join" p2) [.Subscript (.Name y p3) (.Slice (some (.Name x p4)) (some (.BinOp (.Name x p5) .Add (.Name z p6) p7)) none p8) p9] [] p10) s1 P
      (fun k v => ∃ t, v = .int (a0 + (k : Nat) * c0) t) (fun k v => ∃ t, v = .str (Txt.join sep ((ws.drop (a0 + (k : Nat) * c0).toNat).take wd.toNat)) t) := by
  intro cenv A' E' j v s2 m2 hs hc hg hA hPv hn hm hkeep
  obtain ⟨t, rfl⟩ := hPv
  obtain ⟨cy, uy, ruy, hcly, hcelly⟩ := free_look (scope := scope) I hP hNy hσy hky hfy hly
  obtain ⟨cz, uz, ruz, hclz, hcellz⟩ := free_look (scope := scope) I hP hNz hσz hkz hfz hlz
  obtain rfl : uy = Value.ref xl := ruy
  obtain ⟨tz, rfl⟩ := (show ∃ t, uz = Value.int wd t from ruz)
  have hk' : cenv.scope.kind = .function := by rw [hs]; exact hkind
  have hxl' : cenv.scope.names.lookup x = some .local := by rw [hs]; exact hx
  have hxP : xl ≠ P := fun e => by
    rw [e, hP] at hxl
    cases hxl
  refine wpAny_Call_method_late (by rfl) (by rfl) hline rfl (Calls.Constant_str ?_)
  refine ⟨"str", _, PySem.F.plainAttrs_str, PySem.F.slot_str_join, PySem.F.type_str_join, typeIs_str _ _ _, (fun _ e => nomatch e), ?_⟩
  refine Calls.callWith_builtin (by rfl) (Calls.evalArgs_plain ?_)
  refine Calls.spliced_cons ?_
  refine Subscript_ ?_
  refine wpAny_Name (wpAny_loadName_free hk' (show cenv.scope.names.lookup y = some .free by rw [hs]; exact hly) (by rw [hc]; exact hcly) (hcelly _ hkeep) ?_ hcy) hdy
  refine wpAny_Slice ?_
  rw [evalPart_some]
  refine wpAny_Name (wpAny_loadName_local hk' hxl' hn hm ?_) hd
  rw [evalPart_some]
  refine wpAny_BinOp ?_
  refine wpAny_Name (wpAny_loadName_local hk' hxl' hn hm ?_) hd
  refine wpAny_Name (wpAny_loadName_free hk' (show cenv.scope.names.lookup z = some .free by rw [hs]; exact hlz) (by rw [hc]; exact hclz) (hcellz _ hkeep) ?_ hcz) hdz
  refine add_int ?_
  rw [evalPart_none]
  refine wpAny_pure ?_
  obtain ⟨its, rvs, pl, hz9⟩ := I.list (X := X) (.inl (.inl hxl))
  have hlen := rvs.length
  have hl2 : ∀ h' : Heap, (∀ b o, b ≠ P → s1.heap.get? b = some o → h'.get? b = some o) → h'.IsList xl its.toArray := fun h' hk => by
    obtain ⟨o, e, r⟩ := pl.isList
    exact ⟨o, hk xl o hxP e, r⟩
  have hk3 : ∀ o, ∀ b o', b ≠ P → s1.heap.get? b = some o' → (s2.heap.push o).get? b = some o' := fun o b o' hb e => Heap.get?_push_of_some _ (hkeep b o' hb e)
  refine tail_any (ops := [.ref s2.heap.objs.size, .ref xl]) (hl2 _ (hk3 _)).typeIs slot_list_getitem.lookup ?_ (by with_unfolding_all rfl)
  refine wpAny_getItem_list_slice (lo := some (a0 + (j : Nat) * c0)) (hi := some (a0 + (j : Nat) * c0 + wd)) (st := none) (hl2 _ (hk3 _)) (Heap.IsSliceOf.new ..) (.int _ _) (.int _ _) .none (by simp) ?_ (by rw [List.size_toArray, ← hlen]; exact hz9)
  rw [slicePick_cut]
  refine Calls.spliced_nil ?_
  have hcut : cutV (ws.map V.str) (some (a0 + (j : Nat) * c0)) (some (a0 + (j : Nat) * c0 + wd)) = ((ws.drop (a0 + (j : Nat) * c0).toNat).take wd.toNat).map V.str := by
    have hj0 : 0 ≤ a0 + (j : Nat) * c0 := by
      have := Int.mul_nonneg (show (0 : Int) ≤ (j : Nat) by omega) hc0
      omega
    obtain ⟨m, hm2⟩ := Int.eq_ofNat_of_zero_le hj0
    obtain ⟨k, hk2⟩ := Int.eq_ofNat_of_zero_le hw0
    unfold cutV
    rw [hm2, hk2, show ((m : Int) + (k : Int)) = ((m + k : Nat) : Int) by omega, HT.sIx_nat, HT.sIx_nat, Int.toNat_natCast, Int.toNat_natCast, List.length_map]
    by_cases c : m ≤ ws.length
    · rw [Nat.min_eq_left c, ← List.map_drop, ← List.map_take]
      by_cases d : m + k ≤ ws.length
      · rw [Nat.min_eq_left d, Nat.add_sub_cancel_left]
      · rw [Nat.min_eq_right (by omega), List.take_of_length_le (l := ws.drop m) (i := ws.length - m) (by rw [List.length_drop]; omega), List.take_of_length_le (l := ws.drop m) (i := k) (by rw [List.length_drop]; omega)]
    · rw [Nat.min_eq_right (show ws.length ≤ m by omega), Nat.min_eq_right (show ws.length ≤ m + k by omega), Nat.sub_self, List.take_zero, List.drop_of_length_le (l := ws) (i := m) (by omega)]
      simp
  have hvc := (rvs.drop (HT.sIx its.length 0 (some (a0 + (j : Nat) * c0)))).take (HT.sIx its.length its.length (some (a0 + (j : Nat) * c0 + wd)) - HT.sIx its.length 0 (some (a0 + (j : Nat) * c0)))
  have hvc2 : Vals (cutV (ws.map V.str) (some (a0 + (j : Nat) * c0)) (some (a0 + (j : Nat) * c0 + wd))) ((its.drop (HT.sIx its.length 0 (some (a0 + (j : Nat) * c0)))).take (HT.sIx its.length its.length (some (a0 + (j : Nat) * c0 + wd)) - HT.sIx its.length 0 (some (a0 + (j : Nat) * c0)))) := by
    unfold cutV
    rw [hlen]
    exact hvc
  rw [hcut] at hvc2
  have hsub : (((ws.drop (a0 + (j : Nat) * c0).toNat).take wd.toNat).map (·.length)).sum + ((ws.drop (a0 + (j : Nat) * c0).toNat).take wd.toNat).length * sep.length ≤ 16777216 := by
    have h1 : ∀ (l : List Str) (n : Nat), ((l.drop n).map (·.length)).sum ≤ (l.map (·.length)).sum := fun l => by
      induction l with
      | nil => intro n; simp
      | cons a l ih =>
        intro n
        cases n with
        | zero => exact Nat.le_refl _
        | succ n =>
          rw [List.drop_succ_cons, List.map_cons, List.sum_cons]
          have := ih n
          omega
    have h2 : ∀ (l : List Str) (n : Nat), ((l.take n).map (·.length)).sum ≤ (l.map (·.length)).sum := fun l => by
      induction l with
      | nil => intro n; simp
      | cons a l ih =>
        intro n
        cases n with
        | zero => simp
        | succ n =>
          rw [List.take_succ_cons, List.map_cons, List.sum_cons, List.map_cons, List.sum_cons]
          have := ih n
          omega
    have h3 := h1 ws (a0 + (j : Nat) * c0).toNat
    have h4 := h2 (ws.drop (a0 + (j : Nat) * c0).toNat) wd.toNat
    have h5 : ((ws.drop (a0 + (j : Nat) * c0).toNat).take wd.toNat).length ≤ ws.length := by
      rw [List.length_take, List.length_drop]
      omega
    have h6 := Nat.mul_le_mul_right sep.length h5
    omega
  refine PyProof.Rows.join_list ⟨_, Heap.get?_push_size _ rfl, rfl, _, rfl⟩ (by rw [List.toList_toArray]; exact strs_of_vals hvc2) hsub fun t' k => ⟨⟨t', rfl⟩, ⟨_, k, rfl, fun b o e => Heap.get?_push_of_some _ (Heap.get?_push_of_some _ e)⟩⟩
end
end G4

set_option Elab.async false
set_option linter.all false
set_option maxRecDepth 100000
set_option maxHeartbeats 4000000
namespace G4
open PySem PySem.Spec PyProof.Rows L2
/-- the rows of a grid -/
def rowsOf (sep : Str) (ws : List Str) (wd : Nat) (i c : Int) (n : Nat) : List Str := (List.range n).map fun k => Txt.join sep ((ws.drop (i + (k : Nat) * c).toNat).take wd)
section
variable {X : Cx}
def tJoinR (P : Addr) (iy iz : Nat) (sep : Str) (to te : TE) : TE := fun σ H Q => to σ H fun v H1 => ∃ sepO : Str, v = .str sepO ∧ te σ H1 fun u H2 => ∃ (q xl : Addr) (i j c wd : Int) (n : Nat) (ws : List Str), u = .ref q ∧ H2 q = some (rgO q i j c) ∧ RgC i j c n ∧
  σ[iy]? = some (some (.ref xl)) ∧ σ[iz]? = some (some (.int wd)) ∧ H2 xl = some (.lst (ws.map V.str)) ∧ (ws.map (·.length)).sum + ws.length * sep.length ≤ 100000 ∧ 0 ≤ wd ∧ 0 ≤ i ∧ 0 ≤ c ∧ GxR.TabG H2 P ∧ JoinOk sepO (rowsOf sep ws wd.toNat i c n) = true ∧ n ≤ sizeLine ∧
  ∀ H3, GxR.Tabbed P H2 H3 → Q (.str (Txt.join sepO (rowsOf sep ws wd.toNat i c n))) H3
theorem pe_joinR {c P : Addr} {o iter : Expr} {x y z : Str} {sep : Str} {jc k iy iz : Nat} {px p1 p2 p3 p4 p5 p6 p7 p8 p9 p10 apos cpos gpos : Pos} {scope : Scope} {to te : TE}
    (hr : Room k X.A) (TB : GxR.TabB X.base X.mg c P) (hcode : X.env.code = .ref c) (S : GxR.GenS X.env scope x) (ho : PE X o to) (hi : PE X iter te) (hs : ∀ v, genFold iter X.env v = pure v)
    (hNy : X.N[iy]? = some y) (hky : X.env.kindOf y = some .cell) (hfy : (y, NameKind.free) ∈ scope.names) (hly : scope.names.lookup y = some NameKind.free)
    (hNz : X.N[iz]? = some z) (hkz : X.env.kindOf z = some .cell) (hfz : (z, NameKind.free) ∈ scope.names) (hlz : scope.names.lookup z = some NameKind.free) (hline1 : (p2.endLine == p10.line) = true)
    (hd : (x == ("__debug__" : Str)) = false := by decide) (hdy : (y == ("__debug__" : Str)) = false := by decide) (hdz : (z == ("__debug__" : Str)) = false := by decide) (hcy : (y == ("__classdict__" : Str)) = false := by decide) (hcz : (z == ("__classdict__" : Str)) = false := by decide)
    (hbase : attributeBase o "join" X.env (eval o X.env) = eval o X.env := by rfl) (hline : (apos.endLine == cpos.line) = true := by rfl) :
    PE X (.Call (.Attribute o "join" apos) [.GeneratorExp (.Call (.Attribute (.Constant (.str sep) jc p1) "join" p2) [.Subscript (.Name y p3) (.Slice (some (.Name x p4)) (some (.BinOp (.Name x p5) .Add (.Name z p6) p7)) none p8) p9] [] p10) [⟨.Name x px, iter, [], 0⟩] scope gpos] [] cpos) (tJoinR P iy iz sep to te) := by
  refine ⟨fun pins s σ H Q I h => ?_⟩
  refine wpAny_Call_method_late hbase (by rfl) hline rfl (thn (ho.run pins s σ H _ I h) fun v s1 hv => ?_)
  obtain ⟨x', H1, I1, r1, sepO, rfl, q1⟩ := hv
  obtain ⟨tk, rfl⟩ := (show ∃ t, v = Value.str sepO t from r1)
  refine ⟨"str", _, PySem.F.plainAttrs_str, PySem.F.slot_str_join, PySem.F.type_str_join, typeIs_str _ _ _, (fun _ e => nomatch e), ?_⟩
  refine Calls.callWith_builtin (by rfl) (Calls.evalArgs_plain ?_)
  refine Calls.spliced_cons (gen_up (W := fun n F H2 => ∃ f : Nat → Str, (∀ k y, F k y → ∃ t, y = Value.str (f k) t) ∧ JoinOk sepO ((List.range n).map f) = true ∧ n ≤ sizeLine ∧ ∀ H3, GxR.Tabbed P H2 H3 → Q (.str (Txt.join sepO ((List.range n).map f))) H3) hr TB hcode S hi hs I1 q1 (fun u H2 hu => ?_) fun n F H2 g s5 hW hG => ?_)
  · obtain ⟨q, xl, i, j, c', wd, n, ws, rfl, hq, hrg, hσy, hσz, hxl, hsum, hw0, hi0, hc0, hT, hok, hn, hQ⟩ := hu
    obtain ⟨ps, hP, hps⟩ := id hT
    exact ⟨n, (fun k v => ∃ t, v = .int (i + (k : Nat) * c') t), (fun k v => ∃ t, v = .str (Txt.join sep ((ws.drop (i + (k : Nat) * c').toNat).take wd.toNat)) t), hT, src_range hq hrg,
      fun s2 I2 => elt_join I2 hP hNy hσy hky hfy hly hNz hσz hkz hfz hlz hxl hsum hw0 hi0 hc0 S.kind S.loc hline1 hd hdy hdz hcy hcz,
      (fun k => Txt.join sep ((ws.drop (i + (k : Nat) * c').toNat).take wd.toNat)), fun k y hy => hy, hok, hn, hQ⟩
  · obtain ⟨f, hf, jok, jl, jq⟩ := hW
    obtain ⟨fp, wr, G, Pg, St, Wk, hF, hst, hfp, hg', hT, hI⟩ := hG
    refine Calls.spliced_nil ?_
    refine PySem.SC.joinGen Wk.in4_2 hT hst hfp hg' (fun i v hv => ?_) (fun s' l hm hio => ?_) jl
    · obtain ⟨t, e⟩ := hf i v (hF i v hv)
      exact ⟨_, _, e⟩
    · have hl0 : l.length = n := by
        have e0 := hio.1
        rw [List.size_toArray] at e0
        unfold strValues at e0
        rw [List.length_map] at e0
        exact e0
      have e : l.map (·.1) = (List.range n).map f := by
        refine List.ext_getElem? fun j => ?_
        rw [List.getElem?_map, List.getElem?_map]
        cases hj : l[j]? with
        | none =>
          have h1 : n ≤ j := by
            rw [List.getElem?_eq_none_iff] at hj
            omega
          rw [List.getElem?_eq_none_iff.mpr (by rw [List.length_range]; exact h1)] <;> rfl
        | some p =>
          have h2 : (strValues l).toArray[j]? = some (.str p.1 p.2) := by
            rw [List.getElem?_toArray]
            unfold strValues
            rw [List.getElem?_map, hj] <;> rfl
          obtain ⟨t, ev⟩ := hf j _ (hF j _ (hio.2 j _ h2))
          have e1 : p.1 = f j := by
            injection ev
          have hlt : j < n := by
            have := (List.getElem?_eq_some_iff.mp hj).1
            omega
          rw [List.getElem?_range hlt]
          show some p.1 = some (f j)
          rw [e1]
      obtain ⟨H3, ht, J⟩ := hI s' hm
      rw [e]
      exact ⟨jok, fun t' k' => ⟨.str _, H3, J.tok k', ⟨t', rfl⟩, jq H3 ht⟩⟩
end
end G4

set_option Elab.async false
set_option linter.all false
set_option maxRecDepth 100000
set_option maxHeartbeats 4000000
namespace G4
open PySem PySem.Spec PyProof.Rows L2
theorem scGridText2 : FnScope ["n", "width", "f", "given", "signs", "cell"] ["n", "width", "f"] (defScope sGridText) := ⟨rfl, rfl, rfl, by decide +kernel, rfl, by decide +kernel, by decide +kernel⟩
/-- the values that are drawn -/
def sixV : List Nat := [0, 1, 7, 12, 99, 123456789]
def numS (v : Nat) : Str := ((toString ((v : Nat) : Int) : String) : Str)
theorem numS_len {v : Nat} (h : v ∈ sixV) : (numS v).length ≤ 9 := by
  have : ∀ v ∈ sixV, (numS v).length ≤ 9 := by decide +kernel
  exact this v h
def kvF (f : List (Nat × Nat)) : List (Key × V) := f.map fun x => ((Sum.inl ((x.1 : Nat) : Int) : Key), V.int ((x.2 : Nat) : Int))
def valF (f : List (Nat × Nat)) (c : Nat) : Option Nat := f.lookup c
theorem val_kvF : ∀ (f : List (Nat × Nat)) (c : Nat), L2.valV (kvF f) (.inl ((c : Nat) : Int)) = (valF f c).map fun v => V.int ((v : Nat) : Int)
  | [], c => rfl
  | (a, v) :: f, c => by
    by_cases h : a = c
    · subst h
      show L2.valV (((Sum.inl ((a : Nat) : Int) : Key), V.int ((v : Nat) : Int)) :: kvF f) _ = _
      rw [valV_pos rfl]
      simp [valF, List.lookup]
    · have h2 : (c == a) = false := by simpa using (fun e => h e.symm)
      show L2.valV (((Sum.inl ((a : Nat) : Int) : Key), V.int ((v : Nat) : Int)) :: kvF f) _ = _
      have hne : ¬ ((Sum.inl ((a : Nat) : Int) : Key) = Sum.inl ((c : Nat) : Int)) := fun e => h (by have := Sum.inl.inj e; omega)
      rw [valV_neg hne, val_kvF f c]
      simp [valF, List.lookup, h2]
theorem merge_more : ∀ (more acc : List (Key × V)), (∀ p ∈ more, L2.valV acc p.1 = none) → (more.map (·.1)).Nodup → mergeK acc more = acc ++ more
  | [], acc, _, _ => by
    show acc = acc ++ []
    rw [List.append_nil]
  | p :: more, acc, h1, h2 => by
    rw [List.map_cons, List.nodup_cons] at h2
    show mergeK (putK acc p.1 p.2) more = _
    rw [putK_new _ (h1 p List.mem_cons_self), merge_more more (acc ++ [(p.1, p.2)]) (fun q hq => ?_) h2.2, List.append_assoc]
    · rfl
    · have hne : ¬ p.1 = q.1 := fun e => h2.1 (by rw [e]; exact List.mem_map.mpr ⟨q, hq, rfl⟩)
      have ha := h1 q (List.mem_cons_of_mem _ hq)
      clear h1 h2 hq
      induction acc with
      | nil => exact valV_neg hne
      | cons r acc ih =>
        by_cases e : r.1 = q.1
        · rw [valV_pos e] at ha
          cases ha
        · rw [valV_neg e] at ha
          show L2.valV (r :: (acc ++ [(p.1, p.2)])) q.1 = none
          rw [valV_neg e]
          exact ih ha
theorem merge_kvF {f : List (Nat × Nat)} (h : (f.map (·.1)).Nodup) : mergeK [] (kvF f) = kvF f := by
  rw [merge_more _ _ (fun p _ => rfl) ?_, List.nil_append]
  unfold kvF
  rw [List.map_map]
  have e : f.map ((fun x : Key × V => x.1) ∘ fun x : Nat × Nat => ((Sum.inl ((x.1 : Nat) : Int) : Key), V.int ((x.2 : Nat) : Int))) = (f.map (·.1)).map fun c : Nat => (Sum.inl ((c : Nat) : Int) : Key) := by
    rw [List.map_map]
    rfl
  rw [e]
  exact List.Pairwise.map _ (fun a b hab e => hab (by have := Sum.inl.inj e; omega)) h
def dotS : Str := ("." : String)
def signF (f : List (Nat × Nat)) (c : Nat) : Str := match valF f c with
  | some v => numS v
  | none => dotS
def signsF (f : List (Nat × Nat)) (n : Nat) : List Str := (List.range n).map (signF f)
def nRows (n w : Nat) : Nat := (n - 1) / w + 1
def gridText (n w : Nat) (f : List (Nat × Nat)) : Str := Txt.join ("\n" : String) (rowsOf (" " : String) (signsF f n) w 0 ((w : Nat) : Int) (nRows n w))
theorem valF_mem : ∀ {f : List (Nat × Nat)} {c v : Nat}, valF f c = some v → (c, v) ∈ f
  | (a, u) :: f, c, v, h => by
    by_cases e : c = a
    · subst e
      have : some u = some v := by
        rw [← h]
        simp [valF, List.lookup]
      rw [Option.some.inj this]
      exact List.mem_cons_self
    · have h2 : (c == a) = false := by simpa using e
      refine List.mem_cons_of_mem _ (valF_mem (f := f) ?_)
      rw [← h]
      simp [valF, List.lookup, h2]
theorem signF_len {f : List (Nat × Nat)} (h : ∀ x ∈ f, x.2 ∈ sixV) (c : Nat) : (signF f c).length ≤ 9 := by
  unfold signF
  cases e : valF f c with
  | none => show dotS.length ≤ 9; decide +kernel
  | some v => exact numS_len (h _ (valF_mem e))
theorem rgC_ok {n w : Nat} (hn : 1 ≤ n) (hn2 : n ≤ 16) (hw : 1 ≤ w) (hw2 : w ≤ 16) : RgC 0 ((n : Nat) : Int) ((w : Nat) : Int) (nRows n w) := by
  have key : ∀ n : Fin 17, ∀ w : Fin 17, 1 ≤ n.1 → 1 ≤ w.1 → ((w.1 : Int) ≠ 0 ∧ (w.1 : Int).natAbs < 1073741824 ∧ Builtin.Range.small 0 (n.1 : Int) (w.1 : Int) = true ∧ Builtin.Range.rangeSize 0 (n.1 : Int) (w.1 : Int) = ((nRows n.1 w.1 : Nat) : Int)) := by decide +kernel
  exact key ⟨n, by omega⟩ ⟨w, by omega⟩ hn hw
theorem signsF_sum {f : List (Nat × Nat)} (h : ∀ x ∈ f, x.2 ∈ sixV) (n : Nat) : ((signsF f n).map (·.length)).sum ≤ 9 * n := by
  have : ∀ l : List Nat, ((l.map (signF f)).map (·.length)).sum ≤ 9 * l.length := by
    intro l
    induction l with
    | nil => exact Nat.le_refl _
    | cons a l ih =>
      rw [List.map_cons, List.map_cons, List.sum_cons, List.length_cons]
      have := signF_len h a
      omega
  have e := this (List.range n)
  rw [List.length_range] at e
  exact e
theorem join_le (sep : Str) : ∀ ys : List Str, (Txt.join sep ys).length ≤ (ys.map (·.length)).sum + ys.length * sep.length := fun ys => by
  show (Builtin.Str.glued sep ys).length ≤ _
  rw [StrLaws.glued_eq_join]
  exact StrLaws.join_length_le sep ys
theorem sum_drop (l : List Str) : ∀ n : Nat, ((l.drop n).map (·.length)).sum ≤ (l.map (·.length)).sum := by
  induction l with
  | nil => intro n; simp
  | cons a l ih =>
    intro n
    cases n with
    | zero => exact Nat.le_refl _
    | succ n =>
      rw [List.drop_succ_cons, List.map_cons, List.sum_cons]
      have := ih n
      omega
theorem sum_take (l : List Str) : ∀ n : Nat, ((l.take n).map (·.length)).sum ≤ (l.map (·.length)).sum := by
  induction l with
  | nil => intro n; simp
  | cons a l ih =>
    intro n
    cases n with
    | zero => simp
    | succ n =>
      rw [List.take_succ_cons, List.map_cons, List.sum_cons, List.map_cons, List.sum_cons]
      have := ih n
      omega
theorem rowsOf_sum {f : List (Nat × Nat)} (h : ∀ x ∈ f, x.2 ∈ sixV) {n w : Nat} (hn : n ≤ 16) (i c : Int) (m : Nat) : ((rowsOf (" " : String) (signsF f n) w i c m).map (·.length)).sum ≤ 160 * m := by
  have one : ∀ k : Nat, (Txt.join (" " : String) (((signsF f n).drop k).take w)).length ≤ 160 := fun k => by
    have h1 := join_le (" " : String) (((signsF f n).drop k).take w)
    have h2 := sum_take ((signsF f n).drop k) w
    have h3 := sum_drop (signsF f n) k
    have h4 := signsF_sum h n
    have h5 : (((signsF f n).drop k).take w).length ≤ n := by
      rw [List.length_take, List.length_drop]
      unfold signsF
      rw [List.length_map, List.length_range]
      omega
    have h6 : ((" " : String) : Str).length = 1 := rfl
    rw [h6, Nat.mul_one] at h1
    omega
  have go : ∀ l : List Nat, ((l.map fun k => Txt.join (" " : String) (((signsF f n).drop (i + (k : Nat) * c).toNat).take w)).map (·.length)).sum ≤ 160 * l.length := by
    intro l
    induction l with
    | nil => exact Nat.le_refl _
    | cons a l ih =>
      rw [List.map_cons, List.map_cons, List.sum_cons, List.length_cons]
      have := one (i + (a : Nat) * c).toNat
      omega
  have e := go (List.range m)
  rw [List.length_range] at e
  exact e
/-- a tuple of pairs, known to the object -/
def TupF (K : PySem.W.Frag) (H : Hp) (fa : Addr) (f : List (Nat × Nat)) : Prop := ∃ (o : Obj) (ps : List Addr), H fa = some (.frz o (.tup (ps.map V.ref))) ∧ o.dict = none ∧ o.cls = .type "tuple" ∧ Paired (fun p kv => SqT K H p [kV kv.1, kv.2]) ps (kvF f)
def spGridText (K : PySem.W.Frag) (P : Addr) : Sp := fun vs H Q _ => ∃ (n w : Nat) (fa : Addr) (f : List (Nat × Nat)), vs = [.int ((n : Nat) : Int), .int ((w : Nat) : Int), .ref fa] ∧ TupF K H fa f ∧ (f.map (·.1)).Nodup ∧ (∀ x ∈ f, x.2 ∈ sixV) ∧ 1 ≤ n ∧ n ≤ 16 ∧ 1 ≤ w ∧ w ≤ 16 ∧ GxR.TabG H P ∧
  ∀ H', KpO P H H' → Q (.str (gridText n w f)) H'
structure TxtZ (K : PySem.W.Frag) (mg : Str → Option Value) (base : Heap) (f c P : Addr) (fd : FuncData) : Prop where
  tb : GxR.TabB base mg c P
  F : FunC K "grid_text" "grid_text" sGridText f c fd
  b : Binds K fd ["n", "width", "f"] []
  g : mg "grid_text" = some (.ref f)
  dct : mg "dict" = none
  str : mg "str" = none
  rng : mg "range" = none
section
variable {P : Program} {w : World} {K : PySem.W.Frag} {mg : Str → Option Value} {base : Heap} {fG cG pG : Addr} {dG : FuncData}
theorem ok_gridText (T : TxtZ K mg base fG cG pG dG) : FnOk P w K mg base CX0 1 fG dG ["n", "width", "f"] (spGridText K pG) := by
  refine T.F.ok scGridText2 (fun vs H Q E h => ?_) (fun A outer s H vs Q E hr h => ?_)
  · obtain ⟨n, w, fa, f, rfl, _⟩ := h
    rfl
  · obtain ⟨n, wd, fa, f, rfl, ⟨o, ps, hfa, hod, hoc, hps⟩, hnd, hsix, hn1, hn2, hw1, hw2, hT, k⟩ := h
    have hu := hu_of hr
    refine ⟨_, pss_cons (ps_set (i := 3) scGridText2.nd rfl (.inr rfl) (pe_callTy (call_dictZ rfl) (by rfl) T.dct PyProof.Rows.boot_dict (pa_cons (pv 2) pa_nil)))
      (pss_cons (ps_set (i := 4) scGridText2.nd rfl (.inr rfl) (pe_lc (own := [("cell", 5)]) (g := gName 5) (tt := tYes) rfl scGridText2.nd (pi_range1 (by rfl) T.rng (pa_cons (pv 0) pa_nil)) (blkOk_by (N := ["n", "width", "f", "given", "signs", "cell"]) (sc := defScope sGridText) (by decide +kernel))
          (fun _ _ _ _ _ => pg_name (i := 5) scGridText2.nd rfl (.inl rfl)) (fun _ _ _ _ _ => pts_nil)
          (fun _ _ _ _ _ => pe_callTy (CallR.or call_str_int SkE.call_str_str) (by rfl) T.str PyProof.Rows.boot_str (pa_cons (pe_dget2 hu (pv 3) (pv 5) pe_str ⟨rfl, rfl, rfl, rfl⟩) pa_nil))))
      (pss_one (ps_ret (pe_joinR (c := cG) (P := pG) (iy := 4) (iz := 1) hr T.tb rfl ?S pe_str (pe_range3 (by rfl) T.rng (pa_cons pe_int (pa_cons (pv 0) (pa_cons (pv 1) pa_nil)))) (fun _ => rfl) rfl rfl ?hf rfl rfl rfl ?hf2 rfl rfl)))), ?_⟩
    case S =>
      refine ⟨rfl, rfl, by decide +kernel, rfl, rfl, fun y hy hf => ?_⟩
      rcases List.mem_cons.mp hy with z | hy
      · rw [z] at hf
        cases hf
      rcases List.mem_cons.mp hy with z | hy
      · rw [z] at hf
        cases hf
      rcases List.mem_cons.mp hy with z | hy
      · rw [z]
        exact ⟨_, rfl⟩
      rcases List.mem_cons.mp hy with z | hy
      · rw [z]
        exact ⟨_, rfl⟩
      cases hy
    case hf => exact List.mem_cons_of_mem _ (List.mem_cons_of_mem _ List.mem_cons_self)
    case hf2 => exact List.mem_cons_of_mem _ (List.mem_cons_of_mem _ (List.mem_cons_of_mem _ List.mem_cons_self))
    -- given
    refine ⟨_, rfl, fa, o, ps, kvF f, rfl, hfa, hod, hoc, hps, fun dg hdg => ?_⟩
    rw [merge_kvF hnd]
    -- signs
    refine ⟨_, rfl, ((n : Nat) : Int), rfl, by omega, by omega, fun D hD => ?_⟩
    rw [Int.toNat_natCast]
    have ndD : dg ≠ D := ne_of_none upd_same hD
    refine lc_range (fun i H2 => H2 = upd (upd H dg (.dK (kvF f))) D (.lst ((signsF f i).map V.str))) rfl (fun i H2 hi h => ?_) (fun H2 h => ?_)
    · subst h
      have hget : DGet (upd (upd H dg (.dK (kvF f))) D (.lst ((signsF f i).map V.str))) dg (.int ((i : Nat) : Int)) ((valF f i).map fun v => V.int ((v : Nat) : Int)) := by
        have := DGet.k (k := (Sum.inl ((i : Nat) : Int) : Key)) (show upd (upd H dg (.dK (kvF f))) D (.lst ((signsF f i).map V.str)) dg = some (.dK (kvF f)) by rw [upd_ne ndD, upd_same])
        rw [val_kvF] at this
        exact this
      have e0 : (0 : Int) + ((i : Nat) : Int) = ((i : Nat) : Int) := Int.zero_add _
      refine ⟨rfl, ?_⟩
      refine ⟨_, rfl, dg, rfl, .inl ⟨_, .inl (show upd (upd H dg (.dK (kvF f))) D (.lst ((signsF f i).map V.str)) dg = some (.dK (kvF f)) by rw [upd_ne ndD, upd_same])⟩, _, rfl, ((valF f i).map fun v => V.int ((v : Nat) : Int)), ?_, ?_⟩
      · show DGet _ dg (V.int (0 + ((i : Nat) : Int))) _
        rw [e0]
        exact hget
      · have hstep : signsF f (i + 1) = signsF f i ++ [signF f i] := by
          unfold signsF
          rw [List.range_succ, List.map_append]
          rfl
        have hlen : ((signsF f i).map V.str).length < sizeLine := by
          unfold signsF
          rw [List.length_map, List.length_map, List.length_range, sizeLine_eq]
          omega
        unfold signF at hstep
        cases ev : valF f i with
        | some v =>
          rw [ev] at hstep
          have hm := hsix _ (valF_mem ev)
          have hb : ((v : Nat) : Int).natAbs.log2 < 1920 := by
            have : ∀ v ∈ sixV, ((v : Nat) : Int).natAbs.log2 < 1920 := by decide +kernel
            exact this v hm
          refine .inl ⟨_, rfl, hb, _, upd_same, hlen, ?_⟩
          rw [upd_upd, hstep, List.map_append]
          rfl
        | none =>
          rw [ev] at hstep
          refine .inr ⟨_, rfl, _, upd_same, hlen, ?_⟩
          rw [upd_upd, hstep, List.map_append]
          rfl
    · subst h
      -- the rows
      refine ⟨_, rfl, _, rfl, _, rfl, 0, ((n : Nat) : Int), ((wd : Nat) : Int), nRows n wd, rfl, rgC_ok hn1 hn2 hw1 hw2, fun q hq => ?_⟩
      have hqD : upd (upd H dg (.dK (kvF f))) D (.lst ((signsF f n).map V.str)) D = some (.lst ((signsF f n).map V.str)) := upd_same
      have nDq : D ≠ q := ne_of_none hqD hq
      have hq0 : H q = none := by
        have ndq : dg ≠ q := ne_of_none (show upd (upd H dg (.dK (kvF f))) D (.lst ((signsF f n).map V.str)) dg = some (.dK (kvF f)) by rw [upd_ne ndD, upd_same]) hq
        rw [upd_ne nDq.symm, upd_ne ndq.symm] at hq
        exact hq
      have hD0 : H D = none := by
        rw [upd_ne ndD.symm] at hD
        exact hD
      have hT3 : GxR.TabG (upd (upd (upd H dg (.dK (kvF f))) D (.lst ((signsF f n).map V.str))) q (rgO q 0 n wd)) pG := tabG_upd (tabG_upd (tabG_upd hT (tabG_free hT hdg)) (tabG_free hT hD0)) (tabG_free hT hq0)
      have hsum := signsF_sum hsix n
      have hslen : (signsF f n).length = n := by
        unfold signsF
        rw [List.length_map, List.length_range]
      have hsp : ((" " : String) : Str).length = 1 := rfl
      refine ⟨q, D, 0, ((n : Nat) : Int), ((wd : Nat) : Int), ((wd : Nat) : Int), nRows n wd, signsF f n, rfl, upd_same, rgC_ok hn1 hn2 hw1 hw2, rfl, rfl, by rw [upd_ne nDq]; exact hqD, ?_, by omega, by omega, by omega, hT3, ?_, ?_, fun H3 h3 => ?_⟩
      · rw [hslen]
        have : n * (((" " : String) : Str).length) = n := by rw [hsp, Nat.mul_one]
        omega
      · refine joinOk_of ?_
        rw [Int.toNat_natCast]
        have h1 := rowsOf_sum hsix (w := wd) hn2 0 ((wd : Nat) : Int) (nRows n wd)
        have h2 : (rowsOf (" " : String) (signsF f n) wd 0 ((wd : Nat) : Int) (nRows n wd)).length = nRows n wd := by
          unfold rowsOf
          rw [List.length_map, List.length_range]
        have h3 : nRows n wd ≤ 16 := by
          unfold nRows
          have := Nat.div_le_self (n - 1) wd
          omega
        have h4 : (("\n" : String) : Str).length = 1 := rfl
        rw [h2, h4, Nat.mul_one]
        omega
      · have : nRows n wd ≤ 16 := by
          unfold nRows
          have := Nat.div_le_self (n - 1) wd
          omega
        rw [sizeLine_eq]
        omega
      · rw [Int.toNat_natCast]
        refine k H3 ⟨h3.1, fun b o h1 e => ?_⟩
        rw [h3.2 b h1, upd_ne (ne_of_none e hq0), upd_ne (ne_of_none e hD0), upd_ne (ne_of_none e hdg)]
        exact e
end
end G4

set_option Elab.async false
set_option linter.all false
set_option maxRecDepth 100000
set_option maxHeartbeats 4000000
namespace G4
open PySem PySem.Spec PyProof.Rows L2
/-- isinstance(e, c), e the exception that the suite holds, which has a dict of its own -/
theorem call_isX {X : Cx} {a D : Addr} {oe : Obj} {cls : Value} {d : Option Addr} {pn : List (Addr × Obj)} (C : ExcC X.K D) (hz : Zc cls d oe) (hf : ∃ vs, oe.data = .fields vs) : CallR (X.suite a ((a, oe) :: pn)) (.builtin "isinstance")
    (fun xs H Q => ∃ (c : V) (cv : Value) (b : Bool) (dd : Addr) (fs : List (Str × V)), xs = [.ref a, c] ∧ cls = .ref D ∧ d = some dd ∧ H dd = some (.xd fs) ∧ (∀ u, RelV c u → u = cv) ∧ PySem.W.kitOne X.K (.ref D) cv = some b ∧ Q (.bl b) H) := by
  intro pins s σ H xs us Q I r h
  obtain ⟨c, cv, b, dd, fs, rfl, rfl, rfl, hdd, hcv, e, q⟩ := h
  cases r with
  | cons rx rr =>
    cases rr with
    | cons rt rr =>
      cases rr
      cases rx
      have ec := hcv _ rt
      subst ec
      obtain ⟨hget, _⟩ := I.pin (a, oe) (List.mem_append.mpr (.inl List.mem_cons_self))
      obtain ⟨vs, hv⟩ := hf
      obtain ⟨mA, hns, hr⟩ := (show ObjOk X.prog X.w H s.heap dd (.xd fs) from I.hok dd _ hdd)
      obtain ⟨od, ho, _⟩ := lookIn_ns hns
      have J : PySem.W.InstAt s.heap a oe D (some od) := ⟨hget, hz.1, by unfold PySem.W.notCls; rw [hv] <;> rfl, by rw [hz.2]; exact ho⟩
      refine PySem.W.kia_one (PySem.W.kitx_exc (gt := none) ?_ C.hg C.hk C.hs C.ha C.hn C.ht C.hm) I.kIn J e (fun z => nomatch z) fun tk => ⟨.bl b, H, I.kept (t' := tk) fun _ _ z => z, rfl, q⟩
      obtain ⟨cd, hc, _⟩ := PySem.W.any_some C.hd
      rw [hc]
      rfl
structure TxtX (K : PySem.W.Frag) (mg : Str → Option Value) (CB CP fTold : Addr) (dTold : FuncData) : Prop where
  F : Fun K "_law_read_told" "_law_read_told" sTold fTold dTold
  b : Binds K dTold ["_law_text"] []
  g : mg "_law_read_told" = some (.ref fTold)
  te : PySem.W.exmOne K (.ref CB) (.ref CB) = some true
  gB : mg "BadText" = some (.ref CB)
  gP : mg "PuzzleError" = some (.ref CP)
  xf : XfC K CB
  exc : ExcC K CB
  kit : PySem.W.kitOne K (.ref CB) (.ref CP) = some true
  noP : PySem.W.findIn K (.ref CB) "place" = some none
  isi : mg "isinstance" = none
def spTold (P : Addr) : Sp := fun vs H Q _ => ∃ (x : V) (t : Str), vs = [x] ∧ Given H x t ∧ t.length ≤ 100000 ∧ GxR.TabG H P ∧
  (∀ e, gridR t = .error e → ∀ H', KpO P H H' → Q (.int ((e : Nat) : Int)) H') ∧
  (∀ found w, gridR t = .ok (found, w) → ∀ l r H', KpO P H H' → H' l = some (.lst [.ref r]) → GridAt H' r found.length w (cellsFromN 0 found) → Q (.ref l) H')
section
variable {P : Program} {w : World} {K : PySem.W.Frag} {mg : Str → Option Value} {base : Heap} {CB fI fC : Addr} {fdI fdC : FuncData}
variable {C fEnds fSees fDigit fTake fNumber fShut : Addr} {dEnds dSees dDigit dTake dNumber dShut : FuncData} {cT pT : Addr}
variable {fPlace fRow fRead fRI CP fTold : Addr} {dPlace dRow dRead dRI dTold : FuncData}
theorem ok_told (T : TxtR K mg C fEnds fSees fDigit fTake fNumber fShut dEnds dSees dDigit dTake dNumber dShut) (TE : TxtE K mg CB fI fC fdI fdC) (TT : TxtT K mg base fTake cT pT dTake) (TG : TxtG K mg fPlace fRow fRead fRI C dPlace dRow dRead dRI) (TX : TxtX K mg CB CP fTold dTold) : FnOk P w K mg base CX0 9 fTold dTold ["_law_text"] (spTold pT) := by
  have GR : FnOk P w K mg base (L2.CX P w) 7 fRead dRead ["text"] (spRead CB pT) := ok_read T TE TT TG
  refine TX.F.ok scTold (fun vs H Q E h => ?_) (fun cdv A outer s H vs Q E hr h => ?_)
  · obtain ⟨x, t, rfl, _⟩ := h
    rfl
  · obtain ⟨x, t, rfl, hx, hz, hT, kB, kQ⟩ := h
    refine ⟨_, pss_one (ps_try_as (i := 1) rfl rfl scTold.nd rfl rfl ⟨rfl, by decide, .inl TX.gB⟩ takes0
      (fun W pn xe tk _ => pss_one (ps_ret (pe_lst (pa_cons (pe_callS GR (hr.mono (by decide)) (by rfl) TG.gRead TG.FRead.kp TG.bRead (fun σ => passAt tk σ) (pa_cons (pv 0) pa_nil)) pa_nil))))
      (fun a oe cls d pn hz hf => pss_one (ps_ret (pe_ifExp (pt_val (pe_callB (call_isX TX.exc hz hf) (by rfl) TX.isi PyProof.Rows.boot_isinstance (pa_cons (pv 1) (pa_cons (pe_glob (v := .ref CP) (by rfl) TX.gP rfl) pa_nil)))) (pe_xf TX.xf TX.noP hz hf (pv 1)) pe_str)))), ?_⟩
    refine ⟨_, rfl, x, t, rfl, hx, hz, hT, fun e he H' k d hd => ?_, fun found w hok r H' k hr2 hg => ?_⟩
    · refine ⟨true, TX.te, fun _ a ha => ?_, fun q => Bool.noConfusion q⟩
      refine ⟨_, rfl, .ref CP, .ref CP, true, d, [(("place" : Str), .int ((e : Nat) : Int))], rfl, rfl, rfl, upd_same, fun u hu => hu, TX.kit, _, rfl, iteT ?_⟩
      refine ⟨_, rfl, rfl, rfl, d, [(("place" : Str), .int ((e : Nat) : Int))], .int ((e : Nat) : Int), rfl, upd_same, by simp [List.lookup], ?_⟩
      exact kB e he _ ⟨tabG_upd k.1 (tabG_free k.1 hd), fun b o h1 e' => by
        have e2 := k.2 b o h1 e'
        rw [upd_ne (ne_of_none e2 hd)]
        exact e2⟩
    · refine ⟨(by show 1 ≤ sizeLine; decide), fun l hl => ?_⟩
      refine kQ found w hok l r _ ⟨tabG_upd k.1 (tabG_free k.1 hl), fun b o h1 e' => ?_⟩ upd_same ?_
      · have e2 := k.2 b o h1 e'
        rw [upd_ne (ne_of_none e2 hl)]
        exact e2
      · obtain ⟨tt, vs, h1, h2, h3⟩ := hg
        refine ⟨tt, vs, ?_, ?_, h3.keep fun b ys e' => ?_⟩
        · rw [upd_ne (ne_of_none h1 hl)]
          exact h1
        · rw [upd_ne (ne_of_none h2 hl)]
          exact h2
        · rw [upd_ne (ne_of_none e' hl)]
          exact e'
end
end G4

set_option Elab.async false
set_option linter.all false
set_option maxRecDepth 100000
set_option maxHeartbeats 4000000
namespace G4
open PySem PySem.Spec PyProof.Rows L2
theorem scLines2 : FnScope ["_law_n", "_law_width", "_law_f", "_law_known", "_law_lines", "_law_first", "_law_some", "_law_c"] ["_law_n", "_law_width", "_law_f"] (defScope sLines) := ⟨rfl, rfl, rfl, by decide +kernel, rfl, by decide +kernel, by decide +kernel⟩
def rowL4 (f : List (Nat × Nat)) (n w a : Nat) : List Str := (List.range (min n (a + w) - a)).map fun i => signF f (a + i)
theorem row_cut (f : List (Nat × Nat)) (n w a : Nat) : ((signsF f n).drop a).take w = rowL4 f n w a := by
  refine List.ext_getElem? fun i => ?_
  unfold signsF rowL4
  rw [List.getElem?_take, List.getElem?_map]
  by_cases h : i < w
  · rw [if_pos h, List.getElem?_drop, List.getElem?_map]
    by_cases h2 : a + i < n
    · rw [List.getElem?_range h2, List.getElem?_range (by omega)]
      rfl
    · rw [List.getElem?_eq_none_iff.mpr (by rw [List.length_range]; omega), List.getElem?_eq_none_iff.mpr (by rw [List.length_range]; omega)]
      rfl
  · rw [if_neg h, List.getElem?_eq_none_iff.mpr (by rw [List.length_range]; omega)]
    rfl
def rowsL4 (f : List (Nat × Nat)) (n w m : Nat) : List Str := (List.range m).map fun k => Txt.join (" " : String) (rowL4 f n w (k * w))
theorem rows_eq (f : List (Nat × Nat)) (n w m : Nat) : rowsOf (" " : String) (signsF f n) w 0 ((w : Nat) : Int) m = rowsL4 f n w m := by
  unfold rowsOf rowsL4
  refine List.map_congr_left fun k _ => ?_
  rw [show (0 + ((k : Nat) : Int) * ((w : Nat) : Int)).toNat = k * w by rw [Int.zero_add, ← Int.natCast_mul, Int.toNat_natCast], row_cut]
theorem rowL4_sum {f : List (Nat × Nat)} (h : ∀ x ∈ f, x.2 ∈ sixV) (n w a : Nat) : ((rowL4 f n w a).map (·.length)).sum + (rowL4 f n w a).length * ((" " : String) : Str).length ≤ 10 * n := by
  have go : ∀ l : List Nat, ((l.map fun i => signF f (a + i)).map (·.length)).sum ≤ 9 * l.length := by
    intro l
    induction l with
    | nil => exact Nat.le_refl _
    | cons b l ih =>
      rw [List.map_cons, List.map_cons, List.sum_cons, List.length_cons]
      have := signF_len h (a + b)
      omega
  have e := go (List.range (min n (a + w) - a))
  have h6 : ((" " : String) : Str).length = 1 := rfl
  have h7 : (rowL4 f n w a).length = min n (a + w) - a := by
    unfold rowL4
    rw [List.length_map, List.length_range]
  rw [List.length_range] at e
  rw [h6, Nat.mul_one, h7]
  have e2 : ((rowL4 f n w a).map (·.length)).sum ≤ 9 * (min n (a + w) - a) := e
  omega
structure TxtL (K : PySem.W.Frag) (mg : Str → Option Value) (fL : Addr) (dL : FuncData) : Prop where
  F : Fun K "_law_grid_lines" "_law_grid_lines" sLines fL dL
  b : Binds K dL ["_law_n", "_law_width", "_law_f"] []
  g : mg "_law_grid_lines" = some (.ref fL)
  dct : mg "dict" = none
  lst : mg "list" = none
  rng : mg "range" = none
  min : mg "min" = none
  repr : mg "repr" = none
/-- a list of pairs -/
def LstF (K : PySem.W.Frag) (H : Hp) (fa : Addr) (f : List (Nat × Nat)) : Prop := ∃ ps : List Addr, H fa = some (.lst (ps.map V.ref)) ∧ Paired (fun p kv => SqT K H p [kV kv.1, kv.2]) ps (kvF f)
def spLines (K : PySem.W.Frag) : Sp := fun vs H Q _ => ∃ (n w : Nat) (fa : Addr) (f : List (Nat × Nat)), vs = [.int ((n : Nat) : Int), .int ((w : Nat) : Int), .ref fa] ∧ LstF K H fa f ∧ (f.map (·.1)).Nodup ∧ (∀ x ∈ f, x.2 ∈ sixV) ∧ 1 ≤ n ∧ n ≤ 16 ∧ 1 ≤ w ∧ w ≤ 16 ∧
  ∀ H', Same H H' → Q (.str (gridText n w f)) H'
theorem pairs_same {K : PySem.W.Frag} {H H' : Hp} (h : Same H H') : ∀ {ps : List Addr} {kvs : List (Key × V)}, Paired (fun p kv => SqT K H p [kV kv.1, kv.2]) ps kvs → Paired (fun p kv => SqT K H' p [kV kv.1, kv.2]) ps kvs
  | _, _, .nil => .nil
  | _, _, .cons a t => .cons (sqt_keep a fun o _ _ e => h _ o e) (pairs_same h t)
theorem same_new {H : Hp} {b : Addr} {o : HO} (h : H b = none) : Same H (upd H b o) := fun c u e => by
  rw [upd_ne (ne_of_none e h)]
  exact e
theorem same_free {H H' : Hp} (h : Same H H') {b : Addr} (e : H' b = none) : H b = none := h.free e
section
variable {P : Program} {w : World} {K : PySem.W.Frag} {mg : Str → Option Value} {base : Heap} {fL : Addr} {dL : FuncData}
theorem ok_lines (T : TxtL K mg fL dL) : FnOk P w K mg base CX0 1 fL dL ["_law_n", "_law_width", "_law_f"] (spLines K) := by
  refine T.F.ok scLines2 (fun vs H Q E h => ?_) (fun cdv A outer s H vs Q E hr h => ?_)
  · obtain ⟨n, w, fa, f, rfl, _⟩ := h
    rfl
  · obtain ⟨n, wd, fa, f, rfl, ⟨ps, hfa, hps⟩, hnd, hsix, hn1, hn2, hw1, hw2, k⟩ := h
    have hu := hu_of hr
    refine ⟨_, pss_cons (ps_asg (pe_tup (pa_cons (pe_callTy (call_dictP rfl) (by rfl) T.dct PyProof.Rows.boot_dict (pa_cons (pe_callTy call_list_of (by rfl) T.lst PyProof.Rows.boot_list (pa_cons (pv 2) pa_nil)) pa_nil)) (pa_cons (pe_lst pa_nil) pa_nil)))
        (pg_tup rfl (pgs_cons (pg_name (i := 3) scLines2.nd rfl (.inr rfl)) (pgs_cons (pg_name (i := 4) scLines2.nd rfl (.inl rfl)) pgs_nil))))
      (pss_cons (ps_for PassesOwn.never rfl (pi_range3 (by rfl) T.rng (pa_cons pe_int (pa_cons (pv 0) (pa_cons (pv 1) pa_nil)))) (pg_name (i := 5) scLines2.nd rfl (.inl rfl))
        (pss_cons (ps_setLc (i := 6) (own := [("_law_c", 7)]) (g := gName 7) (tt := tYes) rfl scLines2.nd rfl rfl (sw_true rfl rfl rfl (by decide +kernel)) (pi_range2 (by rfl) T.rng (pa_cons (pv 5) (pa_cons (pe_callB (call_min2 rfl) (by rfl) T.min PyProof.Rows.boot_min (pa_cons (pv 0) (pa_cons (pe_op op_add (pv 5) (pv 1)) pa_nil))) pa_nil)))
            (blkOk_by (N := ["_law_n", "_law_width", "_law_f", "_law_known", "_law_lines", "_law_first", "_law_some", "_law_c"]) (sc := defScope sLines) (by decide +kernel))
            (fun _ _ _ _ _ => pg_name (i := 7) scLines2.nd rfl (.inl rfl)) (fun _ _ _ _ _ => pts_nil)
            (fun _ _ _ _ _ => pe_ifExp (pt_cmp (pc_din hu (pv 7) (pv 3))) (pe_callB SkE.call_repr_int (by rfl) T.repr PyProof.Rows.boot_repr (pa_cons (pe_dget hu (pv 3) (pv 7) (fun _ _ => rfl)) pa_nil)) pe_str))
        (pss_one (ps_expr (pe_bm PySem.F.plainAttrs_list PySem.F.slot_list_append PySem.F.type_list_append mt_append (pv 4) (pa_cons (pe_bm PySem.F.plainAttrs_str PySem.F.slot_str_join PySem.F.type_str_join mt_join pe_str (pa_cons (pv 6) pa_nil)) pa_nil))))))
      (pss_one (ps_ret (pe_bm PySem.F.plainAttrs_str PySem.F.slot_str_join PySem.F.type_str_join mt_join pe_str (pa_cons (pv 4) pa_nil))))), ?_⟩
    -- known, lines
    refine ⟨_, rfl, fa, _, rfl, .inl (.inl (.inl hfa)), fun f2 hf2 => ?_⟩
    have s1 : Same H (upd H f2 (.lst (ps.map V.ref))) := same_new hf2
    refine ⟨f2, ps, kvF f, rfl, .inl (.inl upd_same), pairs_same s1 hps, fun dk hdk => ?_⟩
    rw [merge_kvF hnd]
    have s2 := s1.trans (same_new (o := .dK (kvF f)) hdk)
    refine ⟨Nat.zero_le _, fun L hL => ?_⟩
    have s3 := s2.trans (same_new (o := .lst []) hL)
    refine ⟨(by show 2 ≤ sizeLine; decide), fun tp htp => ?_⟩
    have s4 := s3.trans (same_new (o := .tup [.ref dk, .ref L]) htp)
    have ndL : dk ≠ L := ne_of_none upd_same hL
    have nLt : L ≠ tp := ne_of_none upd_same htp
    have ndt : dk ≠ tp := ne_of_none (show upd (upd (upd H f2 (.lst (ps.map V.ref))) dk (.dK (kvF f))) L (.lst []) dk = some (.dK (kvF f)) by rw [upd_ne ndL, upd_same]) htp
    have hLH : H L = none := same_free s2 hL
    refine ⟨tp, _, rfl, .inl (.inl upd_same), rfl, _, _, rfl, _, _, rfl, rfl, ?_⟩
    have hd4 : upd (upd (upd (upd H f2 (.lst (ps.map V.ref))) dk (.dK (kvF f))) L (.lst [])) tp (.tup [.ref dk, .ref L]) dk = some (.dK (kvF f)) := by rw [upd_ne ndt, upd_ne ndL, upd_same]
    have hL4 : upd (upd (upd (upd H f2 (.lst (ps.map V.ref))) dk (.dK (kvF f))) L (.lst [])) tp (.tup [.ref dk, .ref L]) L = some (.lst []) := by rw [upd_ne nLt, upd_same]
    generalize upd (upd (upd (upd H f2 (.lst (ps.map V.ref))) dk (.dK (kvF f))) L (.lst [])) tp (.tup [.ref dk, .ref L]) = H4 at s4 hd4 hL4 ⊢
    clear s1 s2 s3 hL htp hdk hf2
    -- the rows
    refine ⟨_, rfl, _, rfl, 0, ((n : Nat) : Int), ((wd : Nat) : Int), nRows n wd, rfl, rgC_ok hn1 hn2 hw1 hw2, for_rangeC (fun i σ H' => ∃ v5 v6 : Option V, σ = [some (.int ((n : Nat) : Int)), some (.int ((wd : Nat) : Int)), some (.ref fa), some (.ref dk), some (.ref L), v5, v6, none] ∧ Same H H' ∧ H' dk = some (.dK (kvF f)) ∧ H' L = some (.lst ((rowsL4 f n wd i).map V.str)))
      ⟨none, none, rfl, s4, hd4, hL4⟩ (fun i σ H' hi h => ?_) (fun σ H' h => ?_)⟩
    · obtain ⟨v5, v6, rfl, s5, hd5, hL5⟩ := h
      have hA : (0 : Int) + ((i : Nat) : Int) * ((wd : Nat) : Int) = ((i * wd : Nat) : Int) := by rw [Int.zero_add, Int.natCast_mul]
      rw [hA]
      have hle : i * wd ≤ n - 1 := by
        have h1 : i ≤ (n - 1) / wd := by
          unfold nRows at hi
          omega
        exact Nat.le_trans (Nat.mul_le_mul_right wd h1) (Nat.div_mul_le_self (n - 1) wd)
      generalize ha : i * wd = a at hle ⊢
      have hM : (if ((a : Nat) : Int) + ((wd : Nat) : Int) < ((n : Nat) : Int) then ((a : Nat) : Int) + ((wd : Nat) : Int) else ((n : Nat) : Int)) = ((min n (a + wd) : Nat) : Int) := by
        by_cases c : ((a : Nat) : Int) + ((wd : Nat) : Int) < ((n : Nat) : Int)
        · rw [if_pos c]
          omega
        · rw [if_neg c]
          omega
      refine ⟨_, rfl, _, rfl, _, rfl, _, rfl, _, _, rfl, rfl, _, _, rfl, ?_⟩
      rw [hM]
      refine ⟨_, _, rfl, ⟨by omega, by omega, by omega, by omega⟩, fun D hD => ?_⟩
      have hlen : (((min n (a + wd) : Nat) : Int) - ((a : Nat) : Int)).toNat = min n (a + wd) - a := by omega
      rw [hlen]
      have ndD : dk ≠ D := ne_of_none hd5 hD
      have nLD : L ≠ D := ne_of_none hL5 hD
      let pre : Nat → List Str := fun j => (List.range j).map fun i => signF f (a + i)
      refine lc_range (fun j H2 => H2 = upd H' D (.lst ((pre j).map V.str))) rfl (fun j H2 hj h => ?_) (fun H2 h => ?_)
      · subst h
        have hdD : upd H' D (.lst ((pre j).map V.str)) dk = some (.dK (kvF f)) := by rw [upd_ne ndD]; exact hd5
        have e0 : ((a : Nat) : Int) + ((j : Nat) : Int) = ((a + j : Nat) : Int) := by omega
        rw [e0]
        have hget : DGet (upd H' D (.lst ((pre j).map V.str))) dk (.int ((a + j : Nat) : Int)) ((valF f (a + j)).map fun v => V.int ((v : Nat) : Int)) := by
          have := DGet.k (k := (Sum.inl ((a + j : Nat) : Int) : Key)) hdD
          rw [val_kvF] at this
          exact this
        have hstep : pre (j + 1) = pre j ++ [signF f (a + j)] := by
          show (List.range (j + 1)).map _ = _
          rw [List.range_succ, List.map_append]
          rfl
        have hlen2 : ((pre j).map V.str).length < sizeLine := by
          show (((List.range j).map _).map V.str).length < sizeLine
          rw [List.length_map, List.length_map, List.length_range, sizeLine_eq]
          omega
        refine ⟨rfl, ?_⟩
        refine ⟨_, rfl, _, rfl, dk, _, rfl, hget, _, rfl, ?_⟩
        unfold signF at hstep
        cases ev : valF f (a + j) with
        | some v =>
          rw [ev] at hstep hget
          have hm := hsix _ (valF_mem ev)
          have hb : ((v : Nat) : Int).natAbs.log2 < 1920 := by
            have : ∀ v ∈ sixV, ((v : Nat) : Int).natAbs.log2 < 1920 := by decide +kernel
            exact this v hm
          refine iteT ⟨_, rfl, _, rfl, dk, _, rfl, hget, _, rfl, hb, _, upd_same, hlen2, ?_⟩
          rw [upd_upd, hstep, List.map_append]
          rfl
        | none =>
          rw [ev] at hstep
          refine iteF ⟨_, upd_same, hlen2, ?_⟩
          rw [upd_upd, hstep, List.map_append]
          rfl
      · subst h
        have hrow : pre (min n (a + wd) - a) = rowL4 f n wd a := rfl
        rw [hrow]
        have hLD : upd H' D (.lst ((rowL4 f n wd a).map V.str)) L = some (.lst ((rowsL4 f n wd i).map V.str)) := by rw [upd_ne nLD]; exact hL5
        have hsum := rowL4_sum hsix n wd a
        refine ⟨_, rfl, .inl ⟨rfl, _, .inl (.inl hLD)⟩, rfl, _, rfl, (" " : String), D, _, rfl, rfl, .inl (.inl (.inl upd_same)), by omega, L, _, _, rfl, rfl, hLD, ?_, _, _, rfl, ?_, ?_, ?_⟩
        · unfold rowsL4
          rw [List.length_map, List.length_map, List.length_range, sizeLine_eq]
          unfold nRows at hi
          have := Nat.div_le_self (n - 1) wd
          omega
        · refine fun b o e => ?_
          rw [upd_ne (ne_of_none e hLH), upd_ne (ne_of_none (s5 b o e) hD)]
          exact s5 b o e
        · rw [upd_ne ndL, upd_ne ndD]
          exact hd5
        · rw [upd_same]
          unfold rowsL4
          rw [List.range_succ, List.map_append, List.map_append, ← ha]
          rfl
    · obtain ⟨v5, v6, rfl, s5, hd5, hL5⟩ := h
      have hb : ((rowsL4 f n wd (nRows n wd)).map (·.length)).sum + (rowsL4 f n wd (nRows n wd)).length * (("\n" : String) : Str).length ≤ 16777216 := by
        rw [← rows_eq]
        have h1 := rowsOf_sum hsix (w := wd) hn2 0 ((wd : Nat) : Int) (nRows n wd)
        have h2 : (rowsOf (" " : String) (signsF f n) wd 0 ((wd : Nat) : Int) (nRows n wd)).length = nRows n wd := by
          unfold rowsOf
          rw [List.length_map, List.length_range]
        have h3 : nRows n wd ≤ 16 := by
          unfold nRows
          have := Nat.div_le_self (n - 1) wd
          omega
        have h4 : (("\n" : String) : Str).length = 1 := rfl
        rw [h2, h4, Nat.mul_one]
        omega
      refine ⟨rfl, _, rfl, ("\n" : String), L, _, rfl, rfl, .inl (.inl (.inl hL5)), hb, ?_⟩
      have := k H' s5
      unfold gridText at this
      rw [rows_eq] at this
      exact this
end
end G4

set_option Elab.async false
set_option linter.all false
set_option maxRecDepth 100000
set_option maxHeartbeats 4000000
namespace G4
open PySem PySem.Spec PyProof.Rows L2
abbrev strL (w : List Nat) : Str := ⟨w.toArray⟩
theorem strL_inj {u v : List Nat} (h : strL u = strL v) : u = v := by
  have e := congrArg (fun s : Str => s.cps.toList) h
  exact e
theorem dec_strL (u v : List Nat) : decide (V.str (strL u) = V.str (strL v)) = decide (u = v) := by
  by_cases h : u = v
  · subst h
    rw [decide_eq_true rfl, decide_eq_true rfl]
  · rw [decide_eq_false h]
    exact decide_eq_false fun e => h (strL_inj (V.str.inj e))
theorem sub_one (x : Str) (c i : Nat) : Builtin.Str.subAt x ⟨#[c]⟩ i = decide (sg x i = some c) := by
  have e1 : (⟨#[c]⟩ : Str).length = 1 := rfl
  unfold Builtin.Str.subAt
  rw [e1, Bool.eq_iff_iff, beq_iff_eq, decide_eq_true_eq]
  constructor
  · intro h
    have h2 := congrArg Array.toList h
    rw [Array.toList_extract] at h2
    have h3 : (x.cps.toList.drop i).take (i + 1 - i) = [c] := by simpa using h2
    rw [Nat.add_sub_cancel_left] at h3
    unfold sg
    rw [← List.head?_drop]
    cases e : x.cps.toList.drop i with
    | nil => rw [e] at h3; cases h3
    | cons a l =>
      rw [e] at h3
      exact congrArg some (List.cons.inj h3).1
  · intro h
    have hlt := (List.getElem?_eq_some_iff.mp h)
    obtain ⟨hl, he⟩ := hlt
    apply Array.toList_inj.mp
    have : (x.cps.extract i (i + 1)).toList = (x.cps.toList.drop i).take 1 := by simp
    rw [this, List.drop_eq_getElem_cons hl, List.take_succ_cons, List.take_zero, he]
theorem in_one (x : Str) (c : Nat) : (!(Builtin.Str.occurrences x ⟨#[c]⟩ 0 x.length 1).isEmpty) = decide (c ∈ x.cps.toList) := by
  rw [Bool.eq_iff_iff, decide_eq_true_eq, PySem.StrLaws.found_iff]
  constructor
  · rintro ⟨i, _, h⟩
    rw [sub_one, decide_eq_true_eq] at h
    exact List.mem_of_getElem? h
  · intro h
    obtain ⟨i, hi⟩ := List.getElem?_of_mem h
    exact ⟨i, sg_lt (t := x) hi, by rw [sub_one, decide_eq_true_eq]; exact hi⟩
theorem in_digits (c : Nat) : (!(Builtin.Str.occurrences "0123456789" ⟨#[c]⟩ 0 ("0123456789" : Str).length 1).isEmpty) = decide (48 ≤ c ∧ c ≤ 57) := by
  rw [in_one]
  have e : (("0123456789" : Str)).cps.toList = [48, 49, 50, 51, 52, 53, 54, 55, 56, 57] := by decide +kernel
  rw [e]
  by_cases h : 48 ≤ c ∧ c ≤ 57
  · rw [decide_eq_true h, decide_eq_true_eq]
    have : c = 48 ∨ c = 49 ∨ c = 50 ∨ c = 51 ∨ c = 52 ∨ c = 53 ∨ c = 54 ∨ c = 55 ∨ c = 56 ∨ c = 57 := by omega
    simpa using this
  · rw [decide_eq_false h, decide_eq_false_iff_not]
    intro hm
    have : c = 48 ∨ c = 49 ∨ c = 50 ∨ c = 51 ∨ c = 52 ∨ c = 53 ∨ c = 54 ∨ c = 55 ∨ c = 56 ∨ c = 57 := by simpa using hm
    omega
theorem in_gap (c : Nat) : (!(Builtin.Str.occurrences " \n" ⟨#[c]⟩ 0 (" \n" : Str).length 1).isEmpty) = decide (c = 32 ∨ c = 10) := by
  rw [in_one]
  have e : ((" \n" : Str)).cps.toList = [32, 10] := by decide +kernel
  rw [e]
  by_cases h : c = 32 ∨ c = 10
  · rw [decide_eq_true h, decide_eq_true_eq]
    simpa using h
  · rw [decide_eq_false h, decide_eq_false_iff_not]
    intro hm
    exact h (by simpa using hm)
/-! the law's own walk as a plain function -/
structure WS where
  wd : Nat
  he : Nat
  ss : List (List Nat)
  wo : List Nat
def wkS (n i c : Nat) (s : WS) : Option WS :=
  if (48 ≤ c ∧ c ≤ 57) ∧ s.wo ≠ [46] ∧ s.wo ≠ [48] ∧ s.wo.length < 9 ∧ i ≠ n then some ⟨s.wd, s.he, s.ss, s.wo ++ [c]⟩
  else if c = 46 ∧ s.wo = [] then some ⟨s.wd, s.he, s.ss, [46]⟩
  else if s.wo ≠ [] ∧ (c = 32 ∨ c = 10) ∧ (i = n ∨ s.wd = 0 ∨ ((c = 10) ↔ (s.he + 1 = s.wd))) then
    (if c = 10 then some ⟨if 0 < s.wd then s.wd else s.he + 1, 0, s.ss ++ [s.wo], []⟩ else some ⟨s.wd, s.he + 1, s.ss ++ [s.wo], []⟩)
  else none
def wkL (n : Nat) : List Nat → Nat → WS → Except Nat WS
  | [], _, s => .ok s
  | c :: l, i, s => match wkS n i c s with
    | none => .error i
    | some s2 => wkL n l (i + 1) s2
def walkR (t : Str) : Except Nat (List (List Nat) × Nat) :=
  match wkL t.length (t.cps.toList ++ [10]) 0 ⟨0, 0, [], []⟩ with
    | .error e => .error e
    | .ok s => .ok (s.ss, s.wd)
/-- a word: a point, or one to nine digits -/
def Word (w : List Nat) : Prop := w = [46] ∨ (w ≠ [] ∧ w.length ≤ 9 ∧ ∀ c ∈ w, 48 ≤ c ∧ c ≤ 57)
def wordV (w : List Nat) : Option Nat := if w = [46] then none else some (NumText.digitsVal w)
def GoodS (i : Nat) (s : WS) : Prop := s.ss.length ≤ i ∧ s.he ≤ i ∧ (s.wo = [] ∨ Word s.wo) ∧ ∀ w ∈ s.ss, Word w
theorem goodS {n i c : Nat} {s s2 : WS} (g : GoodS i s) (h : wkS n i c s = some s2) : GoodS (i + 1) s2 := by
  obtain ⟨g1, g2, g3, g4⟩ := g
  unfold wkS at h
  by_cases c1 : (48 ≤ c ∧ c ≤ 57) ∧ s.wo ≠ [46] ∧ s.wo ≠ [48] ∧ s.wo.length < 9 ∧ i ≠ n
  · rw [if_pos c1] at h
    rw [← Option.some.inj h]
    refine ⟨by show s.ss.length ≤ i + 1; omega, by show s.he ≤ i + 1; omega, .inr (.inr ⟨?_, ?_, ?_⟩), g4⟩
    · show s.wo ++ [c] ≠ []
      simp
    · show (s.wo ++ [c]).length ≤ 9
      rw [List.length_append]
      have := c1.2.2.2.1
      show s.wo.length + 1 ≤ 9
      omega
    · intro d hd
      rcases List.mem_append.mp hd with z | z
      · rcases g3 with q | q | q
        · rw [q] at z
          cases z
        · exact absurd q c1.2.1
        · exact q.2.2 d z
      · rw [List.mem_singleton.mp z]
        exact c1.1
  · rw [if_neg c1] at h
    by_cases c2 : c = 46 ∧ s.wo = []
    · rw [if_pos c2] at h
      rw [← Option.some.inj h]
      exact ⟨by show s.ss.length ≤ i + 1; omega, by show s.he ≤ i + 1; omega, .inr (.inl rfl), g4⟩
    · rw [if_neg c2] at h
      by_cases c3 : s.wo ≠ [] ∧ (c = 32 ∨ c = 10) ∧ (i = n ∨ s.wd = 0 ∨ ((c = 10) ↔ (s.he + 1 = s.wd)))
      · rw [if_pos c3] at h
        have hw : Word s.wo := g3.resolve_left c3.1
        have k4 : ∀ w ∈ s.ss ++ [s.wo], Word w := fun w hm => by
          rcases List.mem_append.mp hm with z | z
          · exact g4 w z
          · rw [List.mem_singleton.mp z]
            exact hw
        have k1 : (s.ss ++ [s.wo]).length ≤ i + 1 := by
          rw [List.length_append]
          show s.ss.length + 1 ≤ i + 1
          omega
        by_cases c4 : c = 10
        · rw [if_pos c4] at h
          rw [← Option.some.inj h]
          exact ⟨k1, Nat.zero_le _, .inl rfl, k4⟩
        · rw [if_neg c4] at h
          rw [← Option.some.inj h]
          exact ⟨k1, by show s.he + 1 ≤ i + 1; omega, .inl rfl, k4⟩
      · rw [if_neg c3] at h
        cases h
theorem word_int {w : List Nat} (h : Word w) (n : w ≠ [46]) : PySem.intText? (strL w) = some ((NumText.digitsVal w : Nat) : Int) ∧ (strL w).length ≤ 640 := by
  obtain ⟨h1, h2, h3⟩ := h.resolve_left n
  have hl : (strL w).length = w.length := by
    show w.toArray.size = _
    simp
  refine ⟨?_, by rw [hl]; omega⟩
  have := PySem.intText_digits (x := strL w) (by show ∀ c ∈ w.toArray.toList, _; simpa using h3) (by show w.toArray.toList ≠ []; simpa using h1) (by rw [hl]; omega)
  simpa using this
end G4

set_option Elab.async false
set_option linter.all false
set_option maxRecDepth 100000
set_option maxHeartbeats 4000000
namespace G4
open PySem PySem.Spec PyProof.Rows L2
theorem scWalk2 : FnScope ["_law_text", "_law_width", "_law_here", "_law_signs", "_law_word", "_law_place", "_law_sign", "_law_is_end", "_law_c", "_law_one"] ["_law_text"] (defScope sWalk) := ⟨rfl, rfl, rfl, by decide +kernel, rfl, by decide +kernel, by decide +kernel⟩
theorem ne_t {u v : List Nat} (h : ¬ u = v) : (!decide (V.str (strL u) = V.str (strL v))) = true := by
  rw [dec_strL, decide_eq_false h]
  rfl
theorem ne_f {u v : List Nat} (h : u = v) : (!decide (V.str (strL u) = V.str (strL v))) = false := by
  rw [dec_strL, decide_eq_true h]
  rfl
theorem eq_t {u v : List Nat} (h : u = v) : decide (V.str (strL u) = V.str (strL v)) = true := by
  rw [dec_strL, decide_eq_true h]
theorem eq_f {u v : List Nat} (h : ¬ u = v) : decide (V.str (strL u) = V.str (strL v)) = false := by
  rw [dec_strL, decide_eq_false h]
theorem wkL_cons (n c i : Nat) (l : List Nat) (s : WS) : wkL n (c :: l) i s = match wkS n i c s with
    | none => .error i
    | some s2 => wkL n l (i + 1) s2 := rfl
theorem dec_gap (c a b : Nat) : decide (V.bl (decide (V.str ⟨#[c]⟩ = V.str "\n")) = V.bl (decide (V.int (((a : Nat) : Int) + 1) = V.int ((b : Nat) : Int)))) = decide ((c = 10) ↔ (a + 1 = b)) := by
  have e1 : decide (V.str ⟨#[c]⟩ = V.str "\n") = decide (c = 10) := by
    have := dec_strL [c] [10]
    rw [show decide (([c] : List Nat) = [10]) = decide (c = 10) from by
      by_cases h : c = 10
      · rw [decide_eq_true h, h]
        rfl
      · rw [decide_eq_false h, decide_eq_false fun q => h (List.cons.inj q).1]] at this
    exact this
  have e2 : decide (V.int (((a : Nat) : Int) + 1) = V.int ((b : Nat) : Int)) = decide (a + 1 = b) := dec_int (a + 1) b
  rw [e1, e2]
  by_cases h1 : c = 10
  · by_cases h2 : a + 1 = b
    · rw [decide_eq_true h1, decide_eq_true h2, decide_eq_true rfl, decide_eq_true (iff_of_true h1 h2)]
    · rw [decide_eq_true h1, decide_eq_false h2, decide_eq_false (p := (c = 10) ↔ (a + 1 = b)) fun q => h2 (q.mp h1)]
      rfl
  · by_cases h2 : a + 1 = b
    · rw [decide_eq_false h1, decide_eq_true h2, decide_eq_false (p := (c = 10) ↔ (a + 1 = b)) fun q => h1 (q.mpr h2)]
      rfl
    · rw [decide_eq_false h1, decide_eq_false h2, decide_eq_true rfl, decide_eq_true (iff_of_false h1 h2)]
structure TxtW (K : PySem.W.Frag) (mg : Str → Option Value) (fW : Addr) (dW : FuncData) : Prop where
  F : Fun K "_law_grid_walk" "_law_grid_walk" sWalk fW dW
  b : Binds K dW ["_law_text"] []
  g : mg "_law_grid_walk" = some (.ref fW)
  enm : mg "enumerate" = none
  len : mg "len" = none
  tpl : mg "tuple" = none
  int : mg "int" = none
def spWalk : Sp := fun vs H Q _ => ∃ t : Str, vs = [.str t] ∧ t.length ≤ 100000 ∧
  (∀ e, walkR t = .error e → ∀ tp H', Same H H' → H tp = none → H' tp = some (.tup [.int ((e : Nat) : Int), .non]) → Q (.ref tp) H') ∧
  (∀ ss w, walkR t = .ok (ss, w) → ∀ tp g H', Same H H' → H tp = none → H' tp = some (.tup [.int ((t.length : Nat) : Int), .ref g]) → GridAt H' g ss.length w (cellsFromN 0 (ss.map wordV)) → Q (.ref tp) H')
abbrev strV (w : List Nat) : V := .str (strL w)
section
variable {P : Program} {w : World} {K : PySem.W.Frag} {mg : Str → Option Value} {base : Heap} {fW : Addr} {dW : FuncData}
theorem ok_walk (T : TxtW K mg fW dW) : FnOk P w K mg base CX0 1 fW dW ["_law_text"] spWalk := by
  refine T.F.ok scWalk2 (fun vs H Q E h => ?_) (fun cdv A outer s H vs Q E hr h => ?_)
  · obtain ⟨t, rfl, _⟩ := h
    rfl
  · obtain ⟨t, rfl, hz, kE, kO⟩ := h
    refine ⟨_, pss_cons (ps_asg (pe_tup (pa_cons pe_int (pa_cons pe_int (pa_cons (pe_lst pa_nil) (pa_cons pe_str pa_nil)))))
        (pg_tup rfl (pgs_cons (pg_name (i := 1) scWalk2.nd rfl (.inl rfl)) (pgs_cons (pg_name (i := 2) scWalk2.nd rfl (.inl rfl)) (pgs_cons (pg_name (i := 3) scWalk2.nd rfl (.inl rfl)) (pgs_cons (pg_name (i := 4) scWalk2.nd rfl (.inl rfl)) pgs_nil))))))
      (pss_cons (ps_for PassesOwn.never rfl (pi_enumS (by rfl) T.enm (pa_cons (pe_op op_add_str (pv 0) pe_str) pa_nil)) (pg_tup rfl (pgs_cons (pg_name (i := 5) scWalk2.nd rfl (.inl rfl)) (pgs_cons (pg_name (i := 6) scWalk2.nd rfl (.inl rfl)) pgs_nil)))
        (pss_cons (ps_set (i := 7) scWalk2.nd rfl (.inl rfl) (pe_cmpR op_eq (pv 5) (pe_callB call_len_str (by rfl) T.len PySem.boot_len (pa_cons (pv 0) pa_nil)) (nomark _)))
        (pss_one (ps_if (pw_and (pt_cmpR op_in_str (pv 6) pe_str (by rfl)) (pw_and (pt_cmpR op_ne (pv 4) pe_str (nomark _)) (pw_and (pt_cmpR op_ne (pv 4) pe_str (nomark _)) (pw_and (pt_cmpR op_lt (pe_callB call_len_str (by rfl) T.len PySem.boot_len (pa_cons (pv 4) pa_nil)) pe_int (nomark _)) (pw_and1 (pt_not (pt_val (pv 7)))))))).pt
          (pss_one (ps_set (i := 4) scWalk2.nd rfl (.inl rfl) (pe_op op_add_str (pv 4) (pv 6))))
          (pss_one (ps_if (pw_and (pt_cmpR op_eq (pv 6) pe_str (nomark _)) (pw_and1 (pt_cmpR op_eq (pv 4) pe_str (nomark _)))).pt
            (pss_one (ps_set (i := 4) scWalk2.nd rfl (.inl rfl) pe_str))
            (pss_one (ps_if (pw_and (pt_cmpR op_ne (pv 4) pe_str (nomark _)) (pw_and (pt_cmpR op_in_str (pv 6) pe_str (by rfl)) (pw_and1 (pw_or (pt_val (pv 7)) (pw_or (pt_cmpR op_eq (pv 1) pe_int (nomark _)) (pw_or1 (pt_cmpR op_eq (pe_cmpR op_eq (pv 6) pe_str (nomark _)) (pe_cmpR op_eq (pe_op op_add (pv 2) pe_int) (pv 1) (nomark _)) (nomark _))))).pt))).pt
              (pss_cons (ps_par3 (i := 3) (j := 2) (l := 4) rfl scWalk2.nd rfl rfl rfl (by decide) (by decide) (by decide) rfl rfl rfl (pa_cons (pe_op op_cat (pv 3) (pe_lst (pa_cons (pv 4) pa_nil))) (pa_cons (pe_op op_add (pv 2) pe_int) (pa_cons pe_str pa_nil))) rfl)
              (pss_one (ps_if (pt_cmpR op_eq (pv 6) pe_str (nomark _))
                (pss_one (ps_par (i := 1) (j := 2) rfl scWalk2.nd rfl rfl (by decide) rfl rfl (pa_cons (pe_ifExp (pt_cmpR op_gt (pv 1) pe_int (nomark _)) (pv 1) (pv 2)) (pa_cons pe_int pa_nil)) rfl)) pss_nil)))
              (pss_one (ps_ret (pe_tup (pa_cons (pv 5) (pa_cons pe_non pa_nil)))))))))))))
      (pss_one (ps_ret (pe_tup (pa_cons (pe_callB call_len_str (by rfl) T.len PySem.boot_len (pa_cons (pv 0) pa_nil)) (pa_cons (pe_tup (pa_cons (pe_callB call_len_seq (by rfl) T.len PySem.boot_len (pa_cons (pv 3) pa_nil)) (pa_cons (pv 1) (pa_cons (pe_callTy call_tuple_of (by rfl) T.tpl PyProof.Rows.boot_tuple
        (pa_cons (pe_lc (own := [("_law_c", 8), ("_law_one", 9)]) (g := gTup K 2 (gCons (gName 8) (gCons (gName 9) gNil))) rfl scWalk2.nd (pi_enum (by rfl) T.enm (pa_cons (pv 3) pa_nil)) (blkOk_by (N := ["_law_text", "_law_width", "_law_here", "_law_signs", "_law_word", "_law_place", "_law_sign", "_law_is_end", "_law_c", "_law_one"]) (sc := defScope sWalk) (by decide +kernel))
          (fun _ _ _ _ _ => pg_tup rfl (pgs_cons (pg_name (i := 8) scWalk2.nd rfl (.inl rfl) (.inr rfl)) (pgs_cons (pg_name (i := 9) scWalk2.nd rfl (.inl rfl) (.inr rfl)) pgs_nil)))
          (fun _ _ _ _ _ => pts_one (pt_cmpR op_ne (pv 9) pe_str (nomark _)))
          (fun _ _ _ _ _ => pe_tup (pa_cons (pv 8) (pa_cons (pe_callTy call_int_str (by rfl) T.int PyProof.Rows.boot_int (pa_cons (pv 9) pa_nil)) pa_nil)))) pa_nil)) pa_nil)))) pa_nil)))))), ?_⟩
    -- the names
    refine ⟨Nat.zero_le _, fun L hL => ⟨(by show 4 ≤ sizeLine; decide), fun tp0 htp0 => ⟨tp0, _, rfl, .inl (.inl upd_same), rfl, _, _, rfl, _, _, rfl, _, _, rfl, _, _, rfl, rfl, ?_⟩⟩⟩
    have s1 : Same H (upd (upd H L (.lst [])) tp0 (.tup [.int 0, .int 0, .ref L, .str ""])) := (same_new hL).trans (same_new htp0)
    have hL1 : upd (upd H L (.lst [])) tp0 (.tup [.int 0, .int 0, .ref L, .str ""]) L = some (.lst []) := by rw [upd_ne (ne_of_none upd_same htp0), upd_same]
    have hnl : ("\n" : Str).length = 1 := rfl
    -- the signs
    refine ⟨_, rfl, _, _, rfl, rfl, by rw [hnl, sizeLine_eq]; omega, _, rfl, ?_⟩
    have hfull : (t ++ ("\n" : Str)).cps.toList = t.cps.toList ++ [10] := by
      show (t.cps ++ ("\n" : Str).cps).toList = _
      rw [Array.toList_append]
      rfl
    have hsz : (t ++ ("\n" : Str)).cps.size = t.length + 1 := by
      show (t.cps ++ ("\n" : Str).cps).size = _
      rw [Array.size_append]
      rfl
    generalize hfl : t.cps.toList ++ [10] = full at hfull
    generalize t ++ ("\n" : Str) = z at hfull hsz ⊢
    refine for_it (w := walk_enumS) (fun i σ H' => ∃ (s : WS) (v5 v6 v7 : Option V) (sl : Addr), σ = [some (.str t), some (.int ((s.wd : Nat) : Int)), some (.int ((s.he : Nat) : Int)), some (.ref sl), some (strV s.wo), v5, v6, v7, none, none] ∧ Same H H' ∧ H sl = none ∧ H' sl = some (.lst (s.ss.map strV)) ∧ GoodS i s ∧
        wkL t.length full 0 ⟨0, 0, [], []⟩ = wkL t.length (full.drop i) i s)
      ⟨⟨0, 0, [], []⟩, none, none, none, L, rfl, s1, hL, hL1, ⟨Nat.zero_le _, Nat.zero_le _, .inl rfl, fun w hw => nomatch hw⟩, rfl⟩ (fun _ _ _ _ _ => trivial) (fun i x σ H' H'' hi h hy => ?_) (fun σ H' h => ?_)
    · obtain ⟨s, v5, v6, v7, sl, rfl, s2, hsl, hl2, hg, hwk⟩ := h
      obtain ⟨Tt, c, rfl, hTt, hc, rfl⟩ := hy
      have hcf : full[i]? = some c := by
        rw [← hfull]
        simpa using hc
      have hdrop : full.drop i = c :: full.drop (i + 1) := by
        have hlt := (List.getElem?_eq_some_iff.mp hcf)
        rw [List.drop_eq_getElem_cons hlt.1, hlt.2]
      rw [hdrop, wkL_cons] at hwk
      refine ⟨Tt, _, rfl, .inl (.inl upd_same), rfl, _, _, rfl, _, _, rfl, rfl, ?_⟩
      have s3 : Same H (upd H' Tt (.tup [.int ((i : Nat) : Int), .str ⟨#[c]⟩])) := s2.trans (same_new hTt)
      have hl3 : upd H' Tt (.tup [.int ((i : Nat) : Int), .str ⟨#[c]⟩]) sl = some (.lst (s.ss.map strV)) := by rw [upd_ne (ne_of_none hl2 hTt)]; exact hl2
      generalize upd H' Tt (.tup [.int ((i : Nat) : Int), .str ⟨#[c]⟩]) = H2 at s3 hl3 ⊢
      clear hl2 s2 hTt
      -- is_end
      refine ⟨_, rfl, _, rfl, t, rfl, (by rw [sizeLine_eq]; omega), rfl, ?_⟩
      rw [dec_int]
      generalize hr1 : wkS t.length i c s = r at hwk
      have hstop : r = none → ∀ tp H3, Same H H3 → H tp = none → H3 tp = some (.tup [.int ((i : Nat) : Int), .non]) → Q (.ref tp) H3 := fun hn tp H3 k1 k2 k3 => by
        subst hn
        refine kE i ?_ tp H3 k1 k2 k3
        unfold walkR
        rw [hfl, hwk]
      have hnext : ∀ s2, r = some s2 → GoodS (i + 1) s2 ∧ wkL t.length full 0 ⟨0, 0, [], []⟩ = wkL t.length (full.drop (i + 1)) (i + 1) s2 := fun s2 hn => by
        subst hn
        exact ⟨goodS hg hr1, hwk⟩
      unfold wkS at hr1
      have hwl : (strL s.wo).length = s.wo.length := by
        show s.wo.toArray.size = _
        simp
      have hw9 : s.wo.length ≤ 9 := by
        rcases hg.2.2.1 with q | q | q
        · rw [q]
          exact Nat.zero_le _
        · rw [q]
          show 1 ≤ 9
          decide
        · exact q.2.1
      suffices part2 : ¬ ((48 ≤ c ∧ c ≤ 57) ∧ s.wo ≠ [46] ∧ s.wo ≠ [48] ∧ s.wo.length < 9 ∧ i ≠ t.length) → _ by
        refine ⟨_, rfl, _, _, rfl, rfl, _, rfl, ?_⟩
        rw [in_digits]
        by_cases d1 : 48 ≤ c ∧ c ≤ 57
        · refine if_true_of (decide_eq_true d1) ⟨_, rfl, rfl, _, rfl, ?_⟩
          by_cases d2 : s.wo = [46]
          · exact if_false_of (ne_f (v := [46]) d2) (part2 fun q => q.2.1 d2)
          · refine if_true_of (ne_t (v := [46]) d2) ⟨_, rfl, rfl, _, rfl, ?_⟩
            by_cases d3 : s.wo = [48]
            · exact if_false_of (ne_f (v := [48]) d3) (part2 fun q => q.2.2.1 d3)
            · refine if_true_of (ne_t (v := [48]) d3) ⟨_, rfl, _, rfl, (by rw [hwl, sizeLine_eq]; omega), _, _, rfl, rfl, _, rfl, ?_⟩
              rw [hwl]
              by_cases d4 : s.wo.length < 9
              · refine if_true_of (decide_eq_true (by omega)) ⟨_, rfl, _, rfl, ?_⟩
                by_cases d5 : i = t.length
                · exact if_false_of (by rw [decide_eq_true d5]; rfl) (part2 fun q => q.2.2.2.2 d5)
                · refine if_true_of (by rw [decide_eq_false d5]; rfl) ?_
                  rw [if_pos ⟨d1, d2, d3, d4, d5⟩] at hr1
                  obtain ⟨n1, n2⟩ := hnext _ hr1.symm
                  refine ⟨_, rfl, _, rfl, _, _, rfl, rfl, (by rw [hwl, sizeLine_eq]; show s.wo.length + 1 ≤ _; omega), ⟨s.wd, s.he, s.ss, s.wo ++ [c]⟩, some (.int ((i : Nat) : Int)), some (.str ⟨#[c]⟩), some (.bl (decide (i = t.length))), sl, ?_, s3, hsl, hl3, n1, n2⟩
                  have e : (strL s.wo ++ (⟨#[c]⟩ : Str)) = strL (s.wo ++ [c]) := by
                    show (⟨s.wo.toArray ++ #[c]⟩ : Str) = ⟨(s.wo ++ [c]).toArray⟩
                    simp
                  rw [e]
                  rfl
              · exact if_false_of (decide_eq_false (by omega)) (part2 fun q => d4 q.2.2.2.1)
        · exact if_false_of (decide_eq_false d1) (part2 fun q => d1 q.1)
      intro nC1
      rw [if_neg nC1] at hr1
      suffices part3 : ¬ (c = 46 ∧ s.wo = []) → _ by
        refine ⟨_, rfl, rfl, _, rfl, ?_⟩
        by_cases d1 : c = 46
        · refine if_true_of (eq_t (u := [c]) (v := [46]) (by rw [d1])) ⟨_, rfl, rfl, _, rfl, ?_⟩
          by_cases d2 : s.wo = []
          · refine if_true_of (eq_t (v := []) d2) ?_
            rw [if_pos ⟨d1, d2⟩] at hr1
            obtain ⟨n1, n2⟩ := hnext _ hr1.symm
            exact ⟨⟨s.wd, s.he, s.ss, [46]⟩, _, _, _, sl, rfl, s3, hsl, hl3, n1, n2⟩
          · exact if_false_of (eq_f (v := []) d2) (part3 fun q => d2 q.2)
        · exact if_false_of (eq_f (u := [c]) (v := [46]) (fun q => d1 (List.cons.inj q).1)) (part3 fun q => d1 q.1)
      intro nC2
      rw [if_neg nC2] at hr1
      suffices part4 : ¬ (s.wo ≠ [] ∧ (c = 32 ∨ c = 10) ∧ (i = t.length ∨ s.wd = 0 ∨ ((c = 10) ↔ (s.he + 1 = s.wd)))) → _ by
        refine ⟨_, rfl, rfl, _, rfl, ?_⟩
        by_cases d1 : s.wo = []
        · exact if_false_of (ne_f (v := []) d1) (part4 fun q => q.1 d1)
        refine if_true_of (ne_t (v := []) d1) ⟨_, rfl, _, _, rfl, rfl, _, rfl, ?_⟩
        rw [in_gap]
        by_cases d2 : c = 32 ∨ c = 10
        · refine if_true_of (decide_eq_true d2) ?_
          suffices yes : (i = t.length ∨ s.wd = 0 ∨ ((c = 10) ↔ (s.he + 1 = s.wd))) → _ by
            refine ⟨_, rfl, _, rfl, ?_⟩
            by_cases d3 : i = t.length
            · refine if_true_of (decide_eq_true d3) ?_
              refine iteT ?_
              exact yes (.inl d3)
            · refine if_false_of (decide_eq_false d3) ⟨_, rfl, rfl, _, rfl, ?_⟩
              by_cases d4 : s.wd = 0
              · refine if_true_of (decide_eq_true (p := V.int ((s.wd : Nat) : Int) = V.int 0) (by rw [d4]; rfl)) ?_
                refine iteT ?_
                exact yes (.inr (.inl d4))
              · refine if_false_of (decide_eq_false (fun q => d4 (by have := V.int.inj q; omega))) ⟨_, rfl, rfl, _, rfl, _, _, rfl, rfl, _, rfl, rfl, rfl, _, rfl, ?_⟩
                by_cases d5 : (c = 10) ↔ (s.he + 1 = s.wd)
                · refine if_true_of ((dec_gap c s.he s.wd).trans (decide_eq_true d5)) ?_
                  exact yes (.inr (.inr d5))
                · refine if_false_of ((dec_gap c s.he s.wd).trans (decide_eq_false d5)) ?_
                  refine part4 fun q => ?_
                  rcases q.2.2 with q | q | q
                  · exact d3 q
                  · exact d4 q
                  · exact d5 q
          intro hy3
          rw [if_pos ⟨d1, d2, hy3⟩] at hr1
          refine ⟨_, rfl, _, rfl, (by show 1 ≤ sizeLine; decide), fun W hW => ⟨sl, W, s.ss.map strV, [strV s.wo], rfl, rfl, ?_, upd_same, ?_, fun N hN => ⟨_, rfl, _, _, rfl, rfl, _, _, _, rfl, ?_⟩⟩⟩
          · rw [upd_ne (ne_of_none hl3 hW)]
            exact hl3
          · have := hg.1
            rw [List.length_map, sizeLine_eq]
            show s.ss.length + 1 ≤ _
            omega
          have s4 : Same H (upd (upd H2 W (.lst [strV s.wo])) N (.lst (s.ss.map strV ++ [strV s.wo]))) := (s3.trans (same_new hW)).trans (same_new hN)
          have hN0 : H N = none := same_free (s3.trans (same_new hW)) hN
          have hl4 : upd (upd H2 W (.lst [strV s.wo])) N (.lst (s.ss.map strV ++ [strV s.wo])) N = some (.lst ((s.ss ++ [s.wo]).map strV)) := by
            rw [upd_same, List.map_append]
            rfl
          refine ⟨_, rfl, rfl, _, rfl, ?_⟩
          by_cases d6 : c = 10
          · refine if_true_of (eq_t (u := [c]) (v := [10]) (by rw [d6])) ⟨_, rfl, _, _, rfl, rfl, _, rfl, ?_⟩
            rw [if_pos d6] at hr1
            by_cases d7 : 0 < s.wd
            · refine if_true_of (decide_eq_true (by omega)) ⟨_, rfl, _, _, rfl, ?_⟩
              rw [if_pos d7] at hr1
              obtain ⟨n1, n2⟩ := hnext _ hr1.symm
              exact ⟨⟨s.wd, 0, s.ss ++ [s.wo], []⟩, _, _, _, N, rfl, s4, hN0, hl4, n1, n2⟩
            · refine if_false_of (decide_eq_false (by omega)) ⟨_, rfl, _, _, rfl, ?_⟩
              rw [if_neg d7] at hr1
              obtain ⟨n1, n2⟩ := hnext _ hr1.symm
              exact ⟨⟨s.he + 1, 0, s.ss ++ [s.wo], []⟩, _, _, _, N, rfl, s4, hN0, hl4, n1, n2⟩
          · refine if_false_of (eq_f (u := [c]) (v := [10]) (fun q => d6 (List.cons.inj q).1)) ?_
            rw [if_neg d6] at hr1
            obtain ⟨n1, n2⟩ := hnext _ hr1.symm
            exact ⟨⟨s.wd, s.he + 1, s.ss ++ [s.wo], []⟩, _, _, _, N, rfl, s4, hN0, hl4, n1, n2⟩
        · exact if_false_of (decide_eq_false d2) (part4 fun q => d2 q.2.1)
      intro nC3
      rw [if_neg nC3] at hr1
      exact ⟨_, rfl, (by show 2 ≤ sizeLine; decide), fun tp htp => hstop hr1.symm tp _ (s3.trans (same_new htp)) (same_free s3 htp) upd_same⟩
    · obtain ⟨s, v5, v6, v7, sl, rfl, s2, hsl, hl2, hg, hwk⟩ := h
      have hl : full.length = t.length + 1 := by
        rw [← hfl, List.length_append, len_list]
        rfl
      rw [hsz, List.drop_eq_nil_of_le (by omega)] at hwk
      have hok : walkR t = .ok (s.ss, s.wd) := by
        unfold walkR
        rw [hfl, hwk]
        rfl
      rw [hsz] at hg
      have hgl := hg.1
      refine ⟨_, rfl, t, rfl, (by rw [sizeLine_eq]; omega), ?_⟩
      refine ⟨_, rfl, sl, _, rfl, .inl (.inl (.inl hl2)), _, rfl, ?_⟩
      rw [List.length_map]
      refine ⟨_, rfl, sl, _, rfl, .inl (.inl hl2), fun D hD => ?_⟩
      have nlD : sl ≠ D := ne_of_none hl2 hD
      have hDH : H D = none := same_free s2 hD
      refine lc_it (w := walk_enum (K := K) (a := sl) (xs := s.ss.map strV)) (fun i H4 => Same H H4 ∧ H4 sl = some (.lst (s.ss.map strV)) ∧ ∃ vs, H4 D = some (.lst vs) ∧ vs.length ≤ i ∧ PairsAt H4 vs (cellsFromN 0 ((s.ss.take i).map wordV)))
        ⟨s2.trans (same_new hD), by rw [upd_ne nlD]; exact hl2, [], upd_same, Nat.zero_le _, .nil⟩ (fun i H4 _ h => .inl (.inl h.2.1)) (fun i x H4 H5 hi h hy => ?_) (fun H4 h => ?_)
      · obtain ⟨s4, hl4, vs, hvs, hvl, hpa⟩ := h
        obtain ⟨Tt, x1, y, rfl, hTt, rfl, hx1, hy1⟩ := hy
        rw [List.length_map] at hi
        have hget : (s.ss.map strV)[i]? = some (strV s.ss[i]) := by
          rw [List.getElem?_map, List.getElem?_eq_getElem hi]
          rfl
        have e1 : x1 = .int ((i : Nat) : Int) := (Option.some.inj hx1).symm
        have e2 : y = strV s.ss[i] := Option.some.inj (hy1.symm.trans hget)
        subst e1 e2
        have htk : (s.ss.take (i + 1)).map wordV = (s.ss.take i).map wordV ++ [wordV s.ss[i]] := by
          rw [List.take_add_one, List.getElem?_eq_getElem hi, List.map_append]
          rfl
        have hlen : ((s.ss.take i).map wordV).length = i := by
          rw [List.length_map, List.length_take]
          omega
        have nTl : sl ≠ Tt := ne_of_none hl4 hTt
        have nTD : D ≠ Tt := ne_of_none hvs hTt
        have s5 : Same H (upd H4 Tt (.tup [.int ((i : Nat) : Int), strV s.ss[i]])) := s4.trans (same_new hTt)
        have hl5 : upd H4 Tt (.tup [.int ((i : Nat) : Int), strV s.ss[i]]) sl = some (.lst (s.ss.map strV)) := by rw [upd_ne nTl]; exact hl4
        have hvs5 : upd H4 Tt (.tup [.int ((i : Nat) : Int), strV s.ss[i]]) D = some (.lst vs) := by rw [upd_ne nTD]; exact hvs
        have hp5 : PairsAt (upd H4 Tt (.tup [.int ((i : Nat) : Int), strV s.ss[i]])) vs (cellsFromN 0 ((s.ss.take i).map wordV)) := hpa.keep fun b ys e => by
          rw [upd_ne (ne_of_none e hTt)]
          exact e
        refine ⟨Tt, _, rfl, .inl (.inl upd_same), rfl, _, _, rfl, _, _, rfl, rfl, rfl, _, rfl, rfl, _, rfl, ?_⟩
        generalize upd H4 Tt (.tup [.int ((i : Nat) : Int), strV s.ss[i]]) = H5 at s5 hl5 hvs5 hp5 ⊢
        by_cases d1 : s.ss[i] = [46]
        · refine if_false_of (ne_f (v := [46]) d1) ⟨s5, hl5, vs, hvs5, by omega, ?_⟩
          rw [htk, cellsFromN_app, show wordV s.ss[i] = none by unfold wordV; rw [if_pos d1], List.append_nil]
          exact hp5
        · obtain ⟨w1, w2⟩ := word_int (hg.2.2.2 _ (List.getElem_mem hi)) d1
          refine if_true_of (ne_t (v := [46]) d1) ⟨_, rfl, _, rfl, _, _, rfl, w1, w2, (by show 2 ≤ sizeLine; decide), fun pr hpr => ?_⟩
          have nPl : sl ≠ pr := ne_of_none hl5 hpr
          have nPD : D ≠ pr := ne_of_none hvs5 hpr
          refine ⟨vs, by rw [upd_ne nPD]; exact hvs5, by rw [sizeLine_eq]; omega, fun b o e => ?_, ?_, vs ++ [.ref pr], upd_same, by rw [List.length_append]; show vs.length + 1 ≤ i + 1; omega, ?_⟩
          · have e5 := s5 b o e
            rw [upd_ne (ne_of_none e hDH), upd_ne (ne_of_none e5 hpr)]
            exact e5
          · rw [upd_ne nlD, upd_ne nPl]
            exact hl5
          · rw [htk, cellsFromN_app, show wordV s.ss[i] = some (NumText.digitsVal s.ss[i]) by unfold wordV; rw [if_neg d1]]
            refine PairsAt.snoc (hp5.keep fun b ys e => ?_) ⟨pr, rfl, ?_⟩
            · have nbD : b ≠ D := ne_of e hvs5 (by intro z; cases z)
              rw [upd_ne nbD, upd_ne (ne_of_none e hpr)]
              exact e
            · rw [upd_ne nPD.symm, upd_same, hlen, Nat.zero_add]
      · obtain ⟨s4, hl4, vs, hvs, hvl, hpa⟩ := h
        rw [List.length_map, List.take_length] at hpa
        refine ⟨D, _, rfl, .inl ⟨.inl (.inl hvs), fun tt htt => ?_⟩⟩
        refine ⟨(by show 3 ≤ sizeLine; decide), fun r hr => ⟨(by show 2 ≤ sizeLine; decide), fun tp htp => ?_⟩⟩
        have nrt : tt ≠ r := ne_of_none upd_same hr
        have s5 := s4.trans (same_new (o := .tup vs) htt)
        have s6 := s5.trans (same_new (o := .tup [.int ((s.ss.length : Nat) : Int), .int ((s.wd : Nat) : Int), .ref tt]) hr)
        have ntp1 : tt ≠ tp := ne_of_none (show upd (upd H4 tt (.tup vs)) r _ tt = some (.tup vs) by rw [upd_ne nrt, upd_same]) htp
        have ntp2 : r ≠ tp := ne_of_none upd_same htp
        have nr4 : H4 r = none := by
          rw [upd_ne nrt.symm] at hr
          exact hr
        have nt4 : H4 tp = none := by
          rw [upd_ne ntp2.symm, upd_ne ntp1.symm] at htp
          exact htp
        refine kO s.ss s.wd hok tp r _ (s6.trans (same_new htp)) (same_free s4 nt4) upd_same ⟨tt, vs, by rw [upd_ne ntp2, upd_same], by rw [upd_ne ntp1, upd_ne nrt, upd_same], hpa.keep fun b ys e => ?_⟩
        rw [upd_ne (ne_of_none e nt4), upd_ne (ne_of_none e nr4), upd_ne (ne_of_none e htt)]
        exact e
end
end G4

set_option Elab.async false
set_option linter.all false
set_option maxRecDepth 100000
set_option maxHeartbeats 4000000
namespace G4
open PySem PySem.Spec PyProof.Rows L2
section
variable {X : Cx}
/-- repr of data: what it shows -/
def rReprD (K : PySem.W.Frag) : List V → Hp → VK → Prop := fun xs H Q => ∃ (x : V) (d : PyData), xs = [x] ∧ Dp K H x d ∧ d.showable = true ∧ d.hasDict = false ∧ d.depth ≤ 60 ∧ d.shown.length ≤ sizeLine ∧ Q (.str d.shown) H
theorem call_reprD (hg : X.A.guards = some []) (hu : X.A.units + 64 < cLine) : CallR X (.builtin "repr") (rReprD X.K) := by
  intro pins s σ H xs us Q I r h
  obtain ⟨x, d, rfl, hd, hs, hn, hdp, hz, q⟩ := h
  obtain ⟨u, rfl, rx⟩ := vals1 r
  obtain ⟨as, rd⟩ := Dp.reads I d x u hd rx
  have fin : ∀ h' u2 tk, (∀ b o, s.heap.get? b = some o → h'.get? b = some o) → EP X pins σ Q (.str d.shown u2) { s with heap := h', toks := tk } := fun h' u2 tk k =>
    ⟨.str d.shown, H, I.kept (t' := tk) k, ⟨u2, rfl⟩, q⟩
  cases hd with
  | non =>
    cases rx
    rw [PyData.shown] at q
    exact PySem.P.repr_of_none ⟨.str "None", H, I.tok _, ⟨_, rfl⟩, q⟩
  | bl b =>
    cases rx
    rw [PyData.shown] at q
    exact PySem.P.repr_of_bool ⟨.str _, H, I.tok _, ⟨_, rfl⟩, q⟩
  | int i =>
    obtain ⟨t, rfl⟩ := rx
    rw [PyData.shown] at q
    exact PySem.P.repr_of_int (by simpa [PyData.showable] using hs) ⟨.str _, H, I.tok _, ⟨_, rfl⟩, q⟩
  | str z =>
    obtain ⟨t, rfl⟩ := rx
    rw [PyData.shown] at q hz
    exact PySem.P.repr_of_str ⟨.str _, H, I.tok _, ⟨_, rfl⟩, q⟩ hz
  | lst _ _ =>
    cases rx
    exact repr_of_reads' rd hs (PyData.noDict_hsm hn) hg (by omega) (fun _ _ e => e) fin hz
  | tup _ _ =>
    cases rx
    exact repr_of_reads' rd hs (PyData.noDict_hsm hn) hg (by omega) (fun _ _ e => e) fin hz
end
/-! data stays as it is while what is tracked stays -/
theorem Same.seqT {K : PySem.W.Frag} {H H' : Hp} {a : Addr} {xs : List V} (e : Same H H') (h : SqT K H a xs) : SqT K H' a xs := by
  rcases h with (h | ⟨o, h⟩) | h
  · exact .inl (.inl (e _ _ h))
  · exact .inl (.inr ⟨o, e _ _ h⟩)
  · exact .inr h
/-- all that is a list or a tuple stays -/
def KeepD (H H' : Hp) : Prop := (∀ b xs, H b = some (.lst xs) → H' b = some (.lst xs)) ∧ (∀ b xs, H b = some (.tup xs) → H' b = some (.tup xs)) ∧ ∀ b o u, H b = some (.frz o u) → H' b = some (.frz o u)
theorem keepD_same {H H' : Hp} (h : Same H H') : KeepD H H' := ⟨fun b xs e => h _ _ e, fun b xs e => h _ _ e, fun b o u e => h _ _ e⟩
theorem keepD_kpO {P : Addr} {H H' : Hp} (hT : GxR.TabG H P) (h : KpO P H H') : KeepD H H' :=
  ⟨fun b xs e => h.2 b _ (tabG_ne hT e fun q z => by cases z) e, fun b xs e => h.2 b _ (tabG_ne hT e fun q z => by cases z) e, fun b o u e => h.2 b _ (tabG_ne hT e fun q z => by cases z) e⟩
mutual
theorem dp_keep {K : PySem.W.Frag} {H H' : Hp} (k : KeepD H H') : ∀ (d : PyData) (v : V), Dp K H v d → Dp K H' v d
  | .none, _, h => by
    cases h
    exact .non
  | .bool b, _, h => by
    cases h
    exact .bl b
  | .int i, _, h => by
    cases h
    exact .int i
  | .str x, _, h => by
    cases h
    exact .str x
  | .list ds, _, h => by
    cases h with
    | lst hs ha =>
      refine .lst ?_ (dpAll_keep k ds _ ha)
      rcases hs with (hs | ⟨o, hs⟩) | hs
      · exact .inl (.inl (k.1 _ _ hs))
      · exact .inl (.inr ⟨o, k.2.2 _ _ _ hs⟩)
      · exact .inr hs
  | .tuple ds, _, h => by
    cases h with
    | tup hs ha =>
      refine .tup ?_ (dpAll_keep k ds _ ha)
      rcases hs with (hs | ⟨o, hs⟩) | hs
      · exact .inl (.inl (k.2.1 _ _ hs))
      · exact .inl (.inr ⟨o, k.2.2 _ _ _ hs⟩)
      · exact .inr hs
  | .dict _, _, h => by cases h
theorem dpAll_keep {K : PySem.W.Frag} {H H' : Hp} (k : KeepD H H') : ∀ (ds : List PyData) (vs : List V), DpAll K H vs ds → DpAll K H' vs ds
  | [], _, h => by
    cases h
    exact .nil
  | d :: ds, _, h => by
    cases h with
    | cons a b => exact .cons (dp_keep k d _ a) (dpAll_keep k ds _ b)
end
theorem dpAll_len {K : PySem.W.Frag} {H : Hp} : ∀ {vs : List V} {ds : List PyData}, DpAll K H vs ds → vs.length = ds.length
  | _, [], h => by
    cases h
    rfl
  | _, _ :: _, h => by
    cases h with
    | cons a b => exact congrArg (· + 1) (dpAll_len b)
theorem dpAll_app {K : PySem.W.Frag} {H : Hp} : ∀ {vs us : List V} {ds es : List PyData}, DpAll K H vs ds → DpAll K H us es → DpAll K H (vs ++ us) (ds ++ es)
  | _, _, [], _, h, g => by
    cases h
    exact g
  | _, _, _ :: _, _, h, g => by
    cases h with
    | cons a b => exact .cons a (dpAll_app b g)
/-! texts of data: lists and tuples within one another, newly laid -/
mutual
inductive Lx (H : Hp) : V → PyData → Prop
  | non : Lx H .non .none
  | int (i : Int) : Lx H (.int i) (.int i)
  | str (x : Str) : Lx H (.str x) (.str x)
  | lst {a : Addr} {xs : List V} {ds : List PyData} : H a = some (.lst xs) → LxAll H xs ds → Lx H (.ref a) (.list ds)
  | tup {a : Addr} {xs : List V} {ds : List PyData} : H a = some (.tup xs) → LxAll H xs ds → Lx H (.ref a) (.tuple ds)
inductive LxAll (H : Hp) : List V → List PyData → Prop
  | nil : LxAll H [] []
  | cons {v : V} {vs : List V} {d : PyData} {ds : List PyData} : Lx H v d → LxAll H vs ds → LxAll H (v :: vs) (d :: ds)
end
mutual
theorem lx_keep {H H' : Hp} (k : KeepD H H') : ∀ (d : PyData) (v : V), Lx H v d → Lx H' v d
  | .none, _, h => by
    cases h
    exact .non
  | .bool b, _, h => by cases h
  | .int i, _, h => by
    cases h
    exact .int i
  | .str x, _, h => by
    cases h
    exact .str x
  | .list ds, _, h => by
    cases h with
    | lst hs ha => exact .lst (k.1 _ _ hs) (lxAll_keep k ds _ ha)
  | .tuple ds, _, h => by
    cases h with
    | tup hs ha => exact .tup (k.2.1 _ _ hs) (lxAll_keep k ds _ ha)
  | .dict _, _, h => by cases h
theorem lxAll_keep {H H' : Hp} (k : KeepD H H') : ∀ (ds : List PyData) (vs : List V), LxAll H vs ds → LxAll H' vs ds
  | [], _, h => by
    cases h
    exact .nil
  | d :: ds, _, h => by
    cases h with
    | cons a b => exact .cons (lx_keep k d _ a) (lxAll_keep k ds _ b)
end
mutual
theorem lx_dp {K : PySem.W.Frag} {H : Hp} : ∀ (d : PyData) (v : V), Lx H v d → Dp K H v d
  | .none, _, h => by
    cases h
    exact .non
  | .bool b, _, h => by cases h
  | .int i, _, h => by
    cases h
    exact .int i
  | .str x, _, h => by
    cases h
    exact .str x
  | .list ds, _, h => by
    cases h with
    | lst hs ha => exact .lst (.inl (.inl hs)) (lxAll_dp ds _ ha)
  | .tuple ds, _, h => by
    cases h with
    | tup hs ha => exact .tup (.inl (.inl hs)) (lxAll_dp ds _ ha)
  | .dict _, _, h => by cases h
theorem lxAll_dp {K : PySem.W.Frag} {H : Hp} : ∀ (ds : List PyData) (vs : List V), LxAll H vs ds → DpAll K H vs ds
  | [], _, h => by
    cases h
    exact .nil
  | d :: ds, _, h => by
    cases h with
    | cons a b => exact .cons (lx_dp d _ a) (lxAll_dp ds _ b)
end
theorem lxAll_len {H : Hp} : ∀ {vs : List V} {ds : List PyData}, LxAll H vs ds → vs.length = ds.length
  | _, [], h => by
    cases h
    rfl
  | _, _ :: _, h => by
    cases h with
    | cons a b => exact congrArg (· + 1) (lxAll_len b)
theorem lxAll_app {H : Hp} : ∀ {vs us : List V} {ds es : List PyData}, LxAll H vs ds → LxAll H us es → LxAll H (vs ++ us) (ds ++ es)
  | _, _, [], _, h, g => by
    cases h
    exact g
  | _, _, _ :: _, _, h, g => by
    cases h with
    | cons a b => exact .cons a (lxAll_app b g)
theorem lxAll_get {H : Hp} : ∀ {ds : List PyData} {vs : List V} {i : Nat} {x : V}, LxAll H vs ds → vs[i]? = some x → ∃ d, d ∈ ds ∧ Lx H x d
  | [], _, i, x, h, e => by
    cases h
    cases e
  | d :: ds, _, 0, x, h, e => by
    cases h with
    | cons a b =>
      rw [← Option.some.inj e]
      exact ⟨d, List.mem_cons_self, a⟩
  | d :: ds, _, i + 1, x, h, e => by
    cases h with
    | cons a b =>
      obtain ⟨d2, m, q⟩ := lxAll_get b e
      exact ⟨d2, List.mem_cons_of_mem _ m, q⟩
def tLit (d : PyData) : TE := fun _ H Q => ∀ v H', Same H H' → Lx H' v d → Q v H'
def taLit (ds : List PyData) : TA := fun _ H Q => ∀ vs H', Same H H' → LxAll H' vs ds → Q vs H'
/-- the same of a list, whose place is told -/
def tLitL (ds : List PyData) : TE := fun _ H Q => ∀ p vs H', Same H H' → H p = none → H' p = some (.lst vs) → LxAll H' vs ds → Q (.ref p) H'
theorem pe_imp {X : Cx} {e : Expr} {t t' : TE} (h : PE X e t) (k : ∀ σ H Q, t' σ H Q → t σ H Q) : PE X e t' := ⟨fun pins s σ H Q I hq => h.run pins s σ H Q I (k σ H Q hq)⟩
theorem pa_imp {X : Cx} {es : List Expr} {t t' : TA} (h : PA X es t) (k : ∀ σ H Q, t' σ H Q → t σ H Q) : PA X es t' := ⟨fun pos pins s σ H Q I hq => h.run pos pins s σ H Q I (k σ H Q hq)⟩
section
variable {X : Cx} {pos : Pos} {kd : Nat}
theorem lit_any {e : Expr} {v : V} {d : PyData} (h : PE X e (tC v)) (k : ∀ H, Lx H v d) : PE X e (tLit d) := pe_imp h fun σ H Q q => q _ H (Same.refl H) (k H)
theorem la_nil : PA X [] (taLit []) := pa_imp pa_nil fun σ H Q q => q [] H (Same.refl H) .nil
theorem la_cons {e : Expr} {es : List Expr} {d : PyData} {ds : List PyData} (h : PE X e (tLit d)) (g : PA X es (taLit ds)) (hs : starEach (e :: es) X.env = (false, eval e X.env) :: starEach es X.env := by rfl) : PA X (e :: es) (taLit (d :: ds)) :=
  pa_imp (pa_cons h g hs) fun σ H Q q v H1 s1 d1 vs H2 s2 d2 => q (v :: vs) H2 (s1.trans s2) (.cons (lx_keep (keepD_same s2) d v d1) d2)
theorem same_up {H H1 : Hp} {p : Addr} {o : HO} (s1 : Same H H1) (hp : H1 p = none) : Same H (upd H1 p o) := s1.trans fun b o e => by rw [upd_ne (ne_of_none e hp)]; exact e
theorem lit_lstL {es : List Expr} {ds : List PyData} (hz : ds.length ≤ sizeLine) (h : PA X es (taLit ds)) : PE X (.List es pos) (tLitL ds) :=
  pe_imp (pe_lst h) fun σ H Q q vs H1 s1 d1 => ⟨by rw [lxAll_len d1]; exact hz, fun p hp => q p vs _ (same_up s1 hp) (s1.free hp) upd_same (lxAll_keep (keepD_same (same_up (Same.refl H1) hp)) ds vs d1)⟩
theorem lit_lst {es : List Expr} {ds : List PyData} (hz : ds.length ≤ sizeLine) (h : PA X es (taLit ds)) : PE X (.List es pos) (tLit (.list ds)) :=
  pe_imp (lit_lstL hz h) fun σ H Q q p vs H1 s1 _ e d1 => q (.ref p) H1 s1 (.lst e d1)
theorem lit_tup {es : List Expr} {x1 : Nat} {ds : List PyData} (hz : ds.length ≤ sizeLine) (h : PA X es (taLit ds)) : PE X (.Tuple es x1 pos) (tLit (.tuple ds)) :=
  pe_imp (pe_tup h) fun σ H Q q vs H1 s1 d1 => ⟨by rw [lxAll_len d1]; exact hz, fun p hp => q (.ref p) _ (same_up s1 hp) (.tup upd_same (lxAll_keep (keepD_same (same_up (Same.refl H1) hp)) ds vs d1))⟩
end
end G4

set_option Elab.async false
set_option linter.all false
set_option maxRecDepth 100000
set_option maxHeartbeats 4000000
namespace G4
open PySem PySem.Spec PyProof.Rows L2
/-! the data that read_grid's answer is -/
def pairD (x : Nat × Nat) : PyData := .tuple [.int ((x.1 : Nat) : Int), .int ((x.2 : Nat) : Int)]
def gridD (n w : Nat) (f : List (Nat × Nat)) : PyData := .list [.tuple [.int ((n : Nat) : Int), .int ((w : Nat) : Int), .tuple (f.map pairD)]]
def Low (f : List (Nat × Nat)) : Prop := ∀ x ∈ f, x.1 < 1000000000 ∧ x.2 < 1000000000
theorem low_int {v : Nat} (h : v < 1000000000) : PyData.showable (.int ((v : Nat) : Int)) = true ∧ PyData.leavesShort 11 (.int ((v : Nat) : Int)) = true ∧ PyData.weight (.int ((v : Nat) : Int)) ≤ 30 := by
  have hl : (v : Int).natAbs.log2 < 30 := by
    rw [Int.natAbs_natCast]
    by_cases h0 : v = 0
    · subst h0
      decide
    · exact (Nat.log2_lt h0).mpr (by omega)
  refine ⟨?_, ?_, ?_⟩
  · simp only [PyData.showable, decide_eq_true_eq]
    omega
  · simp only [PyData.leavesShort, PyData.shown]
    have := int_text_length_le10 (a := (v : Int)) (k := 10) (by decide) (by rw [Int.natAbs_natCast]; omega)
    exact decide_eq_true (by rw [PySem.ofString_length]; exact this)
  · simp only [PyData.weight]
    split <;> omega
theorem pairs_data : ∀ {f : List (Nat × Nat)}, Low f → PyData.showableAll (f.map pairD) = true ∧ PyData.leavesShortAll 11 (f.map pairD) = true ∧ PyData.hasDictAll (f.map pairD) = false ∧ PyData.depthAll (f.map pairD) ≤ 1 ∧ PyData.weightAll (f.map pairD) ≤ 64 * f.length
  | [], _ => ⟨rfl, rfl, rfl, Nat.zero_le _, Nat.zero_le _⟩
  | x :: f, h => by
    obtain ⟨a1, a2⟩ := h x (List.mem_cons_self)
    obtain ⟨b1, b2, b3⟩ := low_int a1
    obtain ⟨c1, c2, c3⟩ := low_int a2
    obtain ⟨d1, d2, d3, d4, d5⟩ := pairs_data (f := f) fun y hy => h y (List.mem_cons_of_mem _ hy)
    refine ⟨?_, ?_, ?_, ?_, ?_⟩
    · simp only [List.map_cons, pairD, PyData.showableAll, PyData.showable] at *
      rw [b1, c1, d1]
      rfl
    · simp only [List.map_cons, pairD, PyData.leavesShortAll, PyData.leavesShort] at *
      rw [b2, c2, d2]
      rfl
    · simp only [List.map_cons, pairD, PyData.hasDictAll, PyData.hasDict, d3]
      rfl
    · simp only [List.map_cons, pairD, PyData.depthAll, PyData.depth]
      omega
    · simp only [List.map_cons, pairD, PyData.weightAll, PyData.weight, List.length_cons] at *
      omega
theorem grid_data {n w : Nat} {f : List (Nat × Nat)} (hn : n < 1000000000) (hw : w < 1000000000) (hf : Low f) (hl : f.length ≤ 10000) : (gridD n w f).showable = true ∧ (gridD n w f).hasDict = false ∧ (gridD n w f).depth ≤ 60 ∧ (gridD n w f).shown.length ≤ sizeLine := by
  obtain ⟨b1, b2, b3⟩ := low_int hn
  obtain ⟨c1, c2, c3⟩ := low_int hw
  obtain ⟨d1, d2, d3, d4, d5⟩ := pairs_data hf
  refine ⟨?_, ?_, ?_, ?_⟩
  · simp only [gridD, PyData.showable, PyData.showableAll] at *
    rw [b1, c1, d1]
    rfl
  · simp only [gridD, PyData.hasDict, PyData.hasDictAll, d3]
    rfl
  · simp only [gridD, PyData.depth, PyData.depthAll]
    omega
  · have hs : (gridD n w f).leavesShort 11 = true := by
      simp only [gridD, PyData.leavesShort, PyData.leavesShortAll] at *
      rw [b2, c2, d2]
      rfl
    have h := PyData.shown_le 11 (by decide) _ hs
    have hw2 : (gridD n w f).weight ≤ 64 * f.length + 100 := by
      simp only [gridD, PyData.weight, PyData.weightAll] at *
      omega
    rw [sizeLine_eq]
    omega
theorem int_data {v : Nat} (h : v < 1000000000) : (PyData.int ((v : Nat) : Int)).showable = true ∧ (PyData.int ((v : Nat) : Int)).hasDict = false ∧ (PyData.int ((v : Nat) : Int)).depth ≤ 60 ∧ (PyData.int ((v : Nat) : Int)).shown.length ≤ sizeLine := by
  obtain ⟨b1, b2, b3⟩ := low_int h
  refine ⟨b1, rfl, Nat.zero_le _, ?_⟩
  have h := PyData.shown_le 11 (by decide) _ b2
  rw [sizeLine_eq]
  omega
/-- a grid that is laid, as data -/
theorem dpAll_pairs {K : PySem.W.Frag} {H : Hp} : ∀ {vs : List V} {f : List (Nat × Nat)}, PairsAt H vs f → DpAll K H vs (f.map pairD)
  | _, _, .nil => .nil
  | _, _, .cons ⟨p, e, h⟩ t => by
    rw [List.map_cons, e]
    exact .cons (.tup (.inl (.inl h)) (.cons (.int _) (.cons (.int _) .nil))) (dpAll_pairs t)
theorem dp_grid {K : PySem.W.Frag} {H : Hp} {r : Addr} {n w : Nat} {f : List (Nat × Nat)} (h : GridAt H r n w f) : Dp K H (.ref r) (.tuple [.int ((n : Nat) : Int), .int ((w : Nat) : Int), .tuple (f.map pairD)]) := by
  obtain ⟨tt, vs, h1, h2, h3⟩ := h
  exact .tup (.inl (.inl h1)) (.cons (.int _) (.cons (.int _) (.cons (.tup (.inl (.inl h2)) (dpAll_pairs h3)) .nil)))
end G4

set_option Elab.async false
set_option linter.all false
set_option maxRecDepth 100000
set_option maxHeartbeats 4000000
namespace G4
open PySem PySem.Spec PyProof.Rows L2
def outW : Except Nat WS → Except Nat (List (Option Nat) × Nat)
  | .error e => .error e
  | .ok s => .ok (s.ss.map wordV, s.wd)
abbrev full (t : Str) : List Nat := t.cps.toList ++ [10]
theorem full_at {t : Str} {q c : Nat} (h : sg t q = some c) : (full t).drop q = c :: (full t).drop (q + 1) := by
  have hl := sg_lt h
  have hlen : q < (full t).length := by
    rw [List.length_append, len_list]
    exact Nat.lt_succ_of_lt hl
  rw [List.drop_eq_getElem_cons hlen]
  have h2 : (full t)[q]? = some c := by
    rw [List.getElem?_append_left (by rw [len_list]; exact hl)]
    exact h
  rw [(List.getElem?_eq_some_iff.mp h2).2]
theorem full_end (t : Str) : (full t).drop t.length = [10] := by
  rw [← len_list, List.drop_left]
theorem full_past (t : Str) : (full t).drop (t.length + 1) = [] := by
  refine List.drop_eq_nil_of_le ?_
  rw [List.length_append, len_list]
  exact Nat.le_refl _
/-- the word is not gone on with -/
def Closing (t : Str) (q : Nat) (w : List Nat) : Prop := ∀ c, sg t q = some c → ¬ ((48 ≤ c ∧ c ≤ 57) ∧ w ≠ [46] ∧ w ≠ [48] ∧ w.length < 9)
theorem word_ne {w : List Nat} (h : Word w) : w ≠ [] := by
  rcases h with h | h
  · rw [h]
    exact List.cons_ne_nil _ _
  · exact h.1
theorem isDig_of {t : Str} {p c : Nat} (h : sg t p = some c) : isDig t p = (decide (48 ≤ c) && decide (c ≤ 57)) := by
  unfold isDig
  rw [h]
theorem walk_none {t : Str} {p wd he : Nat} {ss : List (List Nat)} (hp : p ≤ t.length) (h : placeR t p = none) : wkL t.length ((full t).drop p) p ⟨wd, he, ss, []⟩ = .error p := by
  unfold placeR at h
  have hd : sg t p ≠ some 46 := fun e => by
    rw [if_pos e] at h
    cases h
  rw [if_neg hd] at h
  have hg : ¬ isDig t p = true := fun e => by
    rw [if_pos e] at h
    cases h
  by_cases e : p = t.length
  · subst e
    rw [full_end, wkL_cons]
    have : wkS t.length t.length 10 ⟨wd, he, ss, []⟩ = none := by
      unfold wkS
      rw [if_neg (by omega), if_neg (by omega), if_neg fun q => q.1 rfl]
    rw [this]
  · obtain ⟨c, hc⟩ := sg_some (t := t) (p := p) (by omega)
    rw [full_at hc, wkL_cons]
    have : wkS t.length p c ⟨wd, he, ss, []⟩ = none := by
      unfold wkS
      rw [if_neg fun q => hg (by rw [isDig_of hc, decide_eq_true q.1.1, decide_eq_true q.1.2]; rfl), if_neg fun q => hd (by rw [hc, q.1]), if_neg fun q => q.1 rfl]
    rw [this]
theorem digL_cons {t : Str} {p c m : Nat} (h : sg t p = some c) : digL t p (m + 1) = c :: digL t (p + 1) m := by
  unfold digL
  have hlt := List.getElem?_eq_some_iff.mp h
  rw [List.drop_eq_getElem_cons hlt.1, List.take_succ_cons, hlt.2]
theorem dig_run {t : Str} {wd he : Nat} {ss : List (List Nat)} : ∀ (k p : Nat) (w : List Nat), w.length + k = 9 → w ≠ [] → w ≠ [46] → w ≠ [48] → p ≤ t.length →
    wkL t.length ((full t).drop p) p ⟨wd, he, ss, w⟩ = wkL t.length ((full t).drop (p + runD t p k)) (p + runD t p k) ⟨wd, he, ss, w ++ digL t p (runD t p k)⟩ ∧ Closing t (p + runD t p k) (w ++ digL t p (runD t p k))
  | 0, p, w, hl, h0, h1, h2, hp => by
    have e : runD t p 0 = 0 := rfl
    have e2 : digL t p 0 = [] := by
      unfold digL
      exact List.take_zero
    rw [e, e2, List.append_nil, Nat.add_zero]
    exact ⟨rfl, fun c _ q => by have := q.2.2.2; omega⟩
  | k + 1, p, w, hl, h0, h1, h2, hp => by
    by_cases hd : isDig t p = true
    · have e : runD t p (k + 1) = runD t (p + 1) k + 1 := if_pos hd
      obtain ⟨c, hc, c1, c2⟩ := isDig_sg hd
      have hlt := sg_lt hc
      have hstep : wkS t.length p c ⟨wd, he, ss, w⟩ = some ⟨wd, he, ss, w ++ [c]⟩ := if_pos ⟨⟨c1, c2⟩, h1, h2, by show w.length < 9; omega, by omega⟩
      have hlen : (w ++ [c]).length = w.length + 1 := by rw [List.length_append]; rfl
      have hwl : 0 < w.length := List.length_pos_iff.mpr h0
      have ne1 : ∀ d : Nat, w ++ [c] ≠ [d] := fun d z => by
        have := congrArg List.length z
        rw [hlen] at this
        have t2 : w.length + 1 = 1 := this
        omega
      obtain ⟨a, b⟩ := dig_run (t := t) (wd := wd) (he := he) (ss := ss) k (p + 1) (w ++ [c]) (by rw [hlen]; omega) (by simp) (ne1 _) (ne1 _) hlt
      rw [e, digL_cons hc, full_at hc, wkL_cons, hstep]
      have e3 : p + 1 + runD t (p + 1) k = p + (runD t (p + 1) k + 1) := by omega
      rw [e3, List.append_assoc] at a b
      exact ⟨a, b⟩
    · have e : runD t p (k + 1) = 0 := if_neg hd
      have e2 : digL t p 0 = [] := by
        unfold digL
        exact List.take_zero
      rw [e, e2, List.append_nil, Nat.add_zero]
      exact ⟨rfl, fun c hc q => hd (by rw [isDig_of hc, decide_eq_true q.1.1, decide_eq_true q.1.2]; rfl)⟩
theorem walk_some {t : Str} {p q wd he : Nat} {ss : List (List Nat)} {v : Option Nat} (hp : p ≤ t.length) (h : placeR t p = some (v, q)) :
    ∃ w, Word w ∧ wordV w = v ∧ Closing t q w ∧ wkL t.length ((full t).drop p) p ⟨wd, he, ss, []⟩ = wkL t.length ((full t).drop q) q ⟨wd, he, ss, w⟩ := by
  unfold placeR at h
  by_cases hd : sg t p = some 46
  · rw [if_pos hd] at h
    have e := Prod.mk.inj (Option.some.inj h)
    refine ⟨[46], .inl rfl, by rw [← e.1]; exact if_pos rfl, fun c _ z => z.2.1 rfl, ?_⟩
    have hlt := sg_lt hd
    rw [← e.2, full_at hd, wkL_cons]
    have : wkS t.length p 46 ⟨wd, he, ss, []⟩ = some ⟨wd, he, ss, [46]⟩ := by
      unfold wkS
      rw [if_neg fun z => by have := z.1.1; omega, if_pos ⟨rfl, rfl⟩]
    rw [this]
  · rw [if_neg hd] at h
    by_cases hg : isDig t p = true
    · rw [if_pos hg] at h
      have e := Prod.mk.inj (Option.some.inj h)
      obtain ⟨c, hc, c1, c2⟩ := isDig_sg hg
      have hlt := sg_lt hc
      have hb : p + numLen t p ≤ t.length := runD_bound t _ _ hp
      have hW : Word (digL t p (numLen t p)) := .inr ⟨fun z => by
          have z2 := congrArg List.length z
          rw [digL_len hb] at z2
          have := numLen_pos hg
          have z3 : numLen t p = 0 := z2
          omega, by rw [digL_len hb]; exact numLen_le t p, fun d hdm => digL_mem d hdm⟩
      have hne : digL t p (numLen t p) ≠ [46] := fun z => by
        have := digL_mem (t := t) (k := mostAt t p) (p := p) 46 (by
          show 46 ∈ digL t p (numLen t p)
          rw [z]
          exact List.mem_singleton.mpr rfl)
        omega
      have hstep : wkS t.length p c ⟨wd, he, ss, []⟩ = some ⟨wd, he, ss, [c]⟩ := if_pos ⟨⟨c1, c2⟩, (fun z => nomatch z), (fun z => nomatch z), (by show 0 < 9; decide), by omega⟩
      refine ⟨digL t p (numLen t p), hW, by rw [← e.1]; exact if_neg hne, ?_⟩
      rw [← e.2, full_at hc, wkL_cons, hstep]
      by_cases z : c = 48
      · subst z
        have hm : numLen t p = 1 := by
          unfold numLen mostAt
          rw [if_pos hc]
          show (if isDig t p = true then runD t (p + 1) 0 + 1 else 0) = 1
          rw [if_pos hg]
          rfl
        have e2 : digL t (p + 1) 0 = [] := by
          unfold digL
          exact List.take_zero
        rw [hm, digL_cons hc, e2]
        exact ⟨fun d _ y => y.2.2.1 rfl, rfl⟩
      · have hm : numLen t p = runD t (p + 1) 8 + 1 := by
          unfold numLen mostAt
          rw [if_neg fun y => z (by rw [hc] at y; exact Option.some.inj y)]
          show (if isDig t p = true then runD t (p + 1) 8 + 1 else 0) = _
          rw [if_pos hg]
        rw [hm, digL_cons hc]
        obtain ⟨a, b⟩ := dig_run (t := t) (wd := wd) (he := he) (ss := ss) 8 (p + 1) [c] rfl (by simp) (fun y => by have := (List.cons.inj y).1; omega) (fun y => z (List.cons.inj y).1) hlt
        have e3 : p + 1 + runD t (p + 1) 8 = p + (runD t (p + 1) 8 + 1) := by omega
        rw [e3] at a b
        exact ⟨b, a⟩
    · rw [if_neg hg] at h
      cases h
theorem rowL_grow {t : Str} {most : Option Nat} : ∀ (k p : Nat) (acc r : List (Option Nat)) (q : Nat), p ≤ t.length → rowL t most k p acc = .ok (r, q) → p ≤ q ∧ q ≤ t.length
  | 0, p, acc, r, q, hp, h => by
    have e := Prod.mk.inj (Except.ok.inj h)
    rw [← e.2]
    exact ⟨Nat.le_refl _, hp⟩
  | k + 1, p, acc, r, q, hp, h => by
    unfold rowL at h
    by_cases c : sg t p = some 32 ∧ some acc.length ≠ most
    · rw [if_pos c] at h
      have hl := sg_lt c.1
      cases e : placeR t (p + 1) with
      | none => rw [e] at h; cases h
      | some vq =>
        obtain ⟨v, s⟩ := vq
        rw [e] at h
        have h1 := placeR_lt (t := t) hl e
        have h2 := rowL_grow k s (acc ++ [v]) r q h1.2 h
        omega
    · rw [if_neg c] at h
      have e := Prod.mk.inj (Except.ok.inj h)
      rw [← e.2]
      exact ⟨Nat.le_refl _, hp⟩
/-- what is read from behind a place of a row on -/
def rowG (t : Str) (wd q : Nat) (acc found0 : List (Option Nat)) : Except Nat (List (Option Nat) × Nat) :=
  match rowL t (if wd = 0 then none else some wd) (t.length + 1 - q) q acc with
    | .error e => .error e
    | .ok (r, p) => match gridL t (if wd = 0 then r.length else wd) (t.length + 1 - p) p (found0 ++ r) r.length with
      | .error e => .error e
      | .ok f => .ok (f, if wd = 0 then r.length else wd)
theorem walk_main (t : Str) : ∀ (m q wd he : Nat) (ss : List (List Nat)) (w : List Nat) (acc found0 : List (Option Nat)), t.length - q < m → q ≤ t.length → Word w → Closing t q w → acc.length = he + 1 → (0 < wd → he + 1 ≤ wd) → (wd = 0 → found0 = []) → (ss ++ [w]).map wordV = found0 ++ acc →
    outW (wkL t.length ((full t).drop q) q ⟨wd, he, ss, w⟩) = rowG t wd q acc found0
  | 0, _, _, _, _, _, _, _, h, _, _, _, _, _, _, _ => absurd h (by omega)
  | m + 1, q, wd, he, ss, w, acc, found0, hm, hq, hw, hcl, hacc, hwd, hf0, hmap => by
    have hwn := word_ne hw
    obtain ⟨k, hk⟩ : ∃ k, t.length + 1 - q = k + 1 := ⟨t.length - q, by omega⟩
    have hkk : k = t.length - q := by omega
    unfold rowG
    rw [hk]
    unfold rowL
    by_cases c : sg t q = some 32 ∧ some acc.length ≠ (if wd = 0 then none else some wd)
    · rw [if_pos c]
      have hlt := sg_lt c.1
      have hne : ¬ (wd ≠ 0 ∧ he + 1 = wd) := fun z => c.2 (by rw [if_neg z.1, hacc, z.2])
      have hstep : wkS t.length q 32 ⟨wd, he, ss, w⟩ = some ⟨wd, he + 1, ss ++ [w], []⟩ := by
        unfold wkS
        rw [if_neg fun z => by have := z.1.1; omega, if_neg fun z => by have := z.1; omega, if_pos ⟨hwn, .inl rfl, .inr (by
          by_cases z : wd = 0
          · exact .inl z
          · exact .inr ⟨fun y => absurd y (by decide), fun y => absurd ⟨z, y⟩ hne⟩)⟩, if_neg (by decide)]
      rw [full_at c.1, wkL_cons, hstep]
      show outW (wkL t.length ((full t).drop (q + 1)) (q + 1) ⟨wd, he + 1, ss ++ [w], []⟩) = _
      cases e : placeR t (q + 1) with
      | none =>
        rw [walk_none hlt e]
        rfl
      | some vp =>
        obtain ⟨v, p⟩ := vp
        have hp := placeR_lt (t := t) hlt e
        obtain ⟨w2, k1, k2, k3, k4⟩ := walk_some (wd := wd) (he := he + 1) (ss := ss ++ [w]) hlt e
        rw [k4, walk_main t m p wd (he + 1) (ss ++ [w]) w2 (acc ++ [v]) found0 (by omega) hp.2 k1 k3 (by rw [List.length_append, hacc]; rfl) (fun z => by have := hwd z; have := hne; omega) hf0 (by rw [List.map_append, hmap, List.append_assoc, List.map_cons, k2]; rfl)]
        unfold rowG
        rw [rowL_fuel (t := t) (t.length + 1 - p) k p (acc ++ [v]) hp.2 (Nat.le_refl _) (by omega)]
    · rw [if_neg c]
      show _ = (match gridL t (if wd = 0 then acc.length else wd) (t.length + 1 - q) q (found0 ++ acc) acc.length with
        | .error e => Except.error e
        | .ok f => Except.ok (f, if wd = 0 then acc.length else wd))
      rw [hk]
      have hWd : (if wd = 0 then acc.length else wd) = if 0 < wd then wd else he + 1 := by
        by_cases z : wd = 0
        · rw [if_pos z, if_neg (by omega), hacc]
        · rw [if_neg z, if_pos (by omega)]
      rw [hWd]
      generalize hW : (if 0 < wd then wd else he + 1) = W
      have hW0 : 0 < W := by
        rw [← hW]
        split <;> omega
      have hAW : acc.length = W ↔ (wd = 0 ∨ he + 1 = wd) := by
        rw [hacc, ← hW]
        split
        · omega
        · omega
      unfold gridL
      by_cases hqn : q = t.length
      · subst hqn
        rw [if_neg fun z => z.2 rfl, if_pos rfl, full_end, wkL_cons]
        have hstep : wkS t.length t.length 10 ⟨wd, he, ss, w⟩ = some ⟨W, 0, ss ++ [w], []⟩ := by
          unfold wkS
          rw [if_neg fun z => by have := z.1.1; omega, if_neg fun z => by have := z.1; omega, if_pos ⟨hwn, .inr rfl, .inl rfl⟩, if_pos rfl]
          show some (⟨if 0 < wd then wd else he + 1, 0, ss ++ [w], []⟩ : WS) = _
          rw [hW]
        rw [hstep]
        show Except.ok ((ss ++ [w]).map wordV, W) = _
        rw [hmap]
      · obtain ⟨s, hs⟩ := sg_some (t := t) (p := q) (by omega)
        rw [full_at hs, wkL_cons]
        by_cases h10 : s = 10
        · subst h10
          by_cases d : acc.length = W
          · rw [if_pos ⟨d, hqn⟩, if_pos hs]
            have hstep : wkS t.length q 10 ⟨wd, he, ss, w⟩ = some ⟨W, 0, ss ++ [w], []⟩ := by
              unfold wkS
              rw [if_neg fun z => by have := z.1.1; omega, if_neg fun z => by have := z.1; omega, if_pos ⟨hwn, .inr rfl, .inr ((hAW.mp d).imp id fun y => ⟨fun _ => y, fun _ => rfl⟩)⟩, if_pos rfl]
              show some (⟨if 0 < wd then wd else he + 1, 0, ss ++ [w], []⟩ : WS) = _
              rw [hW]
            rw [hstep]
            show outW (wkL t.length ((full t).drop (q + 1)) (q + 1) ⟨W, 0, ss ++ [w], []⟩) = _
            have hlt := sg_lt hs
            unfold rowR
            cases e : placeR t (q + 1) with
            | none =>
              rw [walk_none hlt e]
              rfl
            | some vp =>
              obtain ⟨v, p⟩ := vp
              have hp := placeR_lt (t := t) hlt e
              obtain ⟨w2, k1, k2, k3, k4⟩ := walk_some (wd := W) (he := 0) (ss := ss ++ [w]) hlt e
              rw [k4, walk_main t m p W 0 (ss ++ [w]) w2 [v] (found0 ++ acc) (by omega) hp.2 k1 k3 rfl (fun _ => by omega) (fun z => absurd z (by omega)) (by rw [List.map_append, hmap, List.map_cons, k2]; rfl)]
              unfold rowG
              rw [if_neg (by omega)]
              show _ = (match (match rowL t (some W) (t.length + 1 - p) p [v] with
                  | .error e => Except.error e
                  | .ok (r, q) => gridL t W k q (found0 ++ acc ++ r) r.length) with
                | .error e => Except.error e
                | .ok f => Except.ok (f, W))
              cases e2 : rowL t (some W) (t.length + 1 - p) p [v] with
              | error x => rfl
              | ok rq =>
                obtain ⟨r, q2⟩ := rq
                have hg := rowL_grow _ _ _ _ _ hp.2 e2
                show (match gridL t (if W = 0 then r.length else W) (t.length + 1 - q2) q2 (found0 ++ acc ++ r) r.length with
                  | .error e => Except.error e
                  | .ok f => Except.ok (f, if W = 0 then r.length else W)) = _
                rw [if_neg (by omega)]
                show _ = (match gridL t W k q2 (found0 ++ acc ++ r) r.length with
                  | .error e => Except.error e
                  | .ok f => Except.ok (f, W))
                rw [gridL_fuel (t := t) (w := W) (t.length + 1 - q2) k q2 _ _ hg.2 (Nat.le_refl _) (by omega)]
          · rw [if_neg fun z => d z.1, if_neg hqn]
            have hstep : wkS t.length q 10 ⟨wd, he, ss, w⟩ = none := by
              unfold wkS
              rw [if_neg fun z => by have := z.1.1; omega, if_neg fun z => by have := z.1; omega, if_neg fun z => ?_]
              rcases z.2.2 with y | y | y
              · exact hqn y
              · exact d (hAW.mpr (.inl y))
              · exact d (hAW.mpr (.inr (y.mp rfl)))
            rw [hstep]
            rfl
        · have hstep : wkS t.length q s ⟨wd, he, ss, w⟩ = none := by
            unfold wkS
            rw [if_neg fun z => hcl s hs ⟨z.1, z.2.1, z.2.2.1, z.2.2.2.1⟩, if_neg fun z => hwn z.2, if_neg fun z => ?_]
            rcases z.2.1 with y | y
            · subst y
              have hc2 : ¬ (some acc.length ≠ (if wd = 0 then none else some wd)) := fun x => c ⟨hs, x⟩
              have hwd0 : wd ≠ 0 := fun x => hc2 (by rw [if_pos x]; exact fun o => nomatch o)
              have hhe : he + 1 = wd := by
                rw [if_neg hwd0, hacc] at hc2
                by_cases x : he + 1 = wd
                · exact x
                · exact absurd (fun o => x (Option.some.inj o)) hc2
              rcases z.2.2 with x | x | x
              · exact hqn x
              · exact hwd0 x
              · exact h10 (x.mpr hhe)
            · exact h10 y
          rw [hstep]
          by_cases d : acc.length = W
          · rw [if_pos ⟨d, hqn⟩, if_neg (by rw [hs]; exact fun o => h10 (Option.some.inj o))]
            rfl
          · rw [if_neg fun z => d z.1, if_neg hqn]
            rfl
/-- the law's walk tells what the package reads -/
theorem walk_grid (t : Str) : gridR t = (match walkR t with
    | .error e => Except.error e
    | .ok (ss, w) => Except.ok (ss.map wordV, w)) := by
  have h0 : outW (wkL t.length (full t) 0 ⟨0, 0, [], []⟩) = gridR t := by
    unfold gridR rowR
    cases e : placeR t 0 with
    | none =>
      have := walk_none (t := t) (wd := 0) (he := 0) (ss := []) (Nat.zero_le _) e
      rw [List.drop_zero] at this
      rw [this]
      rfl
    | some vp =>
      obtain ⟨v, p⟩ := vp
      have hp := placeR_lt (t := t) (Nat.zero_le _) e
      obtain ⟨w2, k1, k2, k3, k4⟩ := walk_some (t := t) (wd := 0) (he := 0) (ss := []) (Nat.zero_le _) e
      rw [List.drop_zero] at k4
      rw [k4, walk_main t (t.length + 1) p 0 0 [] w2 [v] [] (by omega) hp.2 k1 k3 rfl (fun z => absurd z (by omega)) (fun _ => rfl) (by rw [List.nil_append, List.map_cons, k2]; rfl)]
      unfold rowG
      rw [if_pos rfl]
      show _ = (match rowL t none (t.length + 1 - p) p [v] with
        | .error e => Except.error e
        | .ok (r, q) => (match gridL t r.length (t.length + 1 - q) q r r.length with
          | .error e => Except.error e
          | .ok found => Except.ok (found, r.length)))
      cases e2 : rowL t none (t.length + 1 - p) p [v] with
      | error x => rfl
      | ok rq => rfl
  rw [← h0]
  unfold walkR
  cases wkL t.length (full t) 0 ⟨0, 0, [], []⟩ with
  | error e => rfl
  | ok s => rfl
end G4

set_option Elab.async false
set_option linter.all false
set_option maxRecDepth 100000
set_option maxHeartbeats 4000000
namespace G4
open PySem PySem.Spec PyProof.Rows L2
/-! a written grid is read again -/
def Canon (w : List Nat) : Prop := w = [46] ∨ w = [48] ∨ (w ≠ [] ∧ w.length ≤ 9 ∧ (∀ c ∈ w, 48 ≤ c ∧ c ≤ 57) ∧ w.head? ≠ some 48)
theorem read_digs {N wd he : Nat} {ss : List (List Nat)} {rest : List Nat} : ∀ (l w0 : List Nat) (p : Nat), w0 ≠ [] → w0 ≠ [46] → w0 ≠ [48] → w0.length + l.length ≤ 9 → (∀ c ∈ l, 48 ≤ c ∧ c ≤ 57) → p + l.length ≤ N →
    wkL N (l ++ rest) p ⟨wd, he, ss, w0⟩ = wkL N rest (p + l.length) ⟨wd, he, ss, w0 ++ l⟩
  | [], w0, p, _, _, _, _, _, _ => by
    rw [List.append_nil]
    rfl
  | c :: l, w0, p, h0, h1, h2, h3, h4, h5 => by
    have hl : (c :: l).length = l.length + 1 := rfl
    have hlen : (w0 ++ [c]).length = w0.length + 1 := by rw [List.length_append]; rfl
    have hw0 : 0 < w0.length := List.length_pos_iff.mpr h0
    have ne1 : ∀ d : Nat, w0 ++ [c] ≠ [d] := fun d z => by
      have z2 := congrArg List.length z
      rw [hlen] at z2
      have z3 : w0.length + 1 = 1 := z2
      omega
    have hstep : wkS N p c ⟨wd, he, ss, w0⟩ = some ⟨wd, he, ss, w0 ++ [c]⟩ := if_pos ⟨h4 c List.mem_cons_self, h1, h2, (by show w0.length < 9; omega), by omega⟩
    rw [List.cons_append, wkL_cons, hstep]
    show wkL N (l ++ rest) (p + 1) ⟨wd, he, ss, w0 ++ [c]⟩ = _
    rw [read_digs l (w0 ++ [c]) (p + 1) (by simp) (ne1 _) (ne1 _) (by rw [hlen]; omega) (fun d hd => h4 d (List.mem_cons_of_mem _ hd)) (by omega), List.append_assoc, hl, show p + 1 + l.length = p + (l.length + 1) by omega]
    rfl
theorem read_word {N wd he p : Nat} {ss : List (List Nat)} {rest w : List Nat} (h : Canon w) (hp : p + w.length ≤ N) : wkL N (w ++ rest) p ⟨wd, he, ss, []⟩ = wkL N rest (p + w.length) ⟨wd, he, ss, w⟩ := by
  have first : ∀ c, 48 ≤ c → c ≤ 57 → p < N → wkS N p c ⟨wd, he, ss, []⟩ = some ⟨wd, he, ss, [c]⟩ := fun c c1 c2 hp => if_pos ⟨⟨c1, c2⟩, (fun z => nomatch z), (fun z => nomatch z), (by show 0 < 9; decide), by omega⟩
  rcases h with rfl | rfl | ⟨h0, h1, h2, h3⟩
  · rw [List.singleton_append, wkL_cons]
    have : wkS N p 46 ⟨wd, he, ss, []⟩ = some ⟨wd, he, ss, [46]⟩ := by
      unfold wkS
      rw [if_neg fun z => by have := z.1.1; omega, if_pos ⟨rfl, rfl⟩]
    rw [this]
    rfl
  · have hp1 : p + 1 ≤ N := hp
    rw [List.singleton_append, wkL_cons, first 48 (by decide) (by decide) hp1]
    rfl
  · cases w with
    | nil => exact absurd rfl h0
    | cons c l =>
      have hl : (c :: l).length = l.length + 1 := rfl
      have hc := h2 c List.mem_cons_self
      have hc48 : c ≠ 48 := fun z => h3 (by rw [z]; rfl)
      rw [List.cons_append, wkL_cons, first c hc.1 hc.2 (by omega)]
      show wkL N (l ++ rest) (p + 1) ⟨wd, he, ss, [c]⟩ = _
      rw [read_digs l [c] (p + 1) (by simp) (fun z => by have := (List.cons.inj z).1; omega) (fun z => hc48 (List.cons.inj z).1) (by show 1 + l.length ≤ 9; omega) (fun d hd => h2 d (List.mem_cons_of_mem _ hd)) (by omega), hl, show p + 1 + l.length = p + (l.length + 1) by omega]
      rfl
theorem canon_word {w : List Nat} (h : Canon w) : Word w := by
  rcases h with rfl | rfl | ⟨h0, h1, h2, _⟩
  · exact .inl rfl
  · exact .inr ⟨by simp, by decide, fun c hc => by rw [List.mem_singleton.mp hc]; decide⟩
  · exact .inr ⟨h0, h1, h2⟩
/-- the sign behind the j-th of n cells in rows of w -/
def sepAt (n w j : Nat) : Nat := if j + 1 = n ∨ (j + 1) % w = 0 then 10 else 32
def flatT (n w : Nat) : Nat → List (List Nat) → List Nat
  | _, [] => []
  | j, x :: l => x ++ sepAt n w j :: flatT n w (j + 1) l
theorem mod_step {j w : Nat} (hw : 0 < w) : ((j + 1) % w = 0 ∧ j % w + 1 = w) ∨ ((j + 1) % w = j % w + 1 ∧ j % w + 1 < w) := by
  have h := Nat.mod_lt j hw
  have e : (j + 1) % w = (j % w + 1) % w := (Nat.mod_add_mod j w 1).symm
  by_cases c : j % w + 1 = w
  · exact .inl ⟨by rw [e, c, Nat.mod_self], c⟩
  · exact .inr ⟨by rw [e, Nat.mod_eq_of_lt (by omega)], by omega⟩
theorem read_flat {n w N : Nat} (hw : 0 < w) (hwn : w ≤ n) : ∀ (l : List (List Nat)) (j p wd : Nat) (ss : List (List Nat)), l ≠ [] → (∀ x ∈ l, Canon x) → j + l.length = n → p + (flatT n w j l).length = N + 1 → wd = (if j < w then 0 else w) →
    wkL N (flatT n w j l) p ⟨wd, j % w, ss, []⟩ = .ok ⟨w, 0, ss ++ l, []⟩
  | [], _, _, _, _, h, _, _, _, _ => absurd rfl h
  | x :: l, j, p, wd, ss, _, hc, hj, hp, hwd => by
    have hx := hc x List.mem_cons_self
    have hwn2 := word_ne (canon_word hx)
    have hlen : (flatT n w j (x :: l)).length = x.length + ((flatT n w (j + 1) l).length + 1) := by
      show (x ++ sepAt n w j :: flatT n w (j + 1) l).length = _
      rw [List.length_append]
      rfl
    have hll : (x :: l).length = l.length + 1 := rfl
    rw [hlen] at hp
    have hms := mod_step (j := j) hw
    show wkL N (x ++ sepAt n w j :: flatT n w (j + 1) l) p ⟨wd, j % w, ss, []⟩ = _
    rw [read_word hx (by omega), wkL_cons]
    have nd : ∀ s i : Nat, s = 32 ∨ s = 10 → wkS N i s ⟨wd, j % w, ss, x⟩ = (if x ≠ [] ∧ (s = 32 ∨ s = 10) ∧ (i = N ∨ wd = 0 ∨ ((s = 10) ↔ (j % w + 1 = wd))) then
        (if s = 10 then some ⟨if 0 < wd then wd else j % w + 1, 0, ss ++ [x], []⟩ else some ⟨wd, j % w + 1, ss ++ [x], []⟩) else none) := fun s i h => by
      unfold wkS
      rw [if_neg fun z => by have := z.1; omega, if_neg fun z => by have := z.1; omega]
    cases l with
    | nil =>
      have hj1 : j + 1 = n := by
        rw [← hj]
        rfl
      have hs : sepAt n w j = 10 := if_pos (.inl hj1)
      have hf : (flatT n w (j + 1) []).length = 0 := rfl
      rw [hf] at hp
      rw [hs, nd 10 _ (.inr rfl), if_pos ⟨hwn2, .inr rfl, .inl (by omega)⟩, if_pos rfl]
      have hW : (if 0 < wd then wd else j % w + 1) = w := by
        rw [hwd]
        by_cases c : j < w
        · rw [if_pos c, if_neg (by decide), Nat.mod_eq_of_lt c]
          omega
        · rw [if_neg c, if_pos hw]
      rw [hW]
      rfl
    | cons y l2 =>
      have hl2 : (y :: l2).length = l2.length + 1 := rfl
      have hjn : j + 1 ≠ n := by omega
      by_cases c : (j + 1) % w = 0
      · have hs : sepAt n w j = 10 := if_pos (.inr c)
        have he : j % w + 1 = w := by
          rcases hms with z | z
          · exact z.2
          · omega
        have h3 : wd = 0 ∨ ((10 = 10) ↔ (j % w + 1 = wd)) := by
          by_cases c2 : j < w
          · exact .inl (by rw [hwd, if_pos c2])
          · refine .inr ⟨fun _ => ?_, fun _ => rfl⟩
            rw [hwd, if_neg c2]
            exact he
        rw [hs, nd 10 _ (.inr rfl), if_pos ⟨hwn2, .inr rfl, .inr h3⟩, if_pos rfl]
        · have hW : (if 0 < wd then wd else j % w + 1) = (if j + 1 < w then 0 else w) := by
            rw [hwd]
            by_cases c2 : j < w
            · rw [if_pos c2, if_neg (by decide), Nat.mod_eq_of_lt c2]
              rw [Nat.mod_eq_of_lt c2] at he
              rw [if_neg (by omega)]
              exact he
            · rw [if_neg c2, if_pos hw, if_neg (by omega)]
          rw [hW]
          show wkL N (flatT n w (j + 1) (y :: l2)) (p + x.length + 1) ⟨_, 0, ss ++ [x], []⟩ = _
          have := read_flat (N := N) hw hwn (y :: l2) (j + 1) (p + x.length + 1) _ (ss ++ [x]) (by simp) (fun z hz => hc z (List.mem_cons_of_mem _ hz)) (by omega) (by omega) rfl
          rw [c] at this
          rw [this, List.append_assoc]
          all_goals rfl
      · have hs : sepAt n w j = 32 := if_neg fun z => z.elim hjn c
        have hm : (j + 1) % w = j % w + 1 ∧ j % w + 1 < w := by
          rcases hms with z | z
          · exact absurd z.1 c
          · exact z
        have h3 : wd = 0 ∨ ((32 = 10) ↔ (j % w + 1 = wd)) := by
          by_cases c2 : j < w
          · exact .inl (by rw [hwd, if_pos c2])
          · refine .inr ⟨fun z => absurd z (by decide), fun z => ?_⟩
            rw [hwd, if_neg c2] at z
            omega
        rw [hs, nd 32 _ (.inl rfl), if_pos ⟨hwn2, .inl rfl, .inr h3⟩, if_neg (by decide)]
        · have hW : wd = (if j + 1 < w then 0 else w) := by
            rw [hwd]
            by_cases c2 : j < w
            · have : j % w = j := Nat.mod_eq_of_lt c2
              rw [if_pos c2, if_pos (by omega)]
            · rw [if_neg c2, if_neg (by omega)]
          show wkL N (flatT n w (j + 1) (y :: l2)) (p + x.length + 1) ⟨wd, j % w + 1, ss ++ [x], []⟩ = _
          have := read_flat (N := N) hw hwn (y :: l2) (j + 1) (p + x.length + 1) wd (ss ++ [x]) (by simp) (fun z hz => hc z (List.mem_cons_of_mem _ hz)) (by omega) (by omega) hW
          rw [hm.1] at this
          rw [this, List.append_assoc]
          all_goals rfl
/-! the text as it is joined -/
def J (sep : List Nat) : List (List Nat) → List Nat
  | [] => []
  | [x] => x
  | x :: y :: r => x ++ sep ++ J sep (y :: r)
theorem join_codes (sep : Str) : ∀ l : List Str, (Txt.join sep l).cps.toList = J sep.cps.toList (l.map fun x => x.cps.toList) := fun l => by
  have e : Txt.join sep l = Str.join sep l := by
    show Builtin.Str.glued sep l = _
    rw [StrLaws.glued_eq_join]
  rw [e]
  clear e
  induction l with
  | nil => rfl
  | cons x l ih =>
    cases l with
    | nil => rfl
    | cons y r =>
      show ((x.cps ++ sep.cps) ++ (Str.join sep (y :: r)).cps).toList = _
      rw [Array.toList_append, Array.toList_append, ih]
      rfl
theorem flat_app (n w : Nat) : ∀ (l1 l2 : List (List Nat)) (j : Nat), flatT n w j (l1 ++ l2) = flatT n w j l1 ++ flatT n w (j + l1.length) l2
  | [], l2, j => rfl
  | x :: l1, l2, j => by
    show x ++ sepAt n w j :: flatT n w (j + 1) (l1 ++ l2) = (x ++ sepAt n w j :: flatT n w (j + 1) l1) ++ _
    rw [flat_app n w l1 l2 (j + 1), List.append_assoc, List.cons_append, show j + 1 + l1.length = j + (x :: l1).length by show _ = j + (l1.length + 1); omega]
theorem row_flat (n w : Nat) : ∀ (l : List (List Nat)) (j : Nat), l ≠ [] → (∀ i, i + 1 < l.length → sepAt n w (j + i) = 32) → sepAt n w (j + (l.length - 1)) = 10 → J [32] l ++ [10] = flatT n w j l
  | [], _, h, _, _ => absurd rfl h
  | [x], j, _, _, h2 => by
    show x ++ [10] = x ++ [sepAt n w j]
    have : sepAt n w j = 10 := h2
    rw [this]
  | x :: y :: r, j, _, h1, h2 => by
    have h0 : sepAt n w j = 32 := h1 0 (by show 1 < r.length + 2; omega)
    have hl : (x :: y :: r).length = (y :: r).length + 1 := rfl
    have hl2 : (y :: r).length = r.length + 1 := rfl
    show x ++ [32] ++ J [32] (y :: r) ++ [10] = x ++ sepAt n w j :: flatT n w (j + 1) (y :: r)
    rw [h0, ← row_flat n w (y :: r) (j + 1) (by simp) (fun i hi => by
      have := h1 (i + 1) (by omega)
      rw [show j + (i + 1) = j + 1 + i by omega] at this
      exact this) (by
      rw [show j + ((x :: y :: r).length - 1) = j + 1 + ((y :: r).length - 1) by omega] at h2
      exact h2), List.append_assoc, List.append_assoc]
    rfl
theorem mod_in {k w i : Nat} (hi : i + 1 < w) : (k * w + i + 1) % w ≠ 0 := by
  rw [show k * w + i + 1 = (i + 1) + k * w by omega, Nat.add_mul_mod_self_right, Nat.mod_eq_of_lt hi]
  omega
theorem grid_flat {n w : Nat} (hw : 0 < w) : ∀ (r k : Nat) (L : List (List Nat)), L ≠ [] → k * w + L.length = n → r = (L.length - 1) / w + 1 →
    J [10] ((List.range r).map fun i => J [32] ((L.drop (i * w)).take w)) ++ [10] = flatT n w (k * w) L
  | 0, _, _, _, _, h => absurd h.symm (Nat.succ_ne_zero _)
  | r + 1, k, L, hL, hn, hr => by
    have hLp : 0 < L.length := List.length_pos_iff.mpr hL
    have hr2 : r = (L.length - 1) / w := Nat.succ.inj hr
    rw [List.range_succ_eq_map, List.map_cons, Nat.zero_mul, List.drop_zero]
    by_cases c : L.length ≤ w
    · have hr0 : r = 0 := by
        rw [hr2]
        exact Nat.div_eq_of_lt (by omega)
      subst hr0
      rw [List.take_of_length_le c]
      show J [32] L ++ [10] = _
      refine row_flat n w L (k * w) hL (fun i hi => ?_) ?_
      · refine if_neg fun z => ?_
        rcases z with z | z
        · omega
        · exact mod_in (k := k) (w := w) (i := i) (by omega) z
      · exact if_pos (.inl (by omega))
    · have hd : L.drop w ≠ [] := fun z => by
        have z2 := congrArg List.length z
        rw [List.length_drop] at z2
        have z3 : L.length - w = 0 := z2
        omega
      have hdl : (L.drop w).length = L.length - w := List.length_drop
      have hkw : (k + 1) * w = k * w + w := Nat.succ_mul k w
      have htl : (L.take w).length = w := by
        rw [List.length_take]
        omega
      have hr3 : r = ((L.drop w).length - 1) / w + 1 := by
        rw [hdl, hr2, show L.length - 1 = (L.length - w - 1) + w by omega, Nat.add_div_right _ hw]
      have ih := grid_flat (n := n) (w := w) hw r (k + 1) (L.drop w) hd (by rw [hdl, hkw]; omega) hr3
      have hrow := row_flat n w (L.take w) (k * w) (fun z => by rw [z] at htl; have t2 : 0 = w := htl; omega) (fun i hi => by
        rw [htl] at hi
        refine if_neg fun z => ?_
        rcases z with z | z
        · omega
        · exact mod_in (k := k) (w := w) (i := i) hi z) (by
        rw [htl]
        refine if_pos (.inr ?_)
        rw [show k * w + (w - 1) + 1 = (k + 1) * w by omega, Nat.mul_mod_left])
      have hmap : ((List.range r).map Nat.succ).map (fun i => J [32] ((L.drop (i * w)).take w)) = (List.range r).map fun i => J [32] (((L.drop w).drop (i * w)).take w) := by
        rw [List.map_map]
        refine List.map_congr_left fun i _ => ?_
        show J [32] ((L.drop ((i + 1) * w)).take w) = _
        rw [List.drop_drop, show (i + 1) * w = w + i * w by rw [Nat.succ_mul]; omega]
      rw [hmap]
      obtain ⟨r2, hr4⟩ : ∃ r2, r = r2 + 1 := ⟨_, hr3⟩
      have hne : ∃ a b, (List.range r).map (fun i => J [32] (((L.drop w).drop (i * w)).take w)) = a :: b := by
        rw [hr4, List.range_succ_eq_map, List.map_cons]
        exact ⟨_, _, rfl⟩
      obtain ⟨a, b, hab⟩ := hne
      rw [hab] at ih ⊢
      show J [32] (L.take w) ++ [10] ++ J [10] (a :: b) ++ [10] = _
      rw [List.append_assoc, ih, hrow, hkw]
      have h5 := flat_app n w (L.take w) (L.drop w) (k * w)
      rw [List.take_append_drop, htl] at h5
      exact h5.symm
end G4

set_option Elab.async false
set_option linter.all false
set_option maxRecDepth 100000
set_option maxHeartbeats 4000000
namespace G4
open PySem PySem.Spec PyProof.Rows L2
/-! the cells of a grid -/
theorem cells_key : ∀ (g : List (Option Nat)) (i : Nat), ∀ x ∈ cellsFromN i g, i ≤ x.1 ∧ x.1 < i + g.length ∧ some x.2 ∈ g
  | [], _, _, h => nomatch h
  | none :: l, i, x, h => by
    obtain ⟨a, b, c⟩ := cells_key l (i + 1) x h
    have hl : (none :: l : List (Option Nat)).length = l.length + 1 := rfl
    exact ⟨by omega, by omega, List.mem_cons_of_mem _ c⟩
  | some v :: l, i, x, h => by
    have hl : (some v :: l : List (Option Nat)).length = l.length + 1 := rfl
    rcases List.mem_cons.mp h with rfl | h
    · exact ⟨Nat.le_refl _, by show i < _; omega, List.mem_cons_self⟩
    · obtain ⟨a, b, c⟩ := cells_key l (i + 1) x h
      exact ⟨by omega, by omega, List.mem_cons_of_mem _ c⟩
theorem cells_nodup : ∀ (g : List (Option Nat)) (i : Nat), ((cellsFromN i g).map (·.1)).Nodup
  | [], _ => List.nodup_nil
  | none :: l, i => cells_nodup l (i + 1)
  | some v :: l, i => by
    refine List.nodup_cons.mpr ⟨fun h => ?_, cells_nodup l (i + 1)⟩
    obtain ⟨x, hx, e⟩ := List.mem_map.mp h
    have := cells_key l (i + 1) x hx
    have e2 : x.1 = i := e
    omega
theorem look_none : ∀ {l : List (Nat × Nat)} {c : Nat}, (∀ x ∈ l, x.1 ≠ c) → l.lookup c = none
  | [], _, _ => rfl
  | (a, v) :: l, c, h => by
    have h2 : (c == a) = false := by simpa using (Ne.symm (h (a, v) List.mem_cons_self))
    simp only [List.lookup, h2]
    exact look_none fun x hx => h x (List.mem_cons_of_mem _ hx)
theorem cells_look : ∀ (g : List (Option Nat)) (i c : Nat), c < g.length → (cellsFromN i g).lookup (i + c) = g.getD c none
  | [], _, _, h => absurd h (Nat.not_lt_zero _)
  | none :: l, i, 0, _ => look_none fun x hx => by
    have := cells_key l (i + 1) x hx
    omega
  | none :: l, i, c + 1, h => by
    have := cells_look l (i + 1) c (Nat.lt_of_succ_lt_succ h)
    rw [show i + 1 + c = i + (c + 1) by omega] at this
    exact this
  | some v :: l, i, 0, _ => by
    show ((i, v) :: cellsFromN (i + 1) l).lookup i = some v
    simp [List.lookup]
  | some v :: l, i, c + 1, h => by
    have := cells_look l (i + 1) c (Nat.lt_of_succ_lt_succ h)
    rw [show i + 1 + c = i + (c + 1) by omega] at this
    have h2 : (i + (c + 1) == i) = false := by
      rw [beq_eq_false_iff_ne]
      omega
    show ((i, v) :: cellsFromN (i + 1) l).lookup (i + (c + 1)) = _
    simp only [List.lookup, h2]
    exact this
def wordO : Option Nat → List Nat
  | none => [46]
  | some v => (numS v).cps.toList
theorem six_word : ∀ v ∈ sixV, Canon (numS v).cps.toList ∧ wordV (numS v).cps.toList = some v := by
  unfold Canon wordV
  decide +kernel
theorem signs_words {g : List (Option Nat)} : (signsF (cellsFromN 0 g) g.length).map (fun x => x.cps.toList) = g.map wordO := by
  unfold signsF
  rw [List.map_map]
  refine List.ext_getElem? fun c => ?_
  rw [List.getElem?_map, List.getElem?_map]
  by_cases h : c < g.length
  · rw [List.getElem?_range h, List.getElem?_eq_getElem h]
    have e := cells_look g 0 c h
    rw [Nat.zero_add] at e
    show some ((signF (cellsFromN 0 g) c).cps.toList) = some (wordO g[c])
    have e2 : valF (cellsFromN 0 g) c = g[c] := by
      unfold valF
      rw [e, List.getD_eq_getElem?_getD, List.getElem?_eq_getElem h]
      rfl
    unfold signF
    rw [e2]
    cases g[c] with
    | none => rfl
    | some v => rfl
  · rw [List.getElem?_eq_none_iff.mpr (by rw [List.length_range]; omega), List.getElem?_eq_none_iff.mpr (by omega)]
    rfl
theorem grid_full {g : List (Option Nat)} {w : Nat} (hw : 0 < w) (hg : g ≠ []) : full (gridText g.length w (cellsFromN 0 g)) = flatT g.length w 0 (g.map wordO) := by
  have hL : g.map wordO ≠ [] := fun z => hg (List.map_eq_nil_iff.mp z)
  have h := grid_flat (n := g.length) (w := w) hw (nRows g.length w) 0 (g.map wordO) hL (by rw [List.length_map]; omega) (by rw [List.length_map]; rfl)
  rw [Nat.zero_mul] at h
  rw [← h]
  show (gridText g.length w (cellsFromN 0 g)).cps.toList ++ [10] = _
  refine congrArg (· ++ [10]) ?_
  unfold gridText
  rw [rows_eq, join_codes]
  unfold rowsL4
  rw [List.map_map]
  refine congrArg (J [10]) (List.map_congr_left fun k _ => ?_)
  show (Txt.join (" " : String) (rowL4 (cellsFromN 0 g) g.length w (k * w))).cps.toList = _
  rw [join_codes, ← row_cut, ← signs_words, List.map_take, List.map_drop]
  rfl
/-- what was written is read -/
theorem grid_read {g : List (Option Nat)} {w : Nat} (hw : 0 < w) (hwn : w ≤ g.length) (hs : ∀ v, some v ∈ g → v ∈ sixV) : gridR (gridText g.length w (cellsFromN 0 g)) = .ok (g, w) := by
  have hg : g ≠ [] := fun z => by
    rw [z] at hwn
    have : w ≤ 0 := hwn
    omega
  have hcan : ∀ x ∈ g.map wordO, Canon x := fun x hx => by
    obtain ⟨o, ho, rfl⟩ := List.mem_map.mp hx
    cases o with
    | none => exact .inl rfl
    | some v => exact (six_word v (hs v ho)).1
  have hlen : (full (gridText g.length w (cellsFromN 0 g))).length = (gridText g.length w (cellsFromN 0 g)).length + 1 := by
    rw [List.length_append, len_list]
    rfl
  have hF := grid_full (g := g) hw hg
  rw [hF] at hlen
  have h := read_flat (n := g.length) (w := w) (N := (gridText g.length w (cellsFromN 0 g)).length) hw hwn (g.map wordO) 0 0 0 [] (fun z => hg (List.map_eq_nil_iff.mp z)) hcan (by rw [List.length_map]; omega) (by omega) (by rw [if_pos hw])
  rw [Nat.zero_mod, ← hF] at h
  rw [walk_grid]
  unfold walkR
  have h2 : wkL (gridText g.length w (cellsFromN 0 g)).length ((gridText g.length w (cellsFromN 0 g)).cps.toList ++ [10]) 0 ⟨0, 0, [], []⟩ = _ := h
  rw [h2]
  show Except.ok ((([] : List (List Nat)) ++ g.map wordO).map wordV, w) = _
  rw [List.nil_append, List.map_map]
  have : g.map (wordV ∘ wordO) = g := by
    have : g.map (wordV ∘ wordO) = g.map id := List.map_congr_left fun o ho => by
      cases o with
      | none => rfl
      | some v => exact (six_word v (hs v ho)).2
    rw [this, List.map_id]
  rw [this]
/-! how large what is read may be -/
theorem digits_lt : ∀ (n : Nat) (l : List Nat), l.length = n → (∀ c ∈ l, 48 ≤ c ∧ c ≤ 57) → NumText.digitsVal l < 10 ^ n
  | 0, l, hl, _ => by
    rw [List.length_eq_zero_iff.mp hl]
    decide
  | n + 1, l, hl, h => by
    have hne : l ≠ [] := fun z => by
      rw [z] at hl
      cases hl
    have e := List.dropLast_concat_getLast hne
    rw [← e, NumText.digitsVal_snoc]
    have ih := digits_lt n l.dropLast (by rw [List.length_dropLast, hl]; rfl) fun c hc => h c (List.dropLast_subset l hc)
    have hc := h _ (List.getLast_mem hne)
    rw [Nat.pow_succ]
    omega
theorem word_low {w : List Nat} {v : Nat} (h : Word w) (e : wordV w = some v) : v < 1000000000 := by
  unfold wordV at e
  by_cases c : w = [46]
  · rw [if_pos c] at e
    cases e
  · rw [if_neg c] at e
    obtain ⟨h1, h2, h3⟩ := h.resolve_left c
    have hlt := digits_lt w.length w rfl h3
    rw [← Option.some.inj e]
    exact Nat.lt_of_lt_of_le hlt (Nat.le_trans (Nat.pow_le_pow_right (by decide) h2) (by decide))
theorem cells_low {ss : List (List Nat)} (h : ∀ w ∈ ss, Word w) (hl : ss.length ≤ 10000) : Low (cellsFromN 0 (ss.map wordV)) ∧ (cellsFromN 0 (ss.map wordV)).length ≤ ss.length := by
  refine ⟨fun x hx => ?_, ?_⟩
  · obtain ⟨a, b, c⟩ := cells_key _ 0 x hx
    rw [List.length_map] at b
    obtain ⟨w, hw, e⟩ := List.mem_map.mp c
    exact ⟨by omega, word_low (h w hw) e⟩
  · have : ∀ (g : List (Option Nat)) (i : Nat), (cellsFromN i g).length ≤ g.length := by
      intro g
      induction g with
      | nil => exact fun _ => Nat.le_refl _
      | cons o l ih =>
        intro i
        cases o with
        | none => exact Nat.le_succ_of_le (ih (i + 1))
        | some v => exact Nat.succ_le_succ (ih (i + 1))
    have e := this (ss.map wordV) 0
    rw [List.length_map] at e
    exact e
theorem wkS_wd {n i c : Nat} {s s2 : WS} (h1 : s.wd ≤ i) (h2 : s.he ≤ i) (h : wkS n i c s = some s2) : s2.wd ≤ i + 1 := by
  unfold wkS at h
  split at h
  · rw [← Option.some.inj h]
    exact Nat.le_succ_of_le h1
  · split at h
    · rw [← Option.some.inj h]
      exact Nat.le_succ_of_le h1
    · split at h
      · split at h
        · rw [← Option.some.inj h]
          show (if 0 < s.wd then s.wd else s.he + 1) ≤ i + 1
          split <;> omega
        · rw [← Option.some.inj h]
          exact Nat.le_succ_of_le h1
      · cases h
theorem wkL_good {n : Nat} : ∀ (l : List Nat) (i : Nat) (s : WS), GoodS i s → s.wd ≤ i → (∀ e, wkL n l i s = .error e → e < i + l.length) ∧ ∀ s2, wkL n l i s = .ok s2 → GoodS (i + l.length) s2 ∧ s2.wd ≤ i + l.length
  | [], i, s, g, hw => ⟨fun e h => (nomatch h), fun s2 h => by
    rw [← Except.ok.inj h]
    exact ⟨g, hw⟩⟩
  | c :: l, i, s, g, hw => by
    have hl : (c :: l).length = l.length + 1 := rfl
    rw [wkL_cons]
    cases e : wkS n i c s with
    | none =>
      refine ⟨fun x h => ?_, fun s2 h => (nomatch h)⟩
      have : i = x := Except.error.inj h
      omega
    | some s2 =>
      obtain ⟨a, b⟩ := wkL_good (n := n) l (i + 1) s2 (goodS g e) (wkS_wd hw g.2.1 e)
      refine ⟨fun x h => ?_, fun s3 h => ?_⟩
      · have := a x h
        omega
      · have := b s3 h
        rw [show i + (c :: l).length = i + 1 + l.length by omega]
        exact this
theorem walk_bounds (t : Str) : (∀ e, walkR t = .error e → e ≤ t.length) ∧ ∀ ss w, walkR t = .ok (ss, w) → ss.length ≤ t.length + 1 ∧ w ≤ t.length + 1 ∧ ∀ x ∈ ss, Word x := by
  have hl : (t.cps.toList ++ [10]).length = t.length + 1 := by
    rw [List.length_append, len_list]
    rfl
  obtain ⟨a, b⟩ := wkL_good (n := t.length) (t.cps.toList ++ [10]) 0 ⟨0, 0, [], []⟩ ⟨Nat.zero_le _, Nat.zero_le _, .inl rfl, fun w hw => nomatch hw⟩ (Nat.zero_le _)
  rw [hl] at a b
  unfold walkR
  cases e : wkL t.length (t.cps.toList ++ [10]) 0 ⟨0, 0, [], []⟩ with
  | error x =>
    refine ⟨fun y h => ?_, fun ss w h => (nomatch h)⟩
    have h2 := a x e
    have : x = y := Except.error.inj h
    omega
  | ok s =>
    refine ⟨fun y h => (nomatch h), fun ss w h => ?_⟩
    have h2 := Prod.mk.inj (Except.ok.inj h)
    obtain ⟨g, hw⟩ := b s e
    rw [← h2.1, ← h2.2]
    exact ⟨by have := g.1; omega, by omega, g.2.2.2⟩
end G4

set_option Elab.async false
set_option linter.all false
set_option maxRecDepth 100000
set_option maxHeartbeats 8000000
namespace G4
open PySem PySem.Spec PyProof.Rows L2
/-! what the law holds in the heap -/
structure LI (pT pG d cs : Addr) (H : Hp) : Prop where
  src : SrcAt H d cs
  tT : GxR.TabG H pT
  tG : GxR.TabG H pG
theorem srcAt_of {H H' : Hp} {d cs : Addr} (h : SrcAt H d cs) (k : ∀ o, (∀ q, o ≠ .tbl q) → ∀ b, H b = some o → H' b = some o) : SrcAt H' d cs := by
  obtain ⟨zs, l, m, t, h1, h2, r⟩ := h
  exact ⟨zs, l, m, t, k _ (fun q z => by cases z) _ h1, k _ (fun q z => by cases z) _ h2, r⟩
theorem tabG_of {H H' : Hp} {p : Addr} (h : GxR.TabG H p) (k : ∀ o, H p = some o → H' p = some o) : GxR.TabG H' p := by
  obtain ⟨ps, h1, r⟩ := h
  exact ⟨ps, k _ h1, r⟩
section
variable {pT pG d cs : Addr} {H H' : Hp}
theorem LI.same (h : LI pT pG d cs H) (k : Same H H') : LI pT pG d cs H' := ⟨srcAt_of h.src fun o _ b e => k b o e, tabG_of h.tT fun o e => k _ o e, tabG_of h.tG fun o e => k _ o e⟩
theorem LI.kpT (h : LI pT pG d cs H) (hne : pT ≠ pG) (k : KpO pT H H') : LI pT pG d cs H' := ⟨srcAt_of h.src fun o n b e => k.2 b o (tabG_ne h.tT e n) e, k.1, tabG_of h.tG fun o e => k.2 _ o hne.symm e⟩
theorem LI.kpG (h : LI pT pG d cs H) (hne : pT ≠ pG) (k : KpO pG H H') : LI pT pG d cs H' := ⟨srcAt_of h.src fun o n b e => k.2 b o (tabG_ne h.tG e n) e, tabG_of h.tT fun o e => k.2 _ o hne e, k.1⟩
theorem LI.pick (h : LI pT pG d cs H) (hs : SrcAt H' d cs) (k : ∀ b o, b ≠ d → b ≠ cs → H b = some o → H' b = some o) : LI pT pG d cs H' := by
  obtain ⟨zs, l, m, t, h1, h2, r⟩ := h.src
  have nd : ∀ p, GxR.TabG H p → p ≠ d ∧ p ≠ cs := fun p hp => ⟨fun z => tabG_ne hp h1 (fun q z => by cases z) z.symm, fun z => tabG_ne hp h2 (fun q z => by cases z) z.symm⟩
  exact ⟨hs, tabG_of h.tT fun o e => k _ o (nd _ h.tT).1 (nd _ h.tT).2 e, tabG_of h.tG fun o e => k _ o (nd _ h.tG).1 (nd _ h.tG).2 e⟩
theorem src_ne {a : Addr} (h : SrcAt H d cs) (e : H a = none) : a ≠ d ∧ a ≠ cs := by
  obtain ⟨zs, l, m, t, h1, h2, r⟩ := h
  exact ⟨(ne_of_none h1 e).symm, (ne_of_none h2 e).symm⟩
theorem src_ned {a : Addr} {o : HO} (h : SrcAt H d cs) (e : H a = some o) (n : ∀ q, o ≠ .dK q) : a ≠ d := fun z => by
  obtain ⟨zs, l, m, t, h1, h2, r⟩ := h
  rw [z, h1] at e
  exact n _ (Option.some.inj e).symm
theorem src_nec {a : Addr} {o : HO} (h : SrcAt H d cs) (e : H a = some o) (n : ∀ q, o ≠ .lst q) : a ≠ cs := fun z => by
  obtain ⟨zs, l, m, t, h1, h2, r⟩ := h
  rw [z, h2] at e
  exact n _ (Option.some.inj e).symm
/-- tuples stay over a draw -/
theorem sqt_pick {K : PySem.W.Frag} {p : Addr} {xs : List V} (h : SrcAt H d cs) (k : ∀ b o, b ≠ d → b ≠ cs → H b = some o → H' b = some o) (q : SqT K H p xs) : SqT K H' p xs := by
  rcases q with (q | ⟨o, q⟩) | q
  · exact .inl (.inl (k _ _ (src_ned h q fun q z => by cases z) (src_nec h q fun q z => by cases z) q))
  · exact .inl (.inr ⟨o, k _ _ (src_ned h q fun q z => by cases z) (src_nec h q fun q z => by cases z) q⟩)
  · exact .inr q
theorem paired_imp {α β : Type} {R S : α → β → Prop} (k : ∀ a b, R a b → S a b) : ∀ {as : List α} {bs : List β}, Paired R as bs → Paired S as bs
  | _, _, .nil => .nil
  | _, _, .cons a t => .cons (k _ _ a) (paired_imp k t)
theorem paired_snoc {α β : Type} {R : α → β → Prop} {a : α} {b : β} (h : R a b) : ∀ {as : List α} {bs : List β}, Paired R as bs → Paired R (as ++ [a]) (bs ++ [b])
  | _, _, .nil => .cons h .nil
  | _, _, .cons x t => .cons x (paired_snoc h t)
theorem lstF_pick {K : PySem.W.Frag} {L : Addr} {f : List (Nat × Nat)} (h : SrcAt H d cs) (hL : L ≠ cs) (k : ∀ b o, b ≠ d → b ≠ cs → H b = some o → H' b = some o) (q : LstF K H L f) : LstF K H' L f := by
  obtain ⟨ps, h1, h2⟩ := q
  exact ⟨ps, k _ _ (src_ned h h1 fun q z => by cases z) hL h1, paired_imp (fun p kv hp => sqt_pick h k hp) h2⟩
theorem lstF_same {K : PySem.W.Frag} {L : Addr} {f : List (Nat × Nat)} (k : Same H H') (q : LstF K H L f) : LstF K H' L f := by
  obtain ⟨ps, h1, h2⟩ := q
  exact ⟨ps, k _ _ h1, pairs_same k h2⟩
theorem sqt_kpO {K : PySem.W.Frag} {P p : Addr} {xs : List V} (hT : GxR.TabG H P) (k : KpO P H H') (q : SqT K H p xs) : SqT K H' p xs := by
  rcases q with (q | ⟨o, q⟩) | q
  · exact .inl (.inl (k.2 _ _ (tabG_ne hT q fun q z => by cases z) q))
  · exact .inl (.inr ⟨o, k.2 _ _ (tabG_ne hT q fun q z => by cases z) q⟩)
  · exact .inr q
theorem lstF_kpO {K : PySem.W.Frag} {P L : Addr} {f : List (Nat × Nat)} (hT : GxR.TabG H P) (k : KpO P H H') (q : LstF K H L f) : LstF K H' L f := by
  obtain ⟨ps, h1, h2⟩ := q
  exact ⟨ps, k.2 _ _ (tabG_ne hT h1 fun q z => by cases z) h1, paired_imp (fun p kv hp => sqt_kpO hT k hp) h2⟩
theorem pairs_dp {K : PySem.W.Frag} : ∀ {ps : List Addr} {f : List (Nat × Nat)}, Paired (fun p kv => SqT K H p [kV kv.1, kv.2]) ps (kvF f) → DpAll K H (ps.map V.ref) (f.map pairD)
  | [], [], _ => .nil
  | p :: ps, x :: f, h => by
    cases h with
    | cons a b => exact .cons (.tup a (.cons (.int _) (.cons (.int _) .nil))) (pairs_dp b)
  | [], x :: f, h => by cases h
  | p :: ps, [], h => by cases h
end
theorem six_at {r : Int} (h : 0 ≤ r ∧ r < 6) : ∃ v, v ∈ sixV ∧ atI ([.int 0, .int 1, .int 7, .int 12, .int 99, .int 123456789] : List V) r = some (.int ((v : Nat) : Int)) := by
  have : r = 0 ∨ r = 1 ∨ r = 2 ∨ r = 3 ∨ r = 4 ∨ r = 5 := by omega
  rcases this with rfl | rfl | rfl | rfl | rfl | rfl
  · exact ⟨0, by decide, rfl⟩
  · exact ⟨1, by decide, rfl⟩
  · exact ⟨7, by decide, rfl⟩
  · exact ⟨12, by decide, rfl⟩
  · exact ⟨99, by decide, rfl⟩
  · exact ⟨123456789, by decide, rfl⟩
theorem four_at {r : Int} {m : Nat} {s1 s2 s3 s4 : Str} (h : 0 ≤ r ∧ r < 4) (h1 : s1.length ≤ m) (h2 : s2.length ≤ m) (h3 : s3.length ≤ m) (h4 : s4.length ≤ m) : ∃ near : Str, near.length ≤ m ∧ atI ([.str s1, .str s2, .str s3, .str s4] : List V) r = some (.str near) := by
  have : r = 0 ∨ r = 1 ∨ r = 2 ∨ r = 3 := by omega
  rcases this with rfl | rfl | rfl | rfl
  · exact ⟨s1, h1, rfl⟩
  · exact ⟨s2, h2, rfl⟩
  · exact ⟨s3, h3, rfl⟩
  · exact ⟨s4, h4, rfl⟩
theorem sign_at {r : Int} (h : 0 ≤ r ∧ r < 10) : ∃ c, atI (" .\n0159a,-" : Str).cps.toList r = some c := by
  have e : (" .\n0159a,-" : Str).cps.toList = [32, 46, 10, 48, 49, 53, 57, 97, 44, 45] := by decide +kernel
  rw [e]
  have : r = 0 ∨ r = 1 ∨ r = 2 ∨ r = 3 ∨ r = 4 ∨ r = 5 ∨ r = 6 ∨ r = 7 ∨ r = 8 ∨ r = 9 := by omega
  rcases this with rfl | rfl | rfl | rfl | rfl | rfl | rfl | rfl | rfl | rfl
  all_goals exact ⟨_, rfl⟩
theorem app_len (a b : Str) : (a ++ b).length = a.length + b.length := by
  show (a.cps ++ b.cps).size = _
  rw [Array.size_append]
  rfl
theorem cells_len : ∀ (g : List (Option Nat)) (i : Nat), (cellsFromN i g).length ≤ g.length
  | [], _ => Nat.le_refl _
  | none :: l, i => Nat.le_succ_of_le (cells_len l (i + 1))
  | some _ :: l, i => Nat.succ_le_succ (cells_len l (i + 1))
theorem LI.put {pT pG d cs L : Addr} {H : Hp} {xs ys : List V} (h : LI pT pG d cs H) (e : H L = some (.lst xs)) (hc : L ≠ cs) : LI pT pG d cs (upd H L (.lst ys)) := by
  have hd := src_ned h.src e fun q z => by cases z
  have nT : pT ≠ L := (tabG_ne h.tT e fun q z => by cases z).symm
  have nG : pG ≠ L := (tabG_ne h.tG e fun q z => by cases z).symm
  obtain ⟨zs, l, m, t, h1, h2, r⟩ := h.src
  exact ⟨⟨zs, l, m, t, by rw [upd_ne hd.symm]; exact h1, by rw [upd_ne hc.symm]; exact h2, r⟩, tabG_of h.tT fun o q => by rw [upd_ne nT]; exact q, tabG_of h.tG fun o q => by rw [upd_ne nG]; exact q⟩
theorem sqt_put {K : PySem.W.Frag} {L p : Addr} {H : Hp} {xs ys zs : List V} (e : H L = some (.lst xs)) (h : SqT K H p zs) : SqT K (upd H L (.lst ys)) p zs := by
  rcases h with (q | ⟨o, q⟩) | q
  · exact .inl (.inl (by rw [upd_ne (ne_of q e (by intro z; cases z))]; exact q))
  · exact .inl (.inr ⟨o, by rw [upd_ne (ne_of q e (by intro z; cases z))]; exact q⟩)
  · exact .inr q
/-! what read_told tells, as data -/
def iD (n : Nat) : PyData := .int ((n : Nat) : Int)
def toldD (t : Str) : PyData := match gridR t with
  | .error e => iD e
  | .ok (found, w) => gridD found.length w (cellsFromN 0 found)
theorem grid_bounds {t : Str} (hz : t.length ≤ 9000) : (∀ e, gridR t = .error e → e ≤ t.length) ∧ ∀ found w, gridR t = .ok (found, w) → found.length ≤ t.length + 1 ∧ w ≤ t.length + 1 ∧ Low (cellsFromN 0 found) ∧ (cellsFromN 0 found).length ≤ found.length := by
  obtain ⟨a, b⟩ := walk_bounds t
  have hg := walk_grid t
  cases e : walkR t with
  | error x =>
    rw [e] at hg
    have hg2 : gridR t = .error x := hg
    refine ⟨fun y h => ?_, fun found w h => ?_⟩
    · rw [hg2] at h
      rw [← (Except.error.inj h)]
      exact a x e
    · rw [hg2] at h
      cases h
  | ok r =>
    obtain ⟨ss, w0⟩ := r
    rw [e] at hg
    have hg2 : gridR t = .ok (ss.map wordV, w0) := hg
    refine ⟨fun y h => ?_, fun found w h => ?_⟩
    · rw [hg2] at h
      cases h
    · rw [hg2] at h
      have h2 := Prod.mk.inj (Except.ok.inj h)
      obtain ⟨c1, c2, c3⟩ := b ss w0 e
      obtain ⟨c4, c5⟩ := cells_low c3 (by omega)
      rw [← h2.1, ← h2.2, List.length_map]
      exact ⟨c1, c2, c4, c5⟩
theorem told_data {t : Str} (hz : t.length ≤ 9000) : (toldD t).showable = true ∧ (toldD t).hasDict = false ∧ (toldD t).depth ≤ 60 ∧ (toldD t).shown.length ≤ sizeLine := by
  obtain ⟨a, b⟩ := grid_bounds hz
  unfold toldD
  cases e : gridR t with
  | error x =>
    have := a x e
    exact int_data (v := x) (by omega)
  | ok r =>
    obtain ⟨found, w⟩ := r
    obtain ⟨c1, c2, c3, c4⟩ := b found w e
    exact grid_data (by omega) (by omega) c3 (by omega)
def spToldD (K : PySem.W.Frag) (P : Addr) : Sp := fun vs H Q _ => ∃ (x : V) (t : Str), vs = [x] ∧ Given H x t ∧ t.length ≤ 100000 ∧ GxR.TabG H P ∧ ∀ v H', KpO P H H' → Dp K H' v (toldD t) → Q v H'
theorem told_imp {K : PySem.W.Frag} {P : Addr} (vs : List V) (H : Hp) (Q : VK) (E : XK) (h : spToldD K P vs H Q E) : spTold P vs H Q E := by
  obtain ⟨x, t, rfl, hg, hz, hT, k⟩ := h
  refine ⟨x, t, rfl, hg, hz, hT, fun e he H' kp => k _ H' kp ?_, fun found w hok l r H' kp hl hr => k _ H' kp ?_⟩
  · unfold toldD
    rw [he]
    exact .int _
  · unfold toldD
    rw [hok]
    exact .lst (.inl (.inl hl)) (.cons (dp_grid hr) .nil)
/-! the text of the drawn grid -/
theorem gridText_len {n w : Nat} {f : List (Nat × Nat)} (hf : ∀ x ∈ f, x.2 ∈ sixV) (hn : n ≤ 16) : (gridText n w f).length ≤ 3000 := by
  unfold gridText
  have h1 := rowsOf_sum hf (w := w) hn 0 ((w : Nat) : Int) (nRows n w)
  have h2 := join_le ("\n" : String) (rowsOf (" " : String) (signsF f n) w 0 ((w : Nat) : Int) (nRows n w))
  have h3 : (rowsOf (" " : String) (signsF f n) w 0 ((w : Nat) : Int) (nRows n w)).length = nRows n w := by
    unfold rowsOf
    rw [List.length_map, List.length_range]
  have h4 : nRows n w ≤ 16 + 1 := by
    unfold nRows
    have := Nat.div_le_self (n - 1) w
    omega
  have h5 : ((("\n" : String) : Str)).length = 1 := rfl
  rw [h3, h5] at h2
  omega
/-! the fixed rows -/
def RowOk (d : PyData) : Prop := ∃ (dt : PyData) (t : Str), (dt = .str t ∨ (t = Str.empty ∧ (dt = .none ∨ dt = .list []))) ∧ t.length ≤ 100 ∧
  ((∃ e, gridR t = .error e ∧ d = .list [dt, iD e]) ∨ ∃ found w, gridR t = .ok (found, w) ∧ d = .list [dt, .tuple [iD found.length, iD w, .tuple ((cellsFromN 0 found).map pairD)]])
def sD (s : String) : PyData := .str (Str.ofString s)
def rowsD1 : List PyData := [.list [sD "", iD 0], .list [sD ".", .tuple [iD 1, iD 1, .tuple []]], .list [sD ". .\n.", .tuple [iD 3, iD 2, .tuple []]], .list [sD ". .\n. . .", iD 7], .list [sD ".\n", iD 2], .list [sD ". ", iD 2], .list [sD "01", iD 1]]
def rowsD2 : List PyData := [.list [sD "..", iD 1], .list [sD "1.", iD 1], .list [sD "3\n.\n0", .tuple [iD 3, iD 1, .tuple [.tuple [iD 0, iD 3], .tuple [iD 2, iD 0]]]], .list [sD ". .\n.\n.", iD 5], .list [.none, iD 0]]
def rowsD3 : List PyData := [.list [sD "1234567890", iD 9], .list [.list [], iD 0], .list [sD "-1", iD 0]]
theorem row_err (s : String) (e : Nat) (h : gridR (Str.ofString s) = .error e) (hz : (Str.ofString s).length ≤ 100) : RowOk (.list [sD s, iD e]) := ⟨_, _, .inl rfl, hz, .inl ⟨e, h, rfl⟩⟩
theorem row_ok (s : String) (found : List (Option Nat)) (w : Nat) (h : gridR (Str.ofString s) = .ok (found, w)) (hz : (Str.ofString s).length ≤ 100) : RowOk (.list [sD s, .tuple [iD found.length, iD w, .tuple ((cellsFromN 0 found).map pairD)]]) := ⟨_, _, .inl rfl, hz, .inr ⟨found, w, h, rfl⟩⟩
def errAt (s : Str) (e : Nat) : Bool := match gridR s with
  | .error x => x == e
  | .ok _ => false
def okAt (s : Str) (found : List (Option Nat)) (w : Nat) : Bool := match gridR s with
  | .error x => false
  | .ok (f, v) => f == found && v == w
theorem errAt_of {s : Str} {e : Nat} (h : errAt s e = true) : gridR s = .error e := by
  unfold errAt at h
  cases q : gridR s with
  | error x =>
    rw [q] at h
    rw [beq_iff_eq.mp h]
  | ok r =>
    rw [q] at h
    cases h
theorem okAt_of {s : Str} {found : List (Option Nat)} {w : Nat} (h : okAt s found w = true) : gridR s = .ok (found, w) := by
  unfold okAt at h
  cases q : gridR s with
  | error x =>
    rw [q] at h
    cases h
  | ok r =>
    obtain ⟨f, v⟩ := r
    rw [q] at h
    have h2 := Bool.and_eq_true_iff.mp h
    rw [beq_iff_eq.mp h2.1, beq_iff_eq.mp h2.2]
theorem rows_all : ∀ d ∈ rowsD1 ++ rowsD2 ++ rowsD3, RowOk d := by
  have e0 : gridR Str.empty = .error 0 := errAt_of (by decide +kernel)
  intro d hd
  have h : d = .list [sD "", iD 0] ∨ d = .list [sD ".", .tuple [iD 1, iD 1, .tuple []]] ∨ d = .list [sD ". .\n.", .tuple [iD 3, iD 2, .tuple []]] ∨ d = .list [sD ". .\n. . .", iD 7] ∨ d = .list [sD ".\n", iD 2] ∨ d = .list [sD ". ", iD 2] ∨ d = .list [sD "01", iD 1] ∨ d = .list [sD "..", iD 1] ∨ d = .list [sD "1.", iD 1] ∨ d = .list [sD "3\n.\n0", .tuple [iD 3, iD 1, .tuple [.tuple [iD 0, iD 3], .tuple [iD 2, iD 0]]]] ∨ d = .list [sD ". .\n.\n.", iD 5] ∨ d = .list [.none, iD 0] ∨ d = .list [sD "1234567890", iD 9] ∨ d = .list [.list [], iD 0] ∨ d = .list [sD "-1", iD 0] := by
    simpa [rowsD1, rowsD2, rowsD3] using hd
  rcases h with rfl | rfl | rfl | rfl | rfl | rfl | rfl | rfl | rfl | rfl | rfl | rfl | rfl | rfl | rfl
  · exact row_err _ _ (errAt_of (by decide +kernel)) (by decide +kernel)
  · exact row_ok _ [none] 1 (okAt_of (by decide +kernel)) (by decide +kernel)
  · exact row_ok _ [none, none, none] 2 (okAt_of (by decide +kernel)) (by decide +kernel)
  · exact row_err _ _ (errAt_of (by decide +kernel)) (by decide +kernel)
  · exact row_err _ _ (errAt_of (by decide +kernel)) (by decide +kernel)
  · exact row_err _ _ (errAt_of (by decide +kernel)) (by decide +kernel)
  · exact row_err _ _ (errAt_of (by decide +kernel)) (by decide +kernel)
  · exact row_err _ _ (errAt_of (by decide +kernel)) (by decide +kernel)
  · exact row_err _ _ (errAt_of (by decide +kernel)) (by decide +kernel)
  · exact row_ok _ [some 3, none, some 0] 1 (okAt_of (by decide +kernel)) (by decide +kernel)
  · exact row_err _ _ (errAt_of (by decide +kernel)) (by decide +kernel)
  · exact ⟨_, _, .inr ⟨rfl, .inl rfl⟩, by decide +kernel, .inl ⟨0, e0, rfl⟩⟩
  · exact row_err _ _ (errAt_of (by decide +kernel)) (by decide +kernel)
  · exact ⟨_, _, .inr ⟨rfl, .inr rfl⟩, by decide +kernel, .inl ⟨0, e0, rfl⟩⟩
  · exact row_err _ _ (errAt_of (by decide +kernel)) (by decide +kernel)
end G4

set_option Elab.async false
set_option linter.all false
set_option maxRecDepth 100000
set_option maxHeartbeats 8000000
namespace G4
open PySem PySem.Spec PyProof.Rows L2
structure TxtM (mg : Str → Option Value) : Prop where
  rng : mg "range" = none
  len : mg "len" = none
  tpl : mg "tuple" = none
  repr : mg "repr" = none
  isi : mg "isinstance" = none
def spLaw (K : PySem.W.Frag) (pT pG : Addr) : Sp := fun vs H Q _ => ∃ (a : Addr) (ns : List Int), vs = [.ref a] ∧ SqL K H a (ns.map V.int) ∧ ns.length ≤ 63 ∧ GxR.TabG H pT ∧ GxR.TabG H pG ∧ ∀ H', Q (.bl true) H'
abbrev nmLaw : List Str := ["_law_script", "_law_source", "_law_lap", "_law_n", "_law_width", "_law_f", "_law_cell", "_law_text", "_law_turn", "_law_k", "_law_sign", "_law_some", "_law_near", "_law_place", "_law_due", "_law_rows"]
/-- the names of the law between two laps -/
def StL (a d : Addr) (σ : L2.St) : Prop := ∃ v2 v3 v4 v5 v6 v7 v8 v9 v10 v11 v12 v13 v14 : Option V, σ = [some (.ref a), some (.ref d), v2, v3, v4, v5, v6, v7, v8, v9, v10, v11, v12, v13, v14, none]
section
variable {P : Program} {w : World} {K : PySem.W.Frag} {mg : Str → Option Value} {base : Heap} {fOpen fPick fL fG fTold fW pT pG : Addr} {dOpen dPick dL dG dTold dW : FuncData}
theorem law_body (M : TxtM mg) (hne : pT ≠ pG) (TO : TxtO K mg fOpen fPick dOpen dPick) (TL : TxtL K mg fL dL) (TW : TxtW K mg fW dW)
    (GT : FnOk P w K mg base CX0 9 fTold dTold ["_law_text"] (spToldD K pT)) (gT : mg "_law_read_told" = some (.ref fTold)) (kT : PySem.W.keepIn K (.ref fTold) = true) (bT : Binds K dTold ["_law_text"] [])
    (GG : FnOk P w K mg base CX0 1 fG dG ["n", "width", "f"] (spGridText K pG)) (gG : mg "grid_text" = some (.ref fG)) (kG : PySem.W.keepIn K (.ref fG) = true) (bG : Binds K dG ["n", "width", "f"] [])
    {f : Addr} {cdv : Value} {A : Around} {outer : List Env} {s : Shared} {H : Hp} {vs : List V} {Q : VK} {E : XK} (hr : Room 9 (A.deeper (envOfC "law" (defScope sLaw) s.heap.objs.size f cdv))) (hA : A.guards = some []) (h : spLaw K pT pG vs H Q E) :
    ∃ t, PSs (cxOf CX0 P w K mg base nmLaw "law" (defScope sLaw) f cdv A outer s H E).nox (defBody sLaw) t ∧ t { nx := fun _ H' => Q .non H', rt := Q } (start nmLaw vs) H := by
  obtain ⟨a, ns, rfl, ha, hns, hpT, hpG, k⟩ := h
  have GO : FnOk P w K mg base CX0 1 fOpen dOpen ["_law_script"] (spOpen K) := ok_open TO
  have GP : FnOk P w K mg base CX0 1 fPick dPick ["_law_source", "_law_most"] spPick := ok_pick TO
  have GL : FnOk P w K mg base CX0 1 fL dL ["_law_n", "_law_width", "_law_f"] (spLines K) := ok_lines TL
  have GW : FnOk P w K mg base CX0 1 fW dW ["_law_text"] spWalk := ok_walk TW
  have hr1 : Room 1 (A.deeper (envOfC "law" (defScope sLaw) s.heap.objs.size f cdv)) := hr.mono (by decide)
  have hu := hr.units
  have hg : (A.deeper (envOfC "law" (defScope sLaw) s.heap.objs.size f cdv)).guards = some [] := hA
  refine ⟨_, pss_cons (ps_set (i := 1) scLaw.nd rfl (.inl rfl) (pe_call GO hr1 (by rfl) TO.gOpen TO.FOpen.kp TO.bOpen .nil pass0 (pa_cons (pv 0) pa_nil)))
    (pss_cons (ps_for PassesOwn.never rfl (pi_range1 (by rfl) M.rng (pa_cons pe_int pa_nil)) (pg_name (i := 2) scLaw.nd rfl (.inl rfl))
      (pss_cons (ps_set (i := 3) scLaw.nd rfl (.inl rfl) (pe_op op_add pe_int (pe_call GP hr1 (by rfl) TO.gPick TO.FPick.kp TO.bPick .nil pass0 (pa_cons (pv 1) (pa_cons pe_int pa_nil)))))
      (pss_cons (ps_par (i := 4) (j := 5) rfl scLaw.nd rfl rfl (by decide) rfl rfl (pa_cons (pe_op op_add pe_int (pe_call GP hr1 (by rfl) TO.gPick TO.FPick.kp TO.bPick .nil pass0 (pa_cons (pv 1) (pa_cons (pv 3) pa_nil)))) (pa_cons (pe_lst pa_nil) pa_nil)) rfl)
      (pss_cons (ps_for PassesOwn.never rfl (pi_range1 (by rfl) M.rng (pa_cons (pv 3) pa_nil)) (pg_name (i := 6) scLaw.nd rfl (.inl rfl))
        (pss_one (ps_if (pt_cmpR op_eq (pe_call GP hr1 (by rfl) TO.gPick TO.FPick.kp TO.bPick .nil pass0 (pa_cons (pv 1) (pa_cons pe_int pa_nil))) pe_int (nomark _))
          (pss_one (ps_expr (pe_bm PySem.F.plainAttrs_list PySem.F.slot_list_append PySem.F.type_list_append mt_append (pv 5)
            (pa_cons (pe_tup (pa_cons (pv 6) (pa_cons (pe_ix ix_list (pe_lst (pa_cons pe_int (pa_cons pe_int (pa_cons pe_int (pa_cons pe_int (pa_cons pe_int (pa_cons pe_int pa_nil)))))))
              (pe_call GP hr1 (by rfl) TO.gPick TO.FPick.kp TO.bPick .nil pass0 (pa_cons (pv 1) (pa_cons pe_int pa_nil))) (fun _ _ => rfl)) pa_nil))) pa_nil)))) pss_nil)))
      (pss_cons (ps_set (i := 7) scLaw.nd rfl (.inl rfl) (pe_call GL hr1 (by rfl) TL.g TL.F.kp TL.b .nil pass0 (pa_cons (pv 3) (pa_cons (pv 4) (pa_cons (pv 5) pa_nil)))))
      (pss_cons (ps_if (pw_or (pt_cmpR op_ne (pe_call GG hr1 (by rfl) gG kG bG .nil pass0 (pa_cons (pv 3) (pa_cons (pv 4) (pa_cons (pe_callTy call_tupleZ (by rfl) M.tpl PyProof.Rows.boot_tuple (pa_cons (pv 5) pa_nil)) pa_nil)))) (pv 7) (nomark _))
          (pw_or1 (pt_cmpR op_ne (pe_callB (call_reprD hg hu) (by rfl) M.repr PyProof.Rows.boot_repr (pa_cons (pe_call GT hr (by rfl) gT kT bT .nil pass0 (pa_cons (pv 7) pa_nil)) pa_nil))
            (pe_callB (call_reprD hg hu) (by rfl) M.repr PyProof.Rows.boot_repr (pa_cons (pe_lst (pa_cons (pe_tup (pa_cons (pv 3) (pa_cons (pv 4) (pa_cons (pe_callTy call_tupleZ (by rfl) M.tpl PyProof.Rows.boot_tuple (pa_cons (pv 5) pa_nil)) pa_nil)))) pa_nil)) pa_nil)) (nomark _)))).pt
        (pss_one (ps_ret pe_bl)) pss_nil)
      (pss_one (ps_for PassesOwn.never rfl (pi_range1 (by rfl) M.rng (pa_cons pe_int pa_nil)) (pg_name (i := 8) scLaw.nd rfl (.inl rfl))
        (pss_cons (ps_par (i := 9) (j := 10) rfl scLaw.nd rfl rfl (by decide) rfl rfl
            (pa_cons (pe_call GP hr1 (by rfl) TO.gPick TO.FPick.kp TO.bPick .nil pass0 (pa_cons (pv 1) (pa_cons (pe_op op_add (pe_callB call_len_str (by rfl) M.len PySem.boot_len (pa_cons (pv 7) pa_nil)) pe_int) pa_nil)))
            (pa_cons (pe_ix ix_str pe_str (pe_call GP hr1 (by rfl) TO.gPick TO.FPick.kp TO.bPick .nil pass0 (pa_cons (pv 1) (pa_cons pe_int pa_nil))) (fun _ _ => rfl)) pa_nil)) rfl)
        (pss_cons (ps_set (i := 11) scLaw.nd rfl (.inl rfl) (pe_lst
          (pa_cons (pe_op op_add_str (pe_op op_add_str (pe_slice sl_str (pv 7) po_none (po_some (pv 9))) (pv 10)) (pe_slice sl_str (pv 7) (po_some (pv 9)) po_none))
          (pa_cons (pe_op op_add_str (pe_slice sl_str (pv 7) po_none (po_some (pv 9))) (pe_slice sl_str (pv 7) (po_some (pe_op op_add (pv 9) pe_int)) po_none))
          (pa_cons (pe_op op_add_str (pe_op op_add_str (pe_slice sl_str (pv 7) po_none (po_some (pv 9))) (pv 10)) (pe_slice sl_str (pv 7) (po_some (pe_op op_add (pv 9) pe_int)) po_none))
          (pa_cons (pe_slice sl_str (pv 7) po_none (po_some (pv 9))) pa_nil))))))
        (pss_cons (ps_set (i := 12) scLaw.nd rfl (.inl rfl) (pe_ix ix_list (pv 11) (pe_call GP hr1 (by rfl) TO.gPick TO.FPick.kp TO.bPick .nil pass0 (pa_cons (pv 1) (pa_cons pe_int pa_nil))) (fun _ _ => rfl)))
        (pss_cons (ps_asg (pe_call GW hr1 (by rfl) TW.g TW.F.kp TW.b .nil pass0 (pa_cons (pv 12) pa_nil)) (pg_tup rfl (pgs_cons (pg_name (i := 13) scLaw.nd rfl (.inl rfl)) (pgs_cons (pg_name (i := 14) scLaw.nd rfl (.inl rfl)) pgs_nil))))
        (pss_one (ps_if (pt_cmpR op_ne (pe_callB (call_reprD hg hu) (by rfl) M.repr PyProof.Rows.boot_repr (pa_cons (pe_call GT hr (by rfl) gT kT bT .nil pass0 (pa_cons (pv 12) pa_nil)) pa_nil))
            (pe_callB (call_reprD hg hu) (by rfl) M.repr PyProof.Rows.boot_repr (pa_cons (pe_ifExp (pt_cmp (pc_notN (pv 14))) (pe_lst (pa_cons (pv 14) pa_nil)) (pv 13)) pa_nil)) (nomark _))
          (pss_one (ps_ret pe_bl)) pss_nil))))))))))))))
    (pss_cons (ps_set (i := 15) scLaw.nd rfl (.inl rfl) (lit_lstL (ds := rowsD1) (by decide) (la_cons (lit_lst (by decide) (la_cons (lit_any pe_str fun _ => .str _) (la_cons (lit_any pe_int fun _ => .int _) la_nil))) (la_cons (lit_lst (by decide) (la_cons (lit_any pe_str fun _ => .str _) (la_cons (lit_tup (by decide) (la_cons (lit_any pe_int fun _ => .int _) (la_cons (lit_any pe_int fun _ => .int _) (la_cons (lit_tup (by decide) la_nil) la_nil)))) la_nil))) (la_cons (lit_lst (by decide) (la_cons (lit_any pe_str fun _ => .str _) (la_cons (lit_tup (by decide) (la_cons (lit_any pe_int fun _ => .int _) (la_cons (lit_any pe_int fun _ => .int _) (la_cons (lit_tup (by decide) la_nil) la_nil)))) la_nil))) (la_cons (lit_lst (by decide) (la_cons (lit_any pe_str fun _ => .str _) (la_cons (lit_any pe_int fun _ => .int _) la_nil))) (la_cons (lit_lst (by decide) (la_cons (lit_any pe_str fun _ => .str _) (la_cons (lit_any pe_int fun _ => .int _) la_nil))) (la_cons (lit_lst (by decide) (la_cons (lit_any pe_str fun _ => .str _) (la_cons (lit_any pe_int fun _ => .int _) la_nil))) (la_cons (lit_lst (by decide) (la_cons (lit_any pe_str fun _ => .str _) (la_cons (lit_any pe_int fun _ => .int _) la_nil))) la_nil)))))))))
    (pss_cons (ps_set (i := 15) scLaw.nd rfl (.inl rfl) (pe_op op_cat (pv 15) (lit_lstL (ds := rowsD2) (by decide) (la_cons (lit_lst (by decide) (la_cons (lit_any pe_str fun _ => .str _) (la_cons (lit_any pe_int fun _ => .int _) la_nil))) (la_cons (lit_lst (by decide) (la_cons (lit_any pe_str fun _ => .str _) (la_cons (lit_any pe_int fun _ => .int _) la_nil))) (la_cons (lit_lst (by decide) (la_cons (lit_any pe_str fun _ => .str _) (la_cons (lit_tup (by decide) (la_cons (lit_any pe_int fun _ => .int _) (la_cons (lit_any pe_int fun _ => .int _) (la_cons (lit_tup (by decide) (la_cons (lit_tup (by decide) (la_cons (lit_any pe_int fun _ => .int _) (la_cons (lit_any pe_int fun _ => .int _) la_nil))) (la_cons (lit_tup (by decide) (la_cons (lit_any pe_int fun _ => .int _) (la_cons (lit_any pe_int fun _ => .int _) la_nil))) la_nil))) la_nil)))) la_nil))) (la_cons (lit_lst (by decide) (la_cons (lit_any pe_str fun _ => .str _) (la_cons (lit_any pe_int fun _ => .int _) la_nil))) (la_cons (lit_lst (by decide) (la_cons (lit_any pe_non fun _ => .non) (la_cons (lit_any pe_int fun _ => .int _) la_nil))) la_nil))))))))
    (pss_cons (ps_set (i := 15) scLaw.nd rfl (.inl rfl) (pe_op op_cat (pv 15) (lit_lstL (ds := rowsD3) (by decide) (la_cons (lit_lst (by decide) (la_cons (lit_any pe_str fun _ => .str _) (la_cons (lit_any pe_int fun _ => .int _) la_nil))) (la_cons (lit_lst (by decide) (la_cons (lit_lst (by decide) la_nil) (la_cons (lit_any pe_int fun _ => .int _) la_nil))) (la_cons (lit_lst (by decide) (la_cons (lit_any pe_str fun _ => .str _) (la_cons (lit_any pe_int fun _ => .int _) la_nil))) la_nil))))))
    (pss_cons (ps_for PassesOwn.never rfl (pi_list (pv 15)) (pg_lst rfl (pgs_cons (pg_name (i := 7) scLaw.nd rfl (.inl rfl)) (pgs_cons (pg_name (i := 14) scLaw.nd rfl (.inl rfl)) pgs_nil)))
      (pss_one (ps_if (pt_cmpR op_ne (pe_callB (call_reprD hg hu) (by rfl) M.repr PyProof.Rows.boot_repr (pa_cons (pe_call GT hr (by rfl) gT kT bT .nil pass0 (pa_cons (pv 7) pa_nil)) pa_nil))
          (pe_callB (call_reprD hg hu) (by rfl) M.repr PyProof.Rows.boot_repr (pa_cons (pe_ifExp (pt_val (pe_callB call_isi (by rfl) M.isi PyProof.Rows.boot_isinstance (pa_cons (pv 14) (pa_cons (pe_bltn (v := .ty "tuple") (by rfl) M.tpl PyProof.Rows.boot_tuple rfl) pa_nil)))) (pe_lst (pa_cons (pv 14) pa_nil)) (pv 14)) pa_nil)) (nomark _))
        (pss_one (ps_ret pe_bl)) pss_nil)))
    (pss_one (ps_ret pe_bl))))))), ?_⟩
  refine ⟨_, rfl, a, ns, rfl, ha, hns, fun d cs H1 s1 nd ncs hsrc => ?_⟩
  have L1 : LI pT pG d cs H1 := ⟨hsrc, tabG_of hpT fun o e => s1 _ o e, tabG_of hpG fun o e => s1 _ o e⟩
  clear hsrc hpT hpG
  refine ⟨8, rfl, by decide, by decide, for_range (n := 8) (fun i σ H' => StL a d σ ∧ LI pT pG d cs H') ⟨⟨none, none, none, none, none, none, none, none, none, none, none, none, none, rfl⟩, L1⟩ (fun i σ H' hi h => ?_) (fun σ H' h => ?_)⟩
  · obtain ⟨⟨v2, v3, v4, v5, v6, v7, v8, v9, v10, v11, v12, v13, v14, rfl⟩, L⟩ := h
    refine ⟨_, rfl, d, cs, 16, rfl, L.src, by decide, fun r H2 hr0 hr2 hs2 k2 => ⟨_, _, rfl, rfl, ?_⟩⟩
    obtain ⟨n, en, hn1, hn2⟩ : ∃ n : Nat, (1 : Int) + r = ((n : Nat) : Int) ∧ 1 ≤ n ∧ n ≤ 16 := ⟨(1 + r).toNat, by have := hr2 (by decide); omega, by have := hr2 (by decide); omega, by have := hr2 (by decide); omega⟩
    have L2' := L.pick hs2 k2
    clear hs2 k2 hr2 hr0 L
    rw [show (fun i j : Int => V.int (i + j)) 1 r = V.int ((n : Nat) : Int) from congrArg V.int en]
    clear en
    refine ⟨_, rfl, _, rfl, d, cs, ((n : Nat) : Int), rfl, L2'.src, by omega, fun r H3 hr1 hr2 hs3 k3 => ⟨_, _, rfl, rfl, Nat.zero_le _, fun F hF => ⟨_, _, rfl, ?_⟩⟩⟩
    obtain ⟨wd, ew, hw1, hw2⟩ : ∃ wd : Nat, (1 : Int) + r = ((wd : Nat) : Int) ∧ 1 ≤ wd ∧ wd ≤ n := by
      by_cases c : ((n : Nat) : Int) < 2
      · have := hr1 c
        exact ⟨1, by omega, by omega, by omega⟩
      · have := hr2 (by omega)
        exact ⟨(1 + r).toNat, by omega, by omega, by omega⟩
    rw [show (fun i j : Int => V.int (i + j)) 1 r = V.int ((wd : Nat) : Int) from congrArg V.int ew]
    have L3 := L2'.pick hs3 k3
    have nF := src_ne L3.src hF
    have L4 : LI pT pG d cs (upd H3 F (.lst [])) := L3.same (same_new hF)
    have hF4 : LstF K (upd H3 F (.lst [])) F (cellsFromN 0 []) := ⟨[], upd_same, .nil⟩
    clear hs3 k3 hr1 hr2 L2' L3 ew
    generalize upd H3 F (.lst []) = H4 at L4 hF4 ⊢
    clear hF H3
    refine ⟨_, rfl, ((n : Nat) : Int), rfl, by omega, by omega, for_range (n := n) (fun j σ H' => ∃ (v6 : Option V) (g : List (Option Nat)), σ = [some (.ref a), some (.ref d), some (.int (0 + ((i : Nat) : Int))), some (.int ((n : Nat) : Int)), some (.int ((wd : Nat) : Int)), some (.ref F), v6, v7, v8, v9, v10, v11, v12, v13, v14, none] ∧ g.length = j ∧ (∀ v, some v ∈ g → v ∈ sixV) ∧ LstF K H' F (cellsFromN 0 g) ∧ LI pT pG d cs H')
      ⟨v6, [], rfl, rfl, (fun v hv => nomatch hv), hF4, L4⟩ (fun j σ H' hj h => ?_) (fun σ H' h => ?_)⟩
    · obtain ⟨u6, g, rfl, hgl, hsix, hF5, L5⟩ := h
      refine ⟨_, rfl, d, cs, 2, rfl, L5.src, by decide, fun r H5 _ hr2 hs5 k5 => ⟨rfl, _, rfl, ?_⟩⟩
      have L6 := L5.pick hs5 k5
      have hF6 := lstF_pick L5.src nF.2 k5 hF5
      by_cases c : r = 0
      · refine ifT (decide_eq_true (by rw [c])) ?_
        obtain ⟨ps, hps, hpr⟩ := hF6
        refine ⟨_, rfl, .inl ⟨rfl, _, .inl (.inl hps)⟩, _, rfl, (by show 6 ≤ sizeLine; decide), fun q hq => ?_⟩
        have L7 := L6.same (same_new (o := .lst [.int 0, .int 1, .int 7, .int 12, .int 99, .int 123456789]) hq)
        have nq := src_ne L6.src hq
        have nFq := ne_of_none hps hq
        refine ⟨_, rfl, d, cs, 6, rfl, L7.src, by decide, fun r2 H7 _ hr3 hs7 k7 => ?_⟩
        obtain ⟨v, hv, hat⟩ := six_at (hr3 (by decide))
        refine ⟨q, _, _, _, rfl, rfl, SqL.of (k7 q _ nq.1 nq.2 upd_same), hat, (by show 2 ≤ sizeLine; decide), fun pp hp => ?_⟩
        have hF7 : H7 F = some (.lst (ps.map V.ref)) := k7 F _ nF.1 nF.2 (by rw [upd_ne nFq]; exact hps)
        have hF8 : upd H7 pp (.tup [.int (0 + ((j : Nat) : Int)), .int ((v : Nat) : Int)]) F = some (.lst (ps.map V.ref)) := by rw [upd_ne (ne_of_none hF7 hp)]; exact hF7
        have L8 := (L7.pick hs7 k7).same (same_new (o := .tup [.int (0 + ((j : Nat) : Int)), .int ((v : Nat) : Int)]) hp)
        have hlen : ps.length ≤ j := by
          have h1 := Paired.length hpr
          have h2 := cells_len g 0
          unfold kvF at h1
          rw [List.length_map] at h1
          omega
        refine ⟨F, _, _, rfl, rfl, hF8, by rw [List.length_map, sizeLine_eq]; omega, ?_⟩
        refine ⟨_, g ++ [some v], rfl, by rw [List.length_append, hgl] <;> rfl, fun u hu => ?_, ⟨ps ++ [pp], by rw [upd_same, List.map_append] <;> rfl, ?_⟩, L8.put hF8 nF.2⟩
        · rcases List.mem_append.mp hu with z | z
          · exact hsix u z
          · have e := Option.some.inj (List.mem_singleton.mp z)
            rw [e]
            exact hv
        · have e1 : kvF (cellsFromN 0 (g ++ [some v])) = kvF (cellsFromN 0 g) ++ [(Sum.inl ((j : Nat) : Int), V.int ((v : Nat) : Int))] := by
            rw [cellsFromN_app]
            show kvF (cellsFromN 0 g ++ [(0 + g.length, v)]) = _
            unfold kvF
            rw [List.map_append, Nat.zero_add, hgl]
            rfl
          rw [e1]
          have hpr2 : Paired (fun x kv => SqT K (upd (upd H7 pp (.tup [.int (0 + ((j : Nat) : Int)), .int ((v : Nat) : Int)])) F (.lst (ps.map V.ref ++ [V.ref pp]))) x [kV kv.1, kv.2]) ps (kvF (cellsFromN 0 g)) :=
            paired_imp (fun x kv h => sqt_put hF8 (G4.Same.seqT (same_new hp) (sqt_pick L7.src k7 (G4.Same.seqT (same_new hq) h)))) hpr
          refine paired_snoc ?_ hpr2
          refine sqt_put hF8 (SqT.of ?_)
          rw [upd_same, Int.zero_add]
          rfl
      · refine ifF (decide_eq_false fun z => c (V.int.inj z)) ?_
        exact ⟨_, g ++ [none], rfl, by rw [List.length_append, hgl] <;> rfl, fun v hv => hsix v (by simpa using hv), by rw [cellsFromN_app, List.append_nil]; exact hF6, L6⟩
    · obtain ⟨u6, g, rfl, hgl, hsix, hF5, L5⟩ := h
      subst hgl
      have hnd := cells_nodup g 0
      have hs6 : ∀ x ∈ cellsFromN 0 g, x.2 ∈ sixV := fun x hx => hsix _ (cells_key g 0 x hx).2.2
      have hread : gridR (gridText g.length wd (cellsFromN 0 g)) = .ok (g, wd) := grid_read (by omega) hw2 hsix
      have hT := gridText_len (w := wd) hs6 hn2
      have hD : toldD (gridText g.length wd (cellsFromN 0 g)) = gridD g.length wd (cellsFromN 0 g) := by
        unfold toldD
        rw [hread]
      obtain ⟨d1, d2, d3, d4⟩ := told_data (t := gridText g.length wd (cellsFromN 0 g)) (by omega)
      have d5 := d1
      have d6 := d2
      have d7 := d3
      have d8 := d4
      rw [hD] at d5 d6 d7 d8
      refine ⟨_, rfl, _, rfl, _, rfl, g.length, wd, F, cellsFromN 0 g, rfl, hF5, hnd, hs6, hn1, hn2, hw1, by omega, fun H6 s6 => ?_⟩
      have L6 := L5.same s6
      have hF6 := lstF_same s6 hF5
      clear L5 s6 hF5
      obtain ⟨ps, hps, hpr⟩ := id hF6
      refine ⟨_, rfl, _, rfl, _, rfl, F, _, rfl, SqL.of hps, fun l o hl ho1 ho2 => ?_⟩
      have L7 := L6.same (same_new (o := .frz o (.tup (ps.map V.ref))) hl)
      have hF7 := lstF_same (same_new (o := .frz o (.tup (ps.map V.ref))) hl) hF6
      refine ⟨g.length, wd, l, cellsFromN 0 g, rfl, ⟨o, ps, upd_same, ho1, ho2, pairs_same (same_new hl) hpr⟩, hnd, hs6, hn1, hn2, hw1, by omega, L7.tG, fun H8 k8 => ?_⟩
      have L8 := L7.kpG hne k8
      have hF8 := lstF_kpO L7.tG k8 hF7
      clear L7 hF7 k8 hl ho1 ho2 hF6 L6 hps hpr
      refine ⟨_, rfl, rfl, _, rfl, ifF (by simp) ?_⟩
      refine ⟨_, rfl, _, _, rfl, .inl rfl, by omega, L8.tT, fun v H9 k9 hv => ⟨v, _, rfl, hv, d1, d2, d3, d4, ?_⟩⟩
      have L9 := L8.kpT hne k9
      have hF9 := lstF_kpO L8.tT k9 hF8
      clear L8 hF8 k9 hv
      obtain ⟨ps9, hps9, hpr9⟩ := hF9
      refine ⟨_, rfl, _, rfl, _, rfl, F, _, rfl, SqL.of hps9, fun l2 o2 hl2 ho3 ho4 => ⟨(by show 3 ≤ sizeLine; decide), fun tp htp => ⟨(by show 1 ≤ sizeLine; decide), fun lp hlp => ?_⟩⟩⟩
      have s1 := same_new (o := .frz o2 (.tup (ps9.map V.ref))) hl2
      have s2 := same_new (o := .tup [.int ((g.length : Nat) : Int), .int ((wd : Nat) : Int), .ref l2]) htp
      have s3 := same_new (o := .lst [.ref tp]) hlp
      have L10 := L9.same ((s1.trans s2).trans s3)
      have hpr10 := pairs_same ((s1.trans s2).trans s3) hpr9
      refine ⟨_, gridD g.length wd (cellsFromN 0 g), rfl, ?_, d5, d6, d7, d8, ?_⟩
      · refine .lst (SqL.of upd_same) (.cons (.tup (SqT.of (s3 _ _ upd_same)) (.cons (.int _) (.cons (.int _) (.cons (.tup (.inl (.inr ⟨o2, s3 _ _ (s2 _ _ upd_same)⟩)) (pairs_dp hpr10)) .nil)))) .nil)
      refine ⟨rfl, _, rfl, ifF (by rw [hD]; simp) ?_⟩
      clear hpr10 s1 s2 d1 d2 d3 d4 d5 d6 d7 d8 hD hread hpr9 L9 hps9
      generalize upd _ lp _ = H11 at L10 ⊢
      clear s3 hlp htp hl2 ho3 ho4
      generalize gridText g.length wd (cellsFromN 0 g) = T at hT ⊢
      have hz : T.length ≤ sizeLine := by rw [sizeLine_eq]; omega
      refine ⟨4, rfl, by decide, by decide, for_range (n := 4) (fun j σ H' => ∃ v8 v9 v10 v11 v12 v13 v14 : Option V, σ = [some (.ref a), some (.ref d), some (.int (0 + ((i : Nat) : Int))), some (.int ((g.length : Nat) : Int)), some (.int ((wd : Nat) : Int)), some (.ref F), u6, some (.str T), v8, v9, v10, v11, v12, v13, v14, none] ∧ LI pT pG d cs H')
        ⟨v8, v9, v10, v11, v12, v13, v14, rfl, L10⟩ (fun j σ H' hj h => ?_) (fun σ H' h => ?_)⟩
      · obtain ⟨w8, w9, w10, w11, w12, w13, w14, rfl, L11⟩ := h
        refine ⟨_, rfl, _, rfl, T, rfl, hz, _, _, rfl, rfl, d, cs, _, rfl, L11.src, by omega, fun r1 H1 _ _ hs1 k1 => ?_⟩
        have L12 := L11.pick hs1 k1
        refine ⟨_, rfl, d, cs, 10, rfl, L12.src, by decide, fun r2 H2 _ hb2 hs2 k2 => ?_⟩
        have L13 := L12.pick hs2 k2
        obtain ⟨c, hc⟩ := sign_at (hb2 (by decide))
        refine ⟨_, _, c, rfl, rfl, (by decide +kernel), hc, _, _, rfl, ?_⟩
        have b0 : ((⟨#[c]⟩ : Str)).length = 1 := rfl
        have b1 := cutS_length T none (some r1)
        have b2 := cutS_length T (some r1) none
        have b3 := cutS_length T (some (r1 + 1)) none
        have b4 := app_len (cutS T none (some r1)) ⟨#[c]⟩
        refine ⟨_, rfl, _, rfl, _, rfl, T, rfl, hz, _, rfl, _, _, rfl, rfl, by rw [sizeLine_eq]; omega, ?_⟩
        refine ⟨_, rfl, _, rfl, _, rfl, T, rfl, hz, _, _, rfl, rfl, by rw [b4, sizeLine_eq]; omega, ?_⟩
        -- the second
        refine ⟨_, rfl, _, rfl, _, rfl, T, rfl, hz, _, rfl, _, rfl, _, _, rfl, rfl, _, rfl, T, rfl, hz, _, _, rfl, rfl, by rw [sizeLine_eq]; omega, ?_⟩
        -- the third
        refine ⟨_, rfl, _, rfl, _, rfl, T, rfl, hz, _, rfl, _, _, rfl, rfl, by rw [sizeLine_eq]; omega, ?_⟩
        refine ⟨_, rfl, _, rfl, _, _, rfl, rfl, _, rfl, T, rfl, hz, _, _, rfl, rfl, by rw [b4, sizeLine_eq]; omega, ?_⟩
        -- the fourth
        refine ⟨_, rfl, _, rfl, _, rfl, T, rfl, hz, (by show 4 ≤ sizeLine; decide), fun sl hsl => ?_⟩
        have L14 := L13.same (same_new (o := .lst [.str ((cutS T none (some r1) ++ ⟨#[c]⟩) ++ cutS T (some r1) none), .str (cutS T none (some r1) ++ cutS T (some (r1 + 1)) none), .str ((cutS T none (some r1) ++ ⟨#[c]⟩) ++ cutS T (some (r1 + 1)) none), .str (cutS T none (some r1))]) hsl)
        have nsl := src_ne L13.src hsl
        refine ⟨_, rfl, _, rfl, d, cs, 4, rfl, L14.src, by decide, fun r3 H4 _ hb4 hs4 k4 => ?_⟩
        have L15 := L14.pick hs4 k4
        have hsl4 := k4 sl _ nsl.1 nsl.2 upd_same
        obtain ⟨near, hnear, hat⟩ := four_at (m := 7000) (s1 := (cutS T none (some r1) ++ ⟨#[c]⟩) ++ cutS T (some r1) none) (s2 := cutS T none (some r1) ++ cutS T (some (r1 + 1)) none) (s3 := (cutS T none (some r1) ++ ⟨#[c]⟩) ++ cutS T (some (r1 + 1)) none) (s4 := cutS T none (some r1)) (hb4 (by decide)) (by rw [app_len, b4]; omega) (by rw [app_len]; omega) (by rw [app_len, b4]; omega) (by omega)
        refine ⟨sl, _, _, _, rfl, rfl, SqL.of hsl4, hat, ?_⟩
        clear hat hsl4 L14 L13 L12 L11 hs1 k1 hs2 k2 hs4 k4 hsl nsl b0 b1 b2 b3 b4
        obtain ⟨d1, d2, d3, d4⟩ := told_data (t := near) (by omega)
        have hwg := walk_grid near
        refine ⟨_, rfl, near, rfl, by omega, fun e he tp H5 s5 ntp htp => ?_, fun ss w2 hok tp gq H5 s5 ntp htp hgq => ?_⟩
        · have L16 := L15.same s5
          rw [he] at hwg
          have hD : toldD near = iD e := by
            unfold toldD
            rw [hwg]
          refine ⟨tp, _, rfl, SqT.of htp, rfl, _, _, rfl, _, _, rfl, rfl, ?_⟩
          refine ⟨_, rfl, _, near, rfl, .inl rfl, by omega, L16.tT, fun v H6 k6 hv => ⟨v, _, rfl, hv, d1, d2, d3, d4, ?_⟩⟩
          have L17 := L16.kpT hne k6
          rw [hD] at d1 d2 d3 d4
          refine ⟨_, rfl, _, rfl, ifF (by simp) ⟨_, rfl, _, iD e, rfl, .int _, d1, d2, d3, d4, rfl, _, rfl, ifF (by rw [hD]; simp) ?_⟩⟩
          exact ⟨_, _, _, _, _, _, _, rfl, L17⟩
        · have L16 := L15.same s5
          rw [hok] at hwg
          have hD : toldD near = gridD ss.length w2 (cellsFromN 0 (ss.map wordV)) := by
            unfold toldD
            rw [hwg]
            show gridD (ss.map wordV).length w2 (cellsFromN 0 (ss.map wordV)) = _
            rw [List.length_map]
          refine ⟨tp, _, rfl, SqT.of htp, rfl, _, _, rfl, _, _, rfl, rfl, ?_⟩
          refine ⟨_, rfl, _, near, rfl, .inl rfl, by omega, L16.tT, fun v H6 k6 hv => ⟨v, _, rfl, hv, d1, d2, d3, d4, ?_⟩⟩
          have L17 := L16.kpT hne k6
          rw [hD] at d1 d2 d3 d4
          refine ⟨_, rfl, _, rfl, ifT (by simp) ⟨_, rfl, (by show 1 ≤ sizeLine; decide), fun q hq => ?_⟩⟩
          have L18 := L17.same (same_new (o := .lst [.ref gq]) hq)
          refine ⟨_, gridD ss.length w2 (cellsFromN 0 (ss.map wordV)), rfl, .lst (SqL.of upd_same) (.cons (dp_keep (keepD_same (same_new hq)) _ _ (dp_keep (keepD_kpO L16.tT k6) _ _ (dp_grid hgq))) .nil), d1, d2, d3, d4, rfl, _, rfl, ifF (by rw [hD]; simp) ?_⟩
          exact ⟨_, _, _, _, _, _, _, rfl, L18⟩
      · obtain ⟨w8, w9, w10, w11, w12, w13, w14, rfl, L11⟩ := h
        exact ⟨⟨_, _, _, _, _, _, _, _, _, _, _, _, _, rfl⟩, L11⟩
  · obtain ⟨⟨v2, v3, v4, v5, v6, v7, v8, v9, v10, v11, v12, v13, v14, rfl⟩, L⟩ := h
    refine fun p1 vs1 H1 s1 n1 h1 x1 => ⟨_, rfl, fun p2 vs2 H2 s2 n2 h2 x2 => ⟨p1, p2, vs1, vs2, rfl, rfl, s2 _ _ h1, h2, ?_, fun p3 n3 => ⟨_, rfl, fun p4 vs4 H4 s4 n4 h4 x4 => ⟨p3, p4, vs1 ++ vs2, vs4, rfl, rfl, s4 _ _ upd_same, h4, ?_, fun p5 n5 => ?_⟩⟩⟩⟩
    · rw [lxAll_len x1, lxAll_len x2]
      decide
    · rw [List.length_append, lxAll_len x1, lxAll_len x2, lxAll_len x4]
      decide
    have s3 := same_new (o := .lst (vs1 ++ vs2)) n3
    have s5 := same_new (o := .lst ((vs1 ++ vs2) ++ vs4)) n5
    have LL := L.same ((((s1.trans s2).trans s3).trans s4).trans s5)
    have xs : LxAll (upd H4 p5 (.lst ((vs1 ++ vs2) ++ vs4))) ((vs1 ++ vs2) ++ vs4) ((rowsD1 ++ rowsD2) ++ rowsD3) :=
      lxAll_app (lxAll_app (lxAll_keep (keepD_same (((s2.trans s3).trans s4).trans s5)) _ _ x1) (lxAll_keep (keepD_same ((s3.trans s4).trans s5)) _ _ x2)) (lxAll_keep (keepD_same s5) _ _ x4)
    have hp5 : upd H4 p5 (.lst ((vs1 ++ vs2) ++ vs4)) p5 = some (.lst ((vs1 ++ vs2) ++ vs4)) := upd_same
    clear s3 s5 n5 h4 x4 n4 s4 n3 h2 x2 n2 s2 h1 x1 n1 s1 L
    generalize upd H4 p5 (.lst ((vs1 ++ vs2) ++ vs4)) = H6 at LL xs hp5 ⊢
    generalize (vs1 ++ vs2) ++ vs4 = us at xs hp5 ⊢
    refine ⟨_, rfl, p5, rfl, ⟨_, SqL.of hp5⟩, for_list (K := K) (a := p5) (xs := us) (fun j σ H' => ∃ u7 u14 : Option V, σ = [some (.ref a), some (.ref d), v2, v3, v4, v5, v6, u7, v8, v9, v10, v11, v12, v13, u14, some (.ref p5)] ∧ H' p5 = some (.lst us) ∧ LxAll H' us ((rowsD1 ++ rowsD2) ++ rowsD3) ∧ LI pT pG d cs H')
      ⟨v7, v14, rfl, hp5, xs, LL⟩ (fun j σ H' _ h => ?_) (fun j x σ H' hx h => ?_) (fun σ H' h => ?_)⟩
    · obtain ⟨u7, u14, rfl, hp6, _, _⟩ := h
      exact SqL.of hp6
    · obtain ⟨u7, u14, rfl, hp6, xs6, L6⟩ := h
      obtain ⟨dd, hm, lx⟩ := lxAll_get xs6 hx
      obtain ⟨dt, t, hdt, htl, hrow⟩ := rows_all dd hm
      have e1 : ∃ due, dd = .list [dt, due] := by
        rcases hrow with ⟨e, _, z⟩ | ⟨f, w2, _, z⟩
        · exact ⟨_, z⟩
        · exact ⟨_, z⟩
      obtain ⟨due, e1⟩ := e1
      subst e1
      cases lx with
      | @lst r xs _ hr hall =>
        cases hall with
        | @cons y ys _ _ hy hys =>
          cases hys with
          | @cons z zs _ _ hz hzs =>
            cases hzs
            have hG : Given H' y t := by
              rcases hdt with e | ⟨e, e2 | e2⟩
              · subst e
                cases hy
                exact .inl rfl
              · subst e2
                cases hy
                exact .inr ⟨e, .inl rfl⟩
              · subst e2
                cases hy with
                | lst ha hb => exact .inr ⟨e, .inr ⟨_, _, rfl, ha⟩⟩
            refine ⟨r, _, rfl, SqL.of hr, rfl, _, _, rfl, _, _, rfl, rfl, ?_⟩
            obtain ⟨d1, d2, d3, d4⟩ := told_data (t := t) (by omega)
            refine ⟨_, rfl, y, t, rfl, hG, by omega, L6.tT, fun v H7 k7 hv => ⟨v, _, rfl, hv, d1, d2, d3, d4, ?_⟩⟩
            have L7 := L6.kpT hne k7
            have hp7 := k7.2 p5 _ (tabG_ne L6.tT hp6 fun q z => by cases z) hp6
            have xs7 := lxAll_keep (keepD_kpO L6.tT k7) _ _ xs6
            have hz7 := lx_keep (keepD_kpO L6.tT k7) _ _ hz
            rcases hrow with ⟨e, hgr, z1⟩ | ⟨found, w2, hgr, z1⟩
            · have z2 : due = iD e := by injection z1 with z1; injection z1 with _ z1; injection z1
              subst z2
              have hD : toldD t = iD e := by
                unfold toldD
                rw [hgr]
              rw [hD] at d1 d2 d3 d4
              cases hz7
              refine ⟨_, rfl, _, _, _, _, false, rfl, .ty _, .base (.int _), kit_ty (by decide +kernel), _, rfl, iteF ?_⟩
              refine ⟨_, rfl, _, iD e, rfl, .int _, d1, d2, d3, d4, rfl, _, rfl, ifF (by rw [hD]; simp) ?_⟩
              exact ⟨_, _, rfl, hp7, xs7, L7⟩
            · have z2 : due = .tuple [iD found.length, iD w2, .tuple ((cellsFromN 0 found).map pairD)] := by injection z1 with z1; injection z1 with _ z1; injection z1
              subst z2
              have hD : toldD t = gridD found.length w2 (cellsFromN 0 found) := by
                unfold toldD
                rw [hgr]
              rw [hD] at d1 d2 d3 d4
              have dz := lx_dp (K := K) _ _ hz7
              cases hz7 with
              | @tup q7 xs8 _ h8 h9 =>
                refine ⟨_, rfl, _, _, _, _, true, rfl, .ty _, .base (.tup h8), kit_ty (by decide +kernel), _, rfl, iteT ?_⟩
                refine ⟨_, rfl, (by show 1 ≤ sizeLine; decide), fun l hl => ?_⟩
                have s8 := same_new (o := .lst [.ref q7]) hl
                refine ⟨_, gridD found.length w2 (cellsFromN 0 found), rfl, .lst (SqL.of upd_same) (.cons (dp_keep (keepD_same s8) _ _ dz) .nil), d1, d2, d3, d4, rfl, _, rfl, ifF (by rw [hD]; simp) ?_⟩
                exact ⟨_, _, rfl, s8 _ _ hp7, lxAll_keep (keepD_same s8) _ _ xs7, L7.same s8⟩
    · exact k H'
end
end G4

set_option Elab.async false
set_option linter.all false
set_option maxRecDepth 100000
set_option maxHeartbeats 4000000
namespace G4
open PySem PySem.Spec PyProof.Rows L2
/-! the end, where what is around the law's call is known: nothing is being shown -/
abbrev eTab : Obj := { cls := .none, data := .fields #[] }
/-- what is tracked as the law is called: tables, the script (if it is not written) -/
def hpE (K : PySem.W.Frag) (a : Addr) (o : Obj) (xs : List V) (ts : List Addr) : Hp := fun b =>
  if b ∈ ts then some (.tbl #[]) else if b = a ∧ K.lookup a = none then some (.frz o (.lst xs)) else none
theorem hpE_tab {K : PySem.W.Frag} {a : Addr} {o : Obj} {xs : List V} {ts : List Addr} {b : Addr} (h : b ∈ ts) : hpE K a o xs ts b = some (.tbl #[]) := if_pos h
theorem hpE_inv {K : PySem.W.Frag} {a : Addr} {o : Obj} {xs : List V} {ts : List Addr} {b : Addr} {u : HO} (h : hpE K a o xs ts b = some u) : (b ∈ ts ∧ u = .tbl #[]) ∨ (b ∉ ts ∧ b = a ∧ K.lookup a = none ∧ u = .frz o (.lst xs)) := by
  by_cases c : b ∈ ts
  · rw [hpE_tab c] at h
    exact .inl ⟨c, (Option.some.inj h).symm⟩
  · have e : hpE K a o xs ts b = if b = a ∧ K.lookup a = none then some (.frz o (.lst xs)) else none := if_neg c
    rw [e] at h
    by_cases c2 : b = a ∧ K.lookup a = none
    · rw [if_pos c2] at h
      exact .inr ⟨c, c2.1, c2.2, (Option.some.inj h).symm⟩
    · rw [if_neg c2] at h
      cases h
section
variable {P : Program} {w : World} {K : PySem.W.Frag} {mg mb : Str → Option Value} {fa a : Addr} {cs : List (Addr × Addr)} {s : Shared} {us : List Value} {ns : List Int}
theorem call_end (KX : K.In s.heap) (hG : s.heap.Ns mainGlobals mg) (hB : s.heap.Ns builtinsNs mb) (hBB : ∀ x : Str, x ≠ "__name__" → mb x = bootBuiltins x) (hL : s.heap.NoLimit) (hgen : s.gens = #[])
    (tE : ∀ p ∈ cs, s.heap.get? p.2 = some eTab) (tK : ∀ p ∈ cs, K.lookup p.2 = none) (tC : ∀ p ∈ cs, PySem.W.CodeHd s.heap p.1 p.2)
    (hmod : ∃ (m : Addr) (ob : Obj), mg "__builtins__" = some (.ref m) ∧ m ≠ builtinsNs ∧ s.heap.get? m = some ob ∧ ob.cls = .type "module" ∧ ob.dict = some builtinsNs ∧ ob.data = .plain)
    (hs : s.heap.get? a = some { cls := .type "list", data := .seq us.toArray }) (hi : IntsAre us ns) (hn : ns.length ≤ 63)
    (run : ∀ (H : Hp) (base : Heap), Env0 P w K mg base callerA [] s H → (∀ p ∈ cs, GxR.TabB base mg p.1 p.2) → (∀ p ∈ cs, H p.2 = some (.tbl #[])) → SqL K H a (ns.map V.int) →
      codeAny (model P w) callerA (.call (.ref fa) ⟨[.ref a], []⟩) (CR CX0 [] P w H s (fun v _ => v = .bl true) E0) s) :
    codeAny (model P w) callerA (.call (.ref fa) ⟨[.ref a], []⟩) (fun r s' => r = .ok (.ret (.bool true)) ∧ OldK s.heap s'.heap ∧ s'.os = s.os ∧ AllBare s'.gens) s := by
  have tt : ∀ b ∈ cs.map (·.2), s.heap.get? b = some eTab ∧ K.lookup b = none := fun b hb => by
    obtain ⟨p, hp, rfl⟩ := List.mem_map.mp hb
    exact ⟨tE p hp, tK p hp⟩
  have into : ∀ p ∈ cs, p.2 ∈ cs.map (·.2) := fun p hp => List.mem_map_of_mem hp
  generalize hHe : hpE K a { cls := .type "list", data := .seq us.toArray } (ns.map V.int) (cs.map (·.2)) = H
  have inv : ∀ {b : Addr} {u : HO}, H b = some u → (b ∈ cs.map (·.2) ∧ u = .tbl #[]) ∨ (b ∉ cs.map (·.2) ∧ b = a ∧ K.lookup a = none ∧ u = .frz { cls := .type "list", data := .seq us.toArray } (.lst (ns.map V.int))) := fun {b u} e => by
    rw [← hHe] at e
    exact hpE_inv e
  have rv : Vals (ns.map V.int) us := vals_ints hi
  -- what is neither a table nor a list is not tracked
  have off : ∀ {b : Addr} {o : Obj}, s.heap.get? b = some o → o.data ≠ .fields #[] → (∀ xs n, o.data ≠ .seq xs n) → H b = none := fun {b o} e n1 n2 => by
    cases q : H b with
    | none => rfl
    | some u =>
      rcases inv q with ⟨m, _⟩ | ⟨_, m, _⟩
      · rw [(tt b m).1] at e
        exact absurd (congrArg Obj.data (Option.some.inj e)).symm n1
      · rw [m, hs] at e
        exact absurd (congrArg Obj.data (Option.some.inj e)).symm (n2 _ _)
  have nsB : ∀ {b : Addr} {m : Str → Option Value}, s.heap.Ns b m → (hidT s.heap H).Ns b m := fun ⟨o, es, ep, e, d, r⟩ =>
    ⟨o, es, ep, hidT_get e (off e (by rw [d]; exact fun z => nomatch z) (by rw [d]; exact fun _ _ z => nomatch z)), d, r⟩
  have kB : K.In (hidT s.heap H) := fun b o e => hidT_get (KX b o e) (by
    cases q : H b with
    | none => rfl
    | some u =>
      rcases inv q with ⟨m, _⟩ | ⟨_, m, z, _⟩
      · rw [(tt b m).2] at e
        cases e
      · rw [m, z] at e
        cases e)
  have md : L2.Mod K mg (hidT s.heap H) := ⟨kB, nsB hG, ⟨mb, nsB hB, hBB⟩, hL.elim fun m h => ⟨m, nsB h.1, h.2⟩⟩
  have hok : HOk P w H s.heap := fun b u e => by
    rcases inv e with ⟨m, rfl⟩ | ⟨_, rfl, _, rfl⟩
    · exact (tt b m).1
    · exact ⟨hs, by rw [List.length_map, sizeLine_eq]; omega, us, _, rv, hs⟩
  have env : Env0 P w K mg (hidT s.heap H) callerA [] s H := by
    refine ⟨rfl, md, fun b o e => of_hidT e, Nat.le_of_eq (hidT_size _ _), trivial, fun b hb => ?_, hok, .of_eq hgen⟩
    cases hb
  have tab : ∀ p ∈ cs, GxR.TabB (hidT s.heap H) mg p.1 p.2 := fun p hp => by
    refine ⟨?_, ?_, fun z => ?_⟩
    · obtain ⟨o, vs, r1, r2, r3, r4, r5, r6, r7, e, q1, q2, q3, rest⟩ := tC p hp
      refine ⟨o, vs, r1, r2, r3, r4, r5, r6, r7, hidT_get e (off e (fun z => ?_) fun xs n z => ?_), q1, q2, q3, rest⟩
      · rw [q2] at z
        cases z
        simp at q3
      · rw [q2] at z
        cases z
    · obtain ⟨m, ob, b1, b2, b3, b4, b5, b6⟩ := hmod
      refine ⟨m, ob, b1, b2, fun z => ?_, fun z => ?_, hidT_get b3 (off b3 (by rw [b6]; exact fun z => nomatch z) (by rw [b6]; exact fun _ _ z => nomatch z)), b4, b5, b6⟩
      · obtain ⟨o, es, ep, e, d, _⟩ := hG
        rw [z, e] at b3
        rw [← Option.some.inj b3, d] at b6
        cases b6
      · rw [z, tE p hp] at b3
        rw [← Option.some.inj b3] at b6
        cases b6
    · obtain ⟨o, es, ep, e, d, _⟩ := hG
      rw [z, tE p hp] at e
      rw [← Option.some.inj e] at d
      cases d
  have scr : SqL K H a (ns.map V.int) := by
    cases q : K.lookup a with
    | some o =>
      have e := KX a o q
      rw [hs] at e
      exact .inr ⟨o, us.toArray, _, q, by rw [← Option.some.inj e], by rw [← Option.some.inj e], by rw [← Option.some.inj e], by rw [List.size_toArray, ← rv.length, List.length_map, sizeLine_eq]; omega, by simpa using rv⟩
    | none =>
      refine .inl (.inr ⟨{ cls := .type "list", data := .seq us.toArray }, ?_⟩)
      have na : a ∉ cs.map (·.2) := fun z => by
        have e := (tt a z).1
        rw [hs] at e
        cases congrArg Obj.data (Option.some.inj e)
      rw [← hHe]
      exact (if_neg na).trans (if_pos ⟨rfl, q⟩)
  refine codeAny_mono (run H _ env tab (fun p hp => by rw [← hHe]; exact hpE_tab (into p hp)) scr) fun r s' hr => ?_
  match r, hr with
  | .ok (.ret u), ⟨v, H', os, bare, un, hok', rel, q⟩ =>
    subst q
    have eu : u = Value.bool true := rel
    subst eu
    have same : ∀ b o, b ∉ cs.map (·.2) → s.heap.get? b = some o → s'.heap.get? b = some o := fun b o nb e => by
      cases z : H b with
      | none => exact un.keep b o e z (fun m => nomatch m) (fun m => nomatch m)
      | some u =>
        rcases inv z with ⟨m, _⟩ | ⟨_, _, _, ez⟩
        · exact absurd m nb
        · rw [ez] at z
          have i1 := (hok b _ z).1
          rw [e] at i1
          rw [i1]
          exact (hok' b _ (un.frzs b _ _ z)).1
    have more : ∀ b ∈ cs.map (·.2), ∃ m : Array Value, s'.heap.get? b = some { cls := .none, data := .fields m } := fun b hb => by
      obtain ⟨m, z⟩ := un.tbls b #[] (by rw [← hHe]; exact hpE_tab hb)
      exact ⟨_, hok' b _ z⟩
    refine ⟨rfl, ⟨fun b o e => ?_, fun b o e => ?_⟩, os, bare⟩
    · by_cases hb : b ∈ cs.map (·.2)
      · obtain ⟨p, hp, ep⟩ := List.mem_map.mp hb
        obtain ⟨m, hm⟩ := more b hb
        have e2 := (tt b hb).1
        rw [e] at e2
        have e3 := Option.some.inj e2
        subst e3
        refine .inr (.inl ⟨?_, rfl, #[], m, rfl, by rw [Array.empty_append]; exact hm⟩)
        rw [← ep]
        exact ((tC p hp).tab (tE p hp)).isCodeTable
      · exact .inl (same b o hb e)
    · by_cases hb : b ∈ cs.map (·.2)
      · obtain ⟨m, hm⟩ := more b hb
        exact ⟨_, hm⟩
      · exact ⟨o, same b o hb e⟩
end
end G4

set_option Elab.async false
set_option linter.all false
set_option maxRecDepth 100000
set_option maxHeartbeats 4000000
namespace G4
open PySem PySem.Spec PyProof.Rows L2
section
variable {P : Program} {w : World} {K : PySem.W.Frag} {mg : Str → Option Value} {base : Heap} {f : Addr} {fd : FuncData}
/-- a def's call where all that is around it is known -/
theorem run_at {A : Around} {x qual : Str} {st : Stmt} {N ps : List Str} {sp : Sp} {k : Nat} (F : Fun K x qual st f fd) (S : FnScope N ps (defScope st)) (hr : Room (k + 1) A) {s : Shared} {H : Hp} {as : Args} {us : List Value} {vs : List V} {Q : VK} {E : XK} {outer : List Env}
    (body : ∀ (cdv : Value), Room k (A.deeper (envOfC qual (defScope st) s.heap.objs.size f cdv)) → ∃ t, PSs (cxOf CX0 P w K mg base N qual (defScope st) f cdv A outer s H E).nox (defBody st) t ∧ t { nx := fun _ H' => Q .non H', rt := Q } (start N vs) H)
    (hl : vs.length = ps.length) (env : Env0 P w K mg base A outer s H) (hb : BindsTo s fd as (ps.zip us)) (rv : Vals vs us) : codeAny (model P w) A (.call (.ref f) as) (CR CX0 outer P w H s Q E) s := by
  obtain ⟨oc, od, kV, doc, pm, an, cdv, ct, osl, rfl, lk, hcd⟩ := F.ex
  obtain ⟨t, ht, hq⟩ := body cdv (hr.deeper _)
  have old : ∀ b o, base.get? b = some o → s.heap.get? b = some o := fun b o e => (env.bs b o e).1
  have kin : K.In s.heap := env.mod.kin.keeps old
  have kinds : ∀ y ∈ ps.zip us, (defScope st).names.lookup y.1 = some .local ∨ ((defScope st).names.lookup y.1 = some .cell ∧ ((cellsFrom (s.heap.objs.size + 1) (defScope st).names []).lookup y.1).isSome = true) := fun y hy =>
    (S.par y.1 (List.of_mem_zip hy).1).imp id fun z => ⟨z, PySem.W.cellsFrom_some _ _ _ (.inl z)⟩
  refine codeAny_call_function hr.depth (kin _ _ lk) rfl S.co S.gen rfl (PySem.W.codeRec_of kin hcd) (hb _ _ _ _ (wpAny_newFunctionEnv_cells S.kind kinds fun e he s1 new => ?_))
  subst he
  refine ⟨(env.mod.nolimit.keeps old).keeps new.toInCall.keep, codeAny_func (wpAny_mono (ht.nox.run [] s1 (start N vs) H _ (inv_start S hr.hd env hl rv new) hq) (fun r s' h => ?_) fun _ _ h => h)⟩
  have out : ∀ {σ' : L2.St} {H' : Hp} {v : V} {u : Value}, Inv (cxOf CX0 P w K mg base N qual (defScope st) f cdv A outer s H E) [] σ' H' s' → RelV v u → Q v H' → CE outer P w H s Q u s' := fun J e q => ⟨_, _, J.os, J.bare, J.base, J.hok, e, q⟩
  cases r with
  | ret u =>
    obtain ⟨v, σ', H', J, e, q⟩ := h
    exact out J e q
  | next =>
    obtain ⟨σ', H', J, q⟩ := h
    exact out (v := V.non) (u := Value.none) J rfl q
  | brk =>
    obtain ⟨_, _, _, q⟩ := h
    exact q.elim
  | cont =>
    obtain ⟨_, _, _, q⟩ := h
    exact q.elim
end
end G4

set_option Elab.async false
set_option linter.all false
set_option maxRecDepth 100000
set_option maxHeartbeats 0
namespace G4
open PySem PySem.Spec PyProof.Rows L2
/-! what the head tells -/
def excB (C : Addr) : Obj → Bool
  | ⟨.type t, _, .cls ⟨_, _, .ref C' :: bm, _, _, hd, _, _, _, _, del⟩, ⟨[_, _, _, _, some (.builtin n), _]⟩⟩ => decide (t = "type") && (C' == C && (decide (n = "ValueError.__new__") && (!del && (hd && PySem.HandSPX.refsVE bm))))
  | _ => false
theorem excB_ok {C : Addr} {o : Obj} (h : excB C o = true) : ∃ nm q N bs bm sn sub ab col dd k0 k1 k2 k3 k5, o = excClassObj nm q C N bs bm true sn sub ab col dd k0 k1 k2 k3 k5 "ValueError.__new__" ∧ PySem.HandSPX.refsVE bm = true := by
  unfold excB at h
  split at h
  · simp only [Bool.and_eq_true, beq_iff_eq, Bool.not_eq_true', decide_eq_true_eq] at h
    obtain ⟨rfl, rfl, rfl, rfl, rfl, h⟩ := h
    exact ⟨_, _, _, _, _, _, _, _, _, _, _, _, _, _, _, rfl, h⟩
  · cases h
def excAt (K : PySem.W.Frag) (C : Addr) : Bool := match K.lookup C with
  | some o => excB C o
  | none => false
def nB : Str := "BadText"
def nP : Str := "PuzzleError"
abbrev aB (K : PySem.W.Frag) : Addr := He.ga K nB
abbrev aP (K : PySem.W.Frag) : Addr := He.ga K nP
abbrev aI (K : PySem.W.Frag) : Addr := He.ma K (aB K) "__init__"
def exK (K : PySem.W.Frag) : Bool :=
  excAt K (aB K) && (He.eqO (PySem.W.findIn K (.ref (aB K)) "__setattr__") (some (some (.builtin "object.__setattr__"))) && (decide (PySem.W.subIn K (.ref (aB K)) (.type "BaseException") = some true) && (decide (PySem.W.typeIn K (.ref (aB K)) = some (.type "type")) && (PySem.W.keepIn K (.ref (aB K)) &&
  (He.eqO (PySem.W.findIn K (.ref (aB K)) "__init__") (some (some (.ref (aI K)))) && (decide (PySem.W.typeIn K (.ref (aI K)) = some (.type "function")) && (He.eqO (PySem.W.findIn K (.ref (aB K)) "place") (some none) &&
  (He.eqO (PySem.W.findIn K (.ref (aB K)) "__getattribute__") (some (some (.builtin "BaseException.__getattribute__"))) && (He.eqO (PySem.W.findIn K (.ref (aB K)) "__getattr__") (some none) && (PySem.W.hasDictIn K (aB K) &&
  (He.eqO (PySem.W.findIn K (.ref (aB K)) "__class__") (some (some (.builtin "object.__class__"))) && (He.eqO (PySem.W.specialIn K (.builtin "object.__class__") "__get__") (some (some (.builtin "getset_descriptor.__get__"))) && (decide (PySem.W.takesIn K (.builtin "object.__class__") = some true) && (decide (PySem.W.mroIn K (aB K) (.type "object") = some true) &&
  decide (PySem.W.kitOne K (.ref (aB K)) (.ref (aP K)) = some true)))))))))))))))
structure ExK (K : PySem.W.Frag) : Prop where
  oex : OexC K (aB K)
  iC : PySem.W.findIn K (.ref (aB K)) "__init__" = some (some (.ref (aI K)))
  tI : PySem.W.typeIn K (.ref (aI K)) = some (.type "function")
  noP : PySem.W.findIn K (.ref (aB K)) "place" = some none
  xf : XfC K (aB K)
  exc : ExcC K (aB K)
  kit : PySem.W.kitOne K (.ref (aB K)) (.ref (aP K)) = some true
theorem exK_ok {K : PySem.W.Frag} (h : exK K = true) : ExK K := by
  obtain ⟨h1, h⟩ := He.ba h
  obtain ⟨h2, h⟩ := He.ba h
  obtain ⟨h3, h⟩ := He.ba h
  obtain ⟨h4, h⟩ := He.ba h
  obtain ⟨h5, h⟩ := He.ba h
  obtain ⟨h6, h⟩ := He.ba h
  obtain ⟨h7, h⟩ := He.ba h
  obtain ⟨h8, h⟩ := He.ba h
  obtain ⟨h9, h⟩ := He.ba h
  obtain ⟨ha, h⟩ := He.ba h
  obtain ⟨hb, h⟩ := He.ba h
  obtain ⟨hc, h⟩ := He.ba h
  obtain ⟨hd, h⟩ := He.ba h
  obtain ⟨he, h⟩ := He.ba h
  obtain ⟨hf, hg⟩ := He.ba h
  have c : ∃ nm q N bs bm sn sub ab col dd k0 k1 k2 k3 k5, K.lookup (aB K) = some (excClassObj nm q (aB K) N bs bm true sn sub ab col dd k0 k1 k2 k3 k5 "ValueError.__new__") ∧ PySem.HandSPX.refsVE bm = true := by
    unfold excAt at h1
    cases q : K.lookup (aB K) with
    | none =>
      rw [q] at h1
      cases h1
    | some o =>
      rw [q] at h1
      obtain ⟨nm, q1, N, bs, bm, sn, sub, ab, col, dd, k0, k1, k2, k3, k5, e, r⟩ := excB_ok h1
      exact ⟨nm, q1, N, bs, bm, sn, sub, ab, col, dd, k0, k1, k2, k3, k5, by rw [e], r⟩
  have d3 := of_decide_eq_true h3
  exact ⟨⟨c, He.eqO_ok h2, d3, of_decide_eq_true h4, h5⟩, He.eqO_ok h6, of_decide_eq_true h7, He.eqO_ok h8, ⟨He.eqO_ok h9, He.eqO_ok ha, d3, hb⟩,
    ⟨He.eqO_ok h9, He.eqO_ok ha, d3, hb, He.eqO_ok hc, He.eqO_ok hd, of_decide_eq_true he, of_decide_eq_true hf⟩, of_decide_eq_true hg⟩
/-! the names, the defs -/
def dfn (at_ : Str × Option Str) (name qual : Str) (st : Stmt) : He.DefD := ⟨at_, name, qual, defArgs st, defBody st, defScope st, [], []⟩
def glN : List Str := ["copied", "BadText", "PuzzleError", "Reader", "grid_text", "_read_place", "_read_grid_row", "read_grid", "_law_open_cells", "_law_pick", "_law_read_told", "_law_grid_lines", "_law_grid_walk", "law"]
def frN : List Str := ["isinstance", "list", "tuple", "dict", "str", "len", "any", "int", "enumerate", "range", "abs", "min", "repr"]
def meN : List Str := ["ends", "sees", "sees_digit", "take", "number", "shut"]
def fa : List He.Fa := glN.map .glo ++ frN.map .free ++ meN.map (.meth "Reader") ++ [.cls "Reader", .noat "Reader" "text", .noat "Reader" "place", .mkr "Reader", .exm "BadText" "BadText" true]
def fn : List He.DefD := [dfn ("copied", none) "copied" "copied" sCopied, dfn ("BadText", some "__init__") "__init__" "BadText.__init__" sBadInit, dfn ("Reader", some "__init__") "__init__" "Reader.__init__" sRInit,
  dfn ("Reader", some "ends") "ends" "Reader.ends" sEnds, dfn ("Reader", some "sees") "sees" "Reader.sees" sSees, dfn ("Reader", some "sees_digit") "sees_digit" "Reader.sees_digit" sDigit, dfn ("Reader", some "take") "take" "Reader.take" sTake,
  dfn ("Reader", some "number") "number" "Reader.number" sNumber, dfn ("Reader", some "shut") "shut" "Reader.shut" sShut, dfn ("grid_text", none) "grid_text" "grid_text" sGridText, dfn ("_read_place", none) "_read_place" "_read_place" sPlace,
  dfn ("_read_grid_row", none) "_read_grid_row" "_read_grid_row" sRow, dfn ("read_grid", none) "read_grid" "read_grid" sRead, dfn ("_law_open_cells", none) "_law_open_cells" "_law_open_cells" sOpen, dfn ("_law_pick", none) "_law_pick" "_law_pick" sPick,
  dfn ("_law_read_told", none) "_law_read_told" "_law_read_told" sTold, dfn ("_law_grid_lines", none) "_law_grid_lines" "_law_grid_lines" sLines, dfn ("_law_grid_walk", none) "_law_grid_walk" "_law_grid_walk" sWalk, dfn ("law", none) "law" "law" sLaw]
def tf : List He.Defn := [("Reader", some "take"), ("grid_text", none)]
/-- the two tables are not one -/
def exK2 (K : PySem.W.Frag) : Bool := exK K && decide (¬ (He.cT K ("Reader", some "take")).2 = (He.cT K ("grid_text", none)).2)
def loN : List Str := ["copied", "PuzzleError", "BadText", "Reader", "grid_text", "_read_place", "_read_grid_row", "read_grid", "_law_open_cells", "_law_pick", "_law_read_told", "_law_grid_lines", "_law_grid_walk"]
abbrev R : PySem.W.OpenRow := PySem.W.OpenLaw.row PySem.Challenge.rw_toldreasons_k04_grids
abbrev hk : PySem.W.Hook := He.hookX 5 fa fn [] tf exK2
def ob (s : PySem.W.SharedT) : He.AlX := He.obsX 5 fa fn [] tf exK2 (HandSHeadRun.getT s)
theorem ob_eq (s : PySem.W.SharedT) : ob s = hk.obs s.abs := He.obsX_eq (HandSHeadRun.getT_eq s)
theorem run (w : World) : HandSHeadRun.RunEq R (PySem.W.view R.prog [16]) hk ob 3000 loN w := by
  intro os
  kernel_rfl
end G4

set_option Elab.async false
set_option linter.all false
set_option maxRecDepth 100000
set_option maxHeartbeats 4000000
namespace G4
open PySem PySem.Spec PyProof.Rows L2
/-- a def with its code object -/
theorem funC_of {K : PySem.W.Frag} {x qual : Str} {st : Stmt} {p : Str × Option Str} (h : ∃ fd, FunD K x qual (defArgs st) (defBody st) (defScope st) [] [] (He.fAd K p) fd) : ∃ fd, FunC K x qual st (He.fAd K p) (He.codeOf K p) fd := by
  obtain ⟨fd, F⟩ := h
  obtain ⟨oc, od, dV, kV, doc, pm, an, cdv, ct, osl, rfl, lk, hcd, hd, _⟩ := F.ex
  obtain ⟨c, rfl⟩ := He.codeIn_ref hcd
  rcases hd with ⟨_, rfl⟩ | ⟨z, _⟩
  · rw [He.codeOf_eq lk rfl]
    exact ⟨_, funC_mk lk hcd F.kp⟩
  · exact absurd rfl z
theorem funC_at {K : PySem.W.Frag} (D : He.SaysD fa fn K) (i : Nat) {p : Str × Option Str} {x qual : Str} {st : Stmt} (h : fn[i]? = some (dfn p x qual st)) : ∃ fd, FunC K x qual st (He.fAd K p) (He.codeOf K p) fd := funC_of (x := x) (qual := qual) (st := st) (p := p) (D.def_ i h)
theorem bind1 {K : PySem.W.Frag} {x qual : Str} {st : Stmt} {f : Addr} {fd : FuncData} {ps : List Str} (F : Fun K x qual st f fd)
    (h : ∀ (kV doc pm : Value) (an : Option Addr) (cdv ct : Value) (us : List Value), us.length = ps.length → bindArgs (PySem.W.fnOf x qual (defArgs st) (defBody st) (defScope st) .none kV doc pm an cdv ct) ⟨us, []⟩ = pure (ps.zip us)) : Binds K fd ps [] := F.binds h
theorem tabG_mk {H : Hp} {P : Addr} (h : H P = some (.tbl #[])) : GxR.TabG H P := ⟨#[], h, trivial⟩
theorem at_head {w : World} {K : PySem.W.Frag} {h : Heap} {mg : Str → Option Value} {f : Addr} (X : K.In h) (G : h.Ns mainGlobals mg) (hf : mg "law" = some (.ref f)) (c : He.SaysX fa fn [] tf exK2 w h K) :
    ∃ pT pG cT cG : Addr, tf.map (He.cT K) = [(cT, pT), (cG, pG)] ∧ ∃ fd : FuncData, Fun K "law" "law" sLaw f fd ∧ Binds K fd ["_law_script"] [] ∧
      ∀ {P : Program} {base : Heap}, GxR.TabB base mg cT pT → GxR.TabB base mg cG pG → ∀ (cdv : Value) (A : Around) (outer : List Env) (s : Shared) (H : Hp) (vs : List V) (Q : VK) (E : XK), Room 9 (A.deeper (envOfC "law" (defScope sLaw) s.heap.objs.size f cdv)) → A.guards = some [] → spLaw K pT pG vs H Q E →
        ∃ t, PSs (cxOf CX0 P w K mg base nmLaw "law" (defScope sLaw) f cdv A outer s H E).nox (defBody sLaw) t ∧ t { nx := fun _ H' => Q .non H', rt := Q } (start nmLaw vs) H := by
  have D := c.t.d
  obtain ⟨c1, c2⟩ := He.ba c.more
  have e := exK_ok c1
  have hne := of_decide_eq_true c2
  have gl : ∀ (i : Nat) {x : Str}, fa[i]? = some (.glo x) → mg x = some (.ref (He.ga K x)) := fun i x q => He.glo_ok X G (D.fact i q)
  have fr : ∀ (i : Nat) {x : Str}, fa[i]? = some (.free x) → mg x = none := fun i x q => He.free_ok X G (D.fact i q)
  have me : ∀ (i : Nat) {x m : Str}, fa[i]? = some (.meth x m) → Meth K (He.ga K x) m (He.ma K (He.ga K x) m) := fun i x m q => He.meth_ok (D.fact i q)
  obtain ⟨dCop, FCop⟩ := funC_at D 0 rfl
  obtain ⟨dBI, FBI⟩ := funC_at D 1 rfl
  obtain ⟨dRI, FRI⟩ := funC_at D 2 rfl
  obtain ⟨dEnds, FEnds⟩ := funC_at D 3 rfl
  obtain ⟨dSees, FSees⟩ := funC_at D 4 rfl
  obtain ⟨dDigit, FDigit⟩ := funC_at D 5 rfl
  obtain ⟨dTake, FTake⟩ := funC_at D 6 rfl
  obtain ⟨dNumber, FNumber⟩ := funC_at D 7 rfl
  obtain ⟨dShut, FShut⟩ := funC_at D 8 rfl
  obtain ⟨dG, FG⟩ := funC_at D 9 rfl
  obtain ⟨dPlace, FPlace⟩ := funC_at D 10 rfl
  obtain ⟨dRow, FRow⟩ := funC_at D 11 rfl
  obtain ⟨dRead, FRead⟩ := funC_at D 12 rfl
  obtain ⟨dOpen, FOpen⟩ := funC_at D 13 rfl
  obtain ⟨dPick, FPick⟩ := funC_at D 14 rfl
  obtain ⟨dTold, FTold⟩ := funC_at D 15 rfl
  obtain ⟨dL, FL⟩ := funC_at D 16 rfl
  obtain ⟨dW, FW⟩ := funC_at D 17 rfl
  obtain ⟨dLaw, FLaw⟩ := funC_at D 18 rfl
  have ef : f = He.ga K "law" := by
    have z := hf.symm.trans (gl 13 rfl)
    cases z
    rfl
  subst ef
  have TR : TxtR K mg (He.ga K "Reader") _ _ _ _ _ _ dEnds dSees dDigit dTake dNumber dShut :=
    { t := ⟨He.cls_ok (D.fact 33 rfl), He.noat_ok (D.fact 34 rfl), He.noat_ok (D.fact 35 rfl), fr 19 rfl⟩
      FEnds := FEnds.fun, bEnds := bind1 FEnds.fun fun _ _ _ _ _ _ us hl => match us, hl with | [_], _ => rfl
      mEnds := me 27 rfl
      FSees := FSees.fun, bSees := bind1 FSees.fun fun _ _ _ _ _ _ us hl => match us, hl with | [_, _], _ => rfl
      mSees := me 28 rfl
      FDigit := FDigit.fun, bDigit := bind1 FDigit.fun fun _ _ _ _ _ _ us hl => match us, hl with | [_], _ => rfl
      mDigit := me 29 rfl
      FTake := FTake.fun, bTake := bind1 FTake.fun fun _ _ _ _ _ _ us hl => match us, hl with | [_, _], _ => rfl
      mTake := me 30 rfl
      FNumber := FNumber.fun, bNumber := bind1 FNumber.fun fun _ _ _ _ _ _ us hl => match us, hl with | [_], _ => rfl
      mNumber := me 31 rfl
      FShut := FShut.fun, bShut := bind1 FShut.fun fun _ _ _ _ _ _ us hl => match us, hl with | [_], _ => rfl
      mShut := me 32 rfl
      int := fr 21 rfl }
  have TE : TxtE K mg (aB K) (aI K) (He.ga K "copied") dBI dCop :=
    { oex := e.oex, iC := e.iC, tI := e.tI, noP := e.noP, mgB := gl 1 rfl
      FI := FBI.fun, bI := bind1 FBI.fun fun _ _ _ _ _ _ us hl => match us, hl with | [_, _], _ => rfl
      FC := FCop.fun, bC := bind1 FCop.fun fun _ _ _ _ _ _ us hl => match us, hl with | [_], _ => rfl
      gC := gl 0 rfl, isi := fr 14 rfl, lst := fr 15 rfl, tpl := fr 16 rfl, dct := fr 17 rfl }
  have TG : TxtG K mg (He.ga K "_read_place") (He.ga K "_read_grid_row") (He.ga K "read_grid") (He.ma K (He.ga K "Reader") "__init__") (He.ga K "Reader") dPlace dRow dRead dRI :=
    { FPlace := FPlace.fun, bPlace := bind1 FPlace.fun fun _ _ _ _ _ _ us hl => match us, hl with | [_], _ => rfl
      gPlace := gl 5 rfl
      FRow := FRow.fun, bRow := bind1 FRow.fun fun _ _ _ _ _ _ us hl => match us, hl with | [_, _], _ => rfl
      gRow := gl 6 rfl
      FRead := FRead.fun, bRead := bind1 FRead.fun fun _ _ _ _ _ _ us hl => match us, hl with | [_], _ => rfl
      gRead := gl 7 rfl
      FRI := FRI.fun, bRI := bind1 FRI.fun fun _ _ _ _ _ _ us hl => match us, hl with | [_, _], _ => rfl
      mkr := He.mkr_ok (D.fact 36 rfl), gReader := gl 3 rfl, isi := fr 14 rfl, str := fr 18 rfl, lst := fr 15 rfl, tpl := fr 16 rfl, enm := fr 22 rfl }
  have TX : TxtX K mg (aB K) (aP K) (He.ga K "_law_read_told") dTold :=
    { F := FTold.fun, b := bind1 FTold.fun fun _ _ _ _ _ _ us hl => match us, hl with | [_], _ => rfl
      g := gl 10 rfl, te := He.exm_ok (D.fact 37 rfl), gB := gl 1 rfl, gP := gl 2 rfl, xf := e.xf, exc := e.exc, kit := e.kit, noP := e.noP, isi := fr 14 rfl }
  have TO : TxtO K mg (He.ga K "_law_open_cells") (He.ga K "_law_pick") dOpen dPick :=
    { FOpen := FOpen.fun, bOpen := bind1 FOpen.fun fun _ _ _ _ _ _ us hl => match us, hl with | [_], _ => rfl
      gOpen := gl 8 rfl
      FPick := FPick.fun, bPick := bind1 FPick.fun fun _ _ _ _ _ _ us hl => match us, hl with | [_, _], _ => rfl
      gPick := gl 9 rfl, abs := fr 24 rfl, int := fr 21 rfl, len := fr 19 rfl }
  have TL : TxtL K mg (He.ga K "_law_grid_lines") dL :=
    { F := FL.fun, b := bind1 FL.fun fun _ _ _ _ _ _ us hl => match us, hl with | [_, _, _], _ => rfl
      g := gl 11 rfl, dct := fr 17 rfl, lst := fr 15 rfl, rng := fr 23 rfl, min := fr 25 rfl, repr := fr 26 rfl }
  have TW : TxtW K mg (He.ga K "_law_grid_walk") dW :=
    { F := FW.fun, b := bind1 FW.fun fun _ _ _ _ _ _ us hl => match us, hl with | [_], _ => rfl
      g := gl 12 rfl, enm := fr 22 rfl, len := fr 19 rfl, tpl := fr 16 rfl, int := fr 21 rfl }
  have TM : TxtM mg := ⟨fr 23 rfl, fr 19 rfl, fr 16 rfl, fr 26 rfl, fr 14 rfl⟩
  have bG : Binds K dG ["n", "width", "f"] [] := bind1 FG.fun fun _ _ _ _ _ _ us hl => match us, hl with | [_, _, _], _ => rfl
  refine ⟨_, _, _, _, rfl, dLaw, FLaw.fun, bind1 FLaw.fun fun _ _ _ _ _ _ us hl => match us, hl with | [_], _ => rfl, fun {P base} tbT tbG cdv A outer s H vs Q E hr hA hs => ?_⟩
  have TT : TxtT K mg base _ _ _ dTake := ⟨tbT, FTake, fr 20 rfl⟩
  have TZ : TxtZ K mg base (He.ga K "grid_text") _ _ dG := ⟨tbG, FG, bG, gl 4 rfl, fr 17 rfl, fr 18 rfl, fr 23 rfl⟩
  exact law_body TM hne TO TL TW ((ok_told TR TE TT TG TX).imp told_imp) (gl 10 rfl) FTold.kp (bind1 FTold.fun fun _ _ _ _ _ _ us hl => match us, hl with | [_], _ => rfl) (ok_gridText TZ) (gl 4 rfl) FG.kp bG hr hA hs
end G4
open PySem PySem.W PySem.Calls PyProof.Rows
set_option maxHeartbeats 0 in
theorem PySem.Challenge.cw_toldreasons_k04_grids_holds : PySem.Challenge.rw_toldreasons_k04_grids.Holds := by
  w_on; o_law
  refine HandSHeadRun.head_any (r := OpenLaw.row PySem.Challenge.rw_toldreasons_k04_grids) (q := view (OpenLaw.row PySem.Challenge.rw_toldreasons_k04_grids).prog [16]) (H := G4.hk) (ob := G4.ob) (M := 3000) (loose := G4.loN) (d := HandSHeadRun.topDef (OpenLaw.row PySem.Challenge.rw_toldreasons_k04_grids).prog 16) (kwd := []) G4.ob_eq
    (by kernel_rfl) (fun s => by kernel_rfl) G4.run (by kernel_rfl) (by kernel_rfl) (by kernel_rfl) (by rfl) (by first | assumption | decide +kernel) (by decide +kernel) ⟨rfl, rfl, rfl, rfl, rfl, by decide +kernel⟩ ?hw ?hc
  case hw => w_witness2
  case hc =>
    refine Att.attach_callB (l := PySem.Challenge.rw_toldreasons_k04_grids) (n := 63) rfl (by kernel_rfl) fun w s₀ s₁ mg mb fa o pm cd doc a vs ns GG Y ho hd hcd hmg hobj hints hlen hbits hg => ?_
    obtain ⟨K, KX, c⟩ := Y
    have hmg2 : mg ("law" : PySem.Str) = some (.ref fa) := by
      have e : (HandSHeadRun.topDef (OpenLaw.row PySem.Challenge.rw_toldreasons_k04_grids).prog 16).name = ("law" : PySem.Str) := by kernel_rfl
      rw [← e]
      exact hmg
    obtain ⟨pT, pG, cT, cG, ecs, fd, FL, bL, body⟩ := G4.at_head KX GG.T.g hmg2 c
    refine G4.call_end (cs := G4.tf.map (He.cT K)) KX GG.T.g GG.T.b GG.T.builtins GG.T.nolimit hg (fun p hp => ?_) (fun p hp => ?_) (fun p hp => ?_) GG.T.bmain hobj hints hlen (fun H base env tb tE scr => ?_)
    · obtain ⟨q, hq, rfl⟩ := List.mem_map.mp hp
      exact c.empty q hq
    · obtain ⟨q, hq, rfl⟩ := List.mem_map.mp hp
      exact c.out q hq
    · obtain ⟨q, hq, rfl⟩ := List.mem_map.mp hp
      exact PySem.W.codeHd_of_K KX (c.hd q hq)
    · rw [ecs] at tb tE
      have t1 := tb _ (List.mem_cons_self)
      have t2 := tb _ (List.mem_cons_of_mem _ List.mem_cons_self)
      have g1 := G4.tabG_mk (tE _ List.mem_cons_self)
      have g2 := G4.tabG_mk (tE _ (List.mem_cons_of_mem _ List.mem_cons_self))
      refine G4.run_at (k := 9) (ps := ["_law_script"]) (N := G4.nmLaw) (us := [.ref a]) (vs := [.ref a]) (sp := G4.spLaw K pT pG) FL G4.scLaw ⟨rfl, by decide, by decide⟩ (fun cdv hr => body t1 t2 cdv callerA [] s₁ H [.ref a] (fun v _ => v = .bl true) L2.E0 hr rfl ⟨a, ns, rfl, scr, hlen, g1, g2, fun _ => rfl⟩) rfl env (bL _ _ ?_ rfl) (.cons rfl .nil)
      exact KX

