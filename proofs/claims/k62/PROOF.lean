import PyProof.Rows.All
import Wide.All
import OpenK.AllK
import Wide.FinOn
import HandS.ForMost
import HandS.Wide
import HandS.EndBits
import HandS.IsInst
import HandS.Conv
import HandS.Defaults
import HandS.Walk
import HandS.Steps
import HandS.ForExc
import HandS.TupSets
import HandS.SetBool
import HandS.Dict
import HandS.SortOrd
import HandS.SortRule
import HandS.SetKeys
import HandS.DictComp
import PyProof.DictMoreH
import HandS.SetFor
import HandS.SortInts
import HandS.Strs
import HandS.Codes
import HandS.MakeKw
import PySem.Challenge.RW_pilerecall_k62_likeness_judge_whole
set_option Elab.async false
set_option maxRecDepth 100000
set_option maxHeartbeats 4000000
namespace Pk
open PySem L2

/-! deep data in the heap -/
theorem Same.tup {K : PySem.W.Frag} {H H' : Hp} {a : Addr} {xs : List V} (e : Same H H') (h : SqT K H a xs) : SqT K H' a xs := by
  rcases h with (h | ⟨o, h⟩) | h
  · exact .inl (.inl (e _ _ h))
  · exact .inl (.inr ⟨o, e _ _ h⟩)
  · exact .inr h
mutual
theorem dp_mono {K : PySem.W.Frag} {H H' : Hp} (e : Same H H') : ∀ (d : PyData) (v : V), Dp K H v d → Dp K H' v d
  | .none, _, h => by cases h; exact .non
  | .bool _, _, h => by cases h; exact .bl _
  | .int _, _, h => by cases h; exact .int _
  | .str _, _, h => by cases h; exact .str _
  | .list ds, _, h => by
    cases h with
    | lst hs ha => exact .lst (e.seq hs) (dpa_mono e ds _ ha)
  | .tuple ds, _, h => by
    cases h with
    | tup hs ha => exact .tup (Same.tup e hs) (dpa_mono e ds _ ha)
  | .dict _, _, h => by cases h
theorem dpa_mono {K : PySem.W.Frag} {H H' : Hp} (e : Same H H') : ∀ (ds : List PyData) (vs : List V), DpAll K H vs ds → DpAll K H' vs ds
  | [], _, h => by cases h; exact .nil
  | d :: ds, _, h => by
    cases h with
    | cons h1 h2 => exact .cons (dp_mono e d _ h1) (dpa_mono e ds _ h2)
end
theorem dpa_len {K : PySem.W.Frag} {H : Hp} : ∀ {ds : List PyData} {vs : List V}, DpAll K H vs ds → vs.length = ds.length
  | [], _, h => by cases h; rfl
  | _ :: _, _, h => by
    cases h with
    | cons _ h2 => rw [List.length_cons, List.length_cons, dpa_len h2]
theorem dpa_get {K : PySem.W.Frag} {H : Hp} : ∀ {ds : List PyData} {vs : List V} {i : Nat} {v : V}, DpAll K H vs ds → vs[i]? = some v → ∃ d, ds[i]? = some d ∧ Dp K H v d
  | [], _, i, v, h, e => by cases h; simp at e
  | d :: ds, _, 0, v, h, e => by
    cases h with
    | cons h1 h2 => simp at e; subst e; exact ⟨d, rfl, h1⟩
  | d :: ds, _, i + 1, v, h, e => by
    cases h with
    | cons h1 h2 =>
      obtain ⟨x, e1, e2⟩ := dpa_get (i := i) (v := v) h2 (by simpa using e)
      exact ⟨x, by simpa using e1, e2⟩
theorem dpa_append {K : PySem.W.Frag} {H : Hp} : ∀ {ds es : List PyData} {vs us : List V}, DpAll K H vs ds → DpAll K H us es → DpAll K H (vs ++ us) (ds ++ es)
  | [], _, _, _, h, g => by cases h; exact g
  | _ :: _, _, _, _, h, g => by
    cases h with
    | cons h1 h2 => exact .cons h1 (dpa_append h2 g)
theorem same_new {H : Hp} {p : Addr} {o : HO} (h : H p = none) : Same H (upd H p o) := fun b u e => by
  rw [upd_ne (ne_of_none e h)]
  exact e
/-- what H0 did not know may change -/
theorem same_mut {H0 H : Hp} {p : Addr} {o : HO} (e : Same H0 H) (h : H0 p = none) : Same H0 (upd H p o) := fun b u q => by
  rw [upd_ne (ne_of_none q h)]
  exact e b u q
/-- the heap without what stands at q -/
def hide (q : Addr) (H : Hp) : Hp := fun b => if b = q then none else H b
theorem hide_ne {q b : Addr} {H : Hp} (h : b ≠ q) : hide q H b = H b := if_neg h
theorem hide_same {q : Addr} {H : Hp} : hide q H q = none := if_pos rfl
theorem hide_le {q : Addr} {H : Hp} : Same (hide q H) H := fun b o e => by
  by_cases h : b = q
  · rw [h, hide_same] at e
    cases e
  · rw [hide_ne h] at e
    exact e
theorem hide_upd {q : Addr} {H : Hp} {o : HO} : hide q (upd H q o) = hide q H := by
  funext b
  by_cases h : b = q
  · rw [h, hide_same, hide_same]
  · rw [hide_ne h, hide_ne h, upd_ne h]
theorem hide_new {q r : Addr} {H : Hp} {o : HO} (h : r ≠ q) : hide q (upd H r o) = upd (hide q H) r o := by
  funext b
  by_cases e : b = q
  · rw [e, hide_same, upd_ne h.symm, hide_same]
  · rw [hide_ne e]
    by_cases e2 : b = r
    · rw [e2, upd_same, upd_same]
    · rw [upd_ne e2, upd_ne e2, hide_ne e]
theorem hide_base {q : Addr} {H0 H : Hp} (e : Same H0 H) (h : H0 q = none) : Same H0 (hide q H) := fun b o z => by
  rw [hide_ne (ne_of_none z h)]
  exact e b o z
theorem hide_mono {q : Addr} {H H' : Hp} (e : Same H H') : Same (hide q H) (hide q H') := fun b o z => by
  by_cases h : b = q
  · rw [h, hide_same] at z
    cases z
  · rw [hide_ne h] at z ⊢
    exact e b o z
theorem hide_none {q r : Addr} {H : Hp} (h : H r = none) : hide q H r = none := by
  by_cases e : r = q
  · rw [e, hide_same]
  · rw [hide_ne e, h]
/-- of H' what H did not know -/
def newOnly (H H' : Hp) : Hp := fun b => match H b with
  | none => H' b
  | some _ => none
theorem newOnly_at {H H' : Hp} {a : Addr} {o : HO} (h : H a = none) (e : H' a = some o) : newOnly H H' a = some o := by
  unfold newOnly
  rw [h]
  exact e
theorem newOnly_hide {H H' : Hp} {q : Addr} {o : HO} (h : H q = some o) : Same (newOnly H H') (hide q H') := fun b u e => by
  unfold newOnly at e
  cases z : H b with
  | none =>
    rw [z] at e
    rw [hide_ne (ne_of_none h z).symm]
    exact e
  | some y =>
    rw [z] at e
    cases e
theorem mapInt {ns : List Int} {i : Nat} {v : V} (h : (ns.map V.int)[i]? = some v) : ∃ z, ns[i]? = some z ∧ v = V.int z := by
  rw [List.getElem?_map] at h
  cases e : ns[i]? with
  | none => rw [e] at h; cases h
  | some z => rw [e] at h; exact ⟨z, rfl, (Option.some.inj h).symm⟩

/-- the built-in names that are used -/
structure TB (mg : Str → Option Value) : Prop where
  isi : mg "isinstance" = none
  int : mg "int" = none
  bool : mg "bool" = none
  str : mg "str" = none
  tuple : mg "tuple" = none
  list : mg "list" = none
  len : mg "len" = none
  range : mg "range" = none
  sum : mg "sum" = none
  abs : mg "abs" = none

theorem lt_pow_natAbs {i : Int} {n : Nat} (h : i.natAbs < 2 ^ n) : -(2 ^ n : Int) < i ∧ i < (2 ^ n : Int) := by
  have e : ((2 ^ n : Nat) : Int) = (2 : Int) ^ n := by simp
  omega
end Pk

set_option Elab.async false
set_option maxRecDepth 100000
set_option maxHeartbeats 4000000
namespace Mk
open PySem L2 Pk
def top (i : Nat) : Stmt := PySem.Challenge.pw_pilerecall_k62_likeness_judge_whole.main.body.getD i (.Pass ⟨0, 0, 0, 0⟩)
abbrev sInteger : Stmt := top 8
abbrev sBetween : Stmt := top 9
abbrev sSequence : Stmt := top 10
abbrev sRow : Stmt := top 11
abbrev sLetters : Stmt := top 12
abbrev sAlphabet : Stmt := top 13
abbrev sMark : Stmt := top 14
abbrev sSymbol : Stmt := top 15
abbrev sSign : Stmt := top 16
abbrev sTop : Stmt := top 17
abbrev sMove : Stmt := top 18
abbrev sDeed : Stmt := top 19
abbrev sState : Stmt := top 20
abbrev sRule : Stmt := top 21
/-- the built-in names -/
structure TM (mg : PySem.Str → Option Value) : Prop where
  isi : mg "isinstance" = none
  int : mg "int" = none
  bool : mg "bool" = none
  str : mg "str" = none
  tuple : mg "tuple" = none
  list : mg "list" = none
  len : mg "len" = none
  range : mg "range" = none
  all : mg "all" = none
  sorted : mg "sorted" = none
  set : mg "set" = none
  abs : mg "abs" = none
/-- a list or a tuple, by a bit -/
def SqB (b : Bool) (K : PySem.W.Frag) (H : Hp) (a : Addr) (xs : List V) : Prop := match b with
  | true => SqL K H a xs
  | false => SqT K H a xs
theorem SqB.any {b : Bool} {K : PySem.W.Frag} {H : Hp} {a : Addr} {xs : List V} (h : SqB b K H a xs) : SqL K H a xs ∨ SqT K H a xs := by
  cases b
  · exact .inr h
  · exact .inl h
theorem SqB.mono {b : Bool} {K : PySem.W.Frag} {H H' : Hp} {a : Addr} {xs : List V} (e : Same H H') (h : SqB b K H a xs) : SqB b K H' a xs := by
  cases b
  · exact Same.tup e h
  · exact e.seq h
def sqTy (b : Bool) : String := if b = true then "list" else "tuple"
theorem tyx_sq {b : Bool} {K : PySem.W.Frag} {H : Hp} {a : Addr} {xs : List V} (h : SqB b K H a xs) : TyX K H (.ref a) (.type (sqTy b)) := by
  cases b with
  | false =>
    rcases (show SqT K H a xs from h) with (h | ⟨o, h⟩) | ⟨o, its, n, h, hc, _⟩
    · exact .base (.tup h)
    · exact .fTuple h
    · exact .kTuple h hc
  | true =>
    rcases (show SqL K H a xs from h) with (h | ⟨o, h⟩) | ⟨o, its, n, h, hc, _⟩
    · exact .base (.lst h)
    · exact .base (.frz h)
    · exact .kList h hc
section
variable {P : Program} {w : World} {K : PySem.W.Frag} {mg : PySem.Str → Option Value} {base : Heap}
/-- the def x stands, is reached by its name, and keeps sp -/
def Got (P : Program) (w : World) (K : PySem.W.Frag) (mg : PySem.Str → Option Value) (base : Heap) (x : PySem.Str) (k : Nat) (ps : List PySem.Str) (sp : Sp) : Prop :=
  ∃ f fd, FnOk P w K mg base CX0 k f fd ps sp ∧ PySem.W.keepIn K (.ref f) = true ∧ Binds K fd ps [] ∧ mg x = some (.ref f)
theorem pe_got {X : Cx} {x : PySem.Str} {k : Nat} {ps : List PySem.Str} {sp : Sp} {p pos : Pos} {e : Expr} {es : List Expr} {t : TA} (h : Got X.prog X.w X.K X.mg X.base x k ps sp) (hr : Room k X.A) (hg : Gl X x) (ha : PA X (e :: es) t)
    (hdb : (x == ("__debug__" : PySem.Str)) = false := by decide) (he : starEach (e :: es) X.env = (false, eval e X.env) :: starEach es X.env := by rfl) (hpl : (backTo pos (starEach es X.env)).any (·.1) = false := by rfl) :
    PE X (.Call (.Name x p) (e :: es) [] pos) (tCall sp [] E0 t) := by
  obtain ⟨f, fd, G, kp, b, g⟩ := h
  exact pe_call G hr hg g kp b .nil pass0 ha hdb he hpl
/-! is_integer, is_between -/
def spInteger : Sp := fun vs H Q _ => ∃ n : Int, vs = [.int n] ∧ Q (.bl true) H
theorem scInteger : FnScope ["value"] ["value"] (defScope sInteger) := ⟨rfl, rfl, rfl, by decide +kernel, rfl, by decide +kernel, by decide +kernel⟩
theorem ok_integer {f : Addr} {fd : FuncData} (F : Fun K "is_integer" "is_integer" sInteger f fd) (T : TM mg) : FnOk P w K mg base CX0 1 f fd ["value"] spInteger := by
  refine F.ok scInteger (fun vs H Q E h => ?_) (fun cdv A outer s H vs Q E hr h => ?_)
  · obtain ⟨n, rfl, _⟩ := h
    rfl
  · obtain ⟨n, rfl, k⟩ := h
    refine ⟨_, pss_one (ps_ret (pe_and (pe_callB call_isi (by rfl) T.isi (by decide +kernel) (pa_cons (pv 0) (pa_cons (pe_bltn (v := .ty "int") (by rfl) T.int PyProof.Rows.Boot.int rfl) pa_nil)))
      (pe_one (pe_not (pe_callB call_isi (by rfl) T.isi (by decide +kernel) (pa_cons (pv 0) (pa_cons (pe_bltn (v := .ty "bool") (by rfl) T.bool PyProof.Rows.Boot.bool rfl) pa_nil))))))), ?_⟩
    refine ⟨_, rfl, _, _, _, _, true, rfl, .ty _, .base (.int _), kit_ty (by decide +kernel), _, rfl, ?_⟩
    refine iteT ?_
    exact ⟨_, rfl, _, _, _, _, false, rfl, .ty _, .base (.int _), kit_ty (by decide +kernel), _, rfl, k⟩
def spBetween : Sp := fun vs H Q _ => ∃ n lo hi : Int, vs = [.int n, .int lo, .int hi] ∧ Q (.bl (decide (lo ≤ n) && decide (n ≤ hi))) H
theorem scBetween : FnScope ["value", "least", "most"] ["value", "least", "most"] (defScope sBetween) := ⟨rfl, rfl, rfl, by decide +kernel, rfl, by decide +kernel, by decide +kernel⟩
theorem ok_between {f : Addr} {fd : FuncData} (F : Fun K "is_between" "is_between" sBetween f fd) (G : Got P w K mg base "is_integer" 1 ["value"] spInteger) : FnOk P w K mg base CX0 2 f fd ["value", "least", "most"] spBetween := by
  refine F.ok scBetween (fun vs H Q E h => ?_) (fun cdv A outer s H vs Q E hr h => ?_)
  · obtain ⟨n, lo, hi, rfl, _⟩ := h
    rfl
  · obtain ⟨n, lo, hi, rfl, k⟩ := h
    refine ⟨_, pss_one (ps_ret (pe_and (pe_got G hr (by rfl) (pa_cons (pv 0) pa_nil)) (pe_one (pe_chain op_le op_le (pv 1) (pv 0) (pv 2))))), ?_⟩
    refine ⟨_, rfl, n, rfl, _, rfl, ?_⟩
    refine iteT ?_
    refine ⟨_, rfl, _, rfl, _, _, rfl, rfl, _, rfl, ?_⟩
    refine ite2 (fun c => ?_) (fun c => ?_)
    · refine ⟨_, rfl, _, _, rfl, rfl, ?_⟩
      rw [c] at k
      exact k
    · rw [Bool.eq_false_iff.mpr c] at k
      exact k
/-! is_sequence, is_row -/
def spSequence (K : PySem.W.Frag) : Sp := fun vs H Q _ => ∃ (a : Addr) (b : Bool) (xs : List V), vs = [.ref a] ∧ SqB b K H a xs ∧ ∀ H', Same H H' → Q (.bl true) H'
theorem scSequence : FnScope ["value"] ["value"] (defScope sSequence) := ⟨rfl, rfl, rfl, by decide +kernel, rfl, by decide +kernel, by decide +kernel⟩
theorem kit_seq {K : PySem.W.Frag} (b : Bool) : PySem.W.kitAny K (.type (sqTy b)) [.type "list", .type "tuple"] = some true := by
  cases b
  · exact kitAny_cons (b := false) (kit_ty (by decide +kernel)) (fun _ => kitAny_cons (b := true) (kit_ty (by decide +kernel)) (fun z => nomatch z) fun _ => rfl) fun _ => rfl
  · exact kitAny_cons (b := true) (kit_ty (by decide +kernel)) (fun z => nomatch z) fun _ => rfl
theorem ok_sequence {f : Addr} {fd : FuncData} (F : Fun K "is_sequence" "is_sequence" sSequence f fd) (T : TM mg) : FnOk P w K mg base CX0 1 f fd ["value"] (spSequence K) := by
  refine F.ok scSequence (fun vs H Q E h => ?_) (fun cdv A outer s H vs Q E hr h => ?_)
  · obtain ⟨a, b, xs, rfl, _⟩ := h
    rfl
  · obtain ⟨a, b, xs, rfl, hS, k⟩ := h
    refine ⟨_, pss_one (ps_ret (pe_callB call_isiT (by rfl) T.isi (by decide +kernel) (pa_cons (pv 0) (pa_cons (pe_tup (pa_cons (pe_bltn (v := .ty "list") (by rfl) T.list PyProof.Rows.Boot.list rfl) (pa_cons (pe_bltn (v := .ty "tuple") (by rfl) T.tuple PyProof.Rows.Boot.tuple rfl) pa_nil))) pa_nil)))), ?_⟩
    refine ⟨_, rfl, by decide, fun p hp => ?_⟩
    exact ⟨_, p, _, _, _, true, rfl, upd_same, .cons (.ty _) (.cons (.ty _) .nil), tyx_sq (hS.mono (same_new hp)), kit_seq b, k _ (same_new hp)⟩
def spRow (K : PySem.W.Frag) : Sp := fun vs H Q _ => ∃ (a : Addr) (b : Bool) (xs : List V) (n : Int), vs = [.ref a, .int n] ∧ SqB b K H a xs ∧ ∀ H', Same H H' → Q (.bl (decide ((xs.length : Int) = n))) H'
theorem scRow : FnScope ["value", "length"] ["value", "length"] (defScope sRow) := ⟨rfl, rfl, rfl, by decide +kernel, rfl, by decide +kernel, by decide +kernel⟩
theorem ok_row {f : Addr} {fd : FuncData} (F : Fun K "is_row" "is_row" sRow f fd) (T : TM mg) (G : Got P w K mg base "is_sequence" 1 ["value"] (spSequence K)) : FnOk P w K mg base CX0 2 f fd ["value", "length"] (spRow K) := by
  refine F.ok scRow (fun vs H Q E h => ?_) (fun cdv A outer s H vs Q E hr h => ?_)
  · obtain ⟨a, b, xs, n, rfl, _⟩ := h
    rfl
  · obtain ⟨a, b, xs, n, rfl, hS, k⟩ := h
    refine ⟨_, pss_one (ps_ret (pe_and (pe_got G hr (by rfl) (pa_cons (pv 0) pa_nil)) (pe_one (pe_cmpR op_eq (pe_callB call_len_seq (by rfl) T.len PySem.boot_len (pa_cons (pv 0) pa_nil)) (pv 1) (nomark _))))), ?_⟩
    refine ⟨_, rfl, a, b, xs, rfl, hS, fun H1 s1 => ⟨_, rfl, ?_⟩⟩
    refine iteT ?_
    refine ⟨_, rfl, a, xs, rfl, (hS.mono s1).any, _, rfl, rfl, ?_⟩
    have e : decide (V.int (xs.length : Int) = V.int n) = decide ((xs.length : Int) = n) := by simp
    rw [e]
    exact k H1 s1
end
end Mk

set_option Elab.async false
set_option maxRecDepth 100000
set_option maxHeartbeats 4000000
namespace Mk
open PySem L2 Pk
section
variable {P : Program} {w : World} {K : PySem.W.Frag} {mg : PySem.Str → Option Value} {base : Heap}
/-! are_letters -/
def lowC (c : Nat) : Bool := decide (97 ≤ c) && decide (c ≤ 122)
def lowB (x : PySem.Str) : Bool := x.cps.toList.all lowC
def spLetters : Sp := fun vs H Q _ => ∃ (x : PySem.Str) (m : Int), vs = [.str x, .int m] ∧ x.length ≤ 1000 ∧ ∀ H', Same H H' → Q (.bl (decide ((x.length : Int) ≤ m) && lowB x)) H'
theorem scLetters : FnScope ["value", "most", "letter"] ["value", "most"] (defScope sLetters) := ⟨rfl, rfl, rfl, by decide +kernel, rfl, by decide +kernel, by decide +kernel⟩
theorem lt_one (a b : Nat) : decide (([a] : List Nat) < [b]) = decide (a < b) := by
  rw [Bool.eq_iff_iff, decide_eq_true_eq, decide_eq_true_eq]
  constructor
  · intro h
    cases h with
    | rel h => exact h
    | cons h => cases h
  · intro h
    exact List.Lex.rel h
theorem ge_sign (c lo : Nat) (z : PySem.Str) (hz : z.cps.toList = [lo]) : (!decide ((⟨#[c]⟩ : PySem.Str).cps.toList < z.cps.toList)) = decide (lo ≤ c) := by
  rw [hz]
  show (!decide (([c] : List Nat) < [lo])) = _
  rw [lt_one]
  by_cases h : lo ≤ c
  · rw [decide_eq_true h, decide_eq_false (by omega)] <;> rfl
  · rw [decide_eq_false h, decide_eq_true (by omega)] <;> rfl
theorem le_sign (c hi : Nat) (z : PySem.Str) (hz : z.cps.toList = [hi]) : (!decide (z.cps.toList < (⟨#[c]⟩ : PySem.Str).cps.toList)) = decide (c ≤ hi) := by
  rw [hz]
  show (!decide (([hi] : List Nat) < [c])) = _
  rw [lt_one]
  by_cases h : c ≤ hi
  · rw [decide_eq_true h, decide_eq_false (by omega)] <;> rfl
  · rw [decide_eq_false h, decide_eq_true (by omega)] <;> rfl
theorem str_len (x : PySem.Str) : x.length = x.cps.size := rfl
theorem take_at {α : Type} {l : List α} {i : Nat} {c : α} (h : l[i]? = some c) : l.take (i + 1) = l.take i ++ [c] := by
  rw [List.take_add_one, h] <;> rfl
theorem ok_letters {f : Addr} {fd : FuncData} (F : Fun K "are_letters" "are_letters" sLetters f fd) (T : TM mg) : FnOk P w K mg base CX0 1 f fd ["value", "most"] spLetters := by
  refine F.ok scLetters (fun vs H Q E h => ?_) (fun cdv A outer s H vs Q E hr h => ?_)
  · obtain ⟨x, m, rfl, _⟩ := h
    rfl
  · obtain ⟨x, m, rfl, hl, k⟩ := h
    refine ⟨_, pss_cons (ps_if (PW.pt (pw_or (pt_not (pt_val (pe_callB call_isi (by rfl) T.isi (by decide +kernel) (pa_cons (pv 0) (pa_cons (pe_bltn (v := .ty "str") (by rfl) T.str PyProof.Rows.Boot.str rfl) pa_nil)))))
        (pw_or1 (pt_cmpR op_gt (pe_callB call_len_str (by rfl) T.len PySem.boot_len (pa_cons (pv 0) pa_nil)) (pv 1) (nomark _))))) (pss_one (ps_ret pe_bl)) pss_nil)
      (pss_one (ps_ret (pe_callB (cr_all rfl) (by rfl) T.all (by decide +kernel) (pa_cons (pe_lc (own := [("letter", 2)]) (g := gName 2) (tt := tYes) (by rfl) scLetters.nd (pi_str (pv 0))
        (blkOk_by (own := [("letter", 2)]) (N := ["value", "most", "letter"]) (sc := defScope sLetters) (by decide +kernel))
        (fun _ _ _ _ _ => pg_name (i := 2) scLetters.nd rfl (Or.inl rfl)) (fun _ _ _ _ _ => pts_nil) (fun _ _ _ _ _ => pe_chain op_le_str op_le_str pe_str (pv 2) pe_str)) pa_nil)))), ?_⟩
    have sz : x.length ≤ sizeLine := Nat.le_trans hl (by decide)
    refine ⟨_, rfl, _, _, _, _, true, rfl, .ty _, .base (.str _), kit_ty (by decide +kernel), _, rfl, ?_⟩
    refine iteF ?_
    refine ⟨_, rfl, x, rfl, sz, _, rfl, _, _, rfl, rfl, _, rfl, ?_⟩
    refine ite2 (fun c => ?_) (fun c => ?_)
    · have c' := of_decide_eq_true c
      have e : decide ((x.length : Int) ≤ m) = false := decide_eq_false (by omega)
      have q := k H (fun _ _ z => z)
      rw [e] at q
      exact q
    · have c' : ¬ ((x.length : Int) > m) := fun z => c (decide_eq_true z)
      have e : decide ((x.length : Int) ≤ m) = true := decide_eq_true (by omega)
      refine ⟨_, rfl, x, rfl, fun D hD => lc_it walk_str (fun i H' => Same H H' ∧ H' D = some (.lst (((x.cps.toList.take i).map lowC).map V.bl)))
        ⟨same_new hD, by rw [upd_same]; rfl⟩ (fun _ _ _ _ => trivial) ?_ ?_⟩
      · rintro i y H1 H2 hi ⟨s1, hD1⟩ ⟨rfl, c0, hc0, rfl⟩
        have hc1 : x.cps.toList[i]? = some c0 := by rw [Array.getElem?_toList]; exact hc0
        refine ⟨rfl, ?_⟩
        have acc : ∀ b : Bool, b = lowC c0 → ∃ ac, H2 D = some (.lst ac) ∧ ac.length < sizeLine ∧ Same H (upd H2 D (.lst (ac ++ [V.bl b]))) ∧ (upd H2 D (.lst (ac ++ [V.bl b]))) D = some (.lst (((x.cps.toList.take (i + 1)).map lowC).map V.bl)) := by
          rintro b rfl
          refine ⟨_, hD1, ?_, same_mut s1 hD, ?_⟩
          · rw [List.length_map, List.length_map, List.length_take, Array.length_toList]
            have q : x.cps.size ≤ 1000 := hl
            exact Nat.lt_of_le_of_lt (Nat.le_trans (Nat.min_le_right _ _) q) (by decide)
          · rw [upd_same, take_at hc1, List.map_append, List.map_append]
            rfl
        refine ⟨_, rfl, _, _, rfl, rfl, _, rfl, ?_⟩
        rw [ge_sign c0 97 _ (by decide +kernel)]
        refine ite2 (fun a => ?_) (fun a => ?_)
        · refine ⟨_, _, rfl, rfl, ?_⟩
          rw [le_sign c0 122 _ (by decide +kernel)]
          exact acc _ (by unfold lowC; rw [a] <;> rfl)
        · exact acc _ (by unfold lowC; rw [Bool.eq_false_iff.mpr a] <;> rfl)
      · rintro H1 ⟨s1, hD1⟩
        refine ⟨D, _, rfl, SqL.of hD1, ?_⟩
        have q := k H1 s1
        rw [e] at q
        have full : x.cps.toList.take x.cps.size = x.cps.toList := List.take_of_length_le (by rw [Array.length_toList]; exact Nat.le_refl _)
        rw [full, List.all_map]
        exact q
end
end Mk

set_option Elab.async false
set_option maxRecDepth 100000
set_option maxHeartbeats 4000000
namespace Mk
open PySem L2 Pk
abbrev rLeS : R2 := fun x y H Q => ∃ i j, x = V.str i ∧ y = V.str j ∧ Q (V.bl !decide (j.cps.toList < i.cps.toList)) H
theorem ch_sign {σ : L2.St} {H : Hp} {i c lo hi : Nat} {zl zh : PySem.Str} {Q : VK} (hl : zl.cps.toList = [lo]) (hh : zh.cps.toList = [hi]) (e : σ[i]? = some (some (.str ⟨#[c]⟩))) (q : Q (.bl (decide (lo ≤ c) && decide (c ≤ hi))) H) :
    tChain rLeS rLeS (tC (.str zl)) (tVar i) (tC (.str zh)) σ H Q := by
  refine ⟨_, e, _, _, rfl, rfl, _, rfl, ?_⟩
  rw [ge_sign c lo _ hl]
  refine ite2 (fun a => ?_) (fun a => ?_)
  · refine ⟨_, _, rfl, rfl, ?_⟩
    rw [le_sign c hi _ hh]
    rw [a] at q
    exact q
  · rw [Bool.eq_false_iff.mpr a] at q
    exact q
/-- x or y, of which x gives a bool -/
theorem or_bool {ta tb : TE} {σ : L2.St} {H : Hp} {Q : VK} {a : Bool} (h : ∀ Q' : VK, Q' (.bl a) H → ta σ H Q') (g : a = false → tb σ H Q) (q : a = true → Q (.bl true) H) : tOrV ta tb σ H Q := by
  refine h _ ⟨a, rfl, ?_⟩
  cases a
  · exact iteF (g rfl)
  · exact iteT (q rfl)
section
variable {P : Program} {w : World} {K : PySem.W.Frag} {mg : PySem.Str → Option Value} {base : Heap}
/-! is_symbol_mark -/
def markC (c : Nat) : Bool := (decide (97 ≤ c) && decide (c ≤ 122)) || ((decide (65 ≤ c) && decide (c ≤ 90)) || (decide (48 ≤ c) && decide (c ≤ 57)))
def spMark : Sp := fun vs H Q _ => ∃ c : Nat, vs = [.str ⟨#[c]⟩] ∧ Q (.bl (markC c)) H
theorem scMark : FnScope ["mark"] ["mark"] (defScope sMark) := ⟨rfl, rfl, rfl, by decide +kernel, rfl, by decide +kernel, by decide +kernel⟩
theorem ok_mark {f : Addr} {fd : FuncData} (F : Fun K "is_symbol_mark" "is_symbol_mark" sMark f fd) : FnOk P w K mg base CX0 1 f fd ["mark"] spMark := by
  refine F.ok scMark (fun vs H Q E h => ?_) (fun cdv A outer s H vs Q E hr h => ?_)
  · obtain ⟨c, rfl, _⟩ := h
    rfl
  · obtain ⟨c, rfl, k⟩ := h
    refine ⟨_, pss_one (ps_ret (pe_or (pe_chain op_le_str op_le_str pe_str (pv 0) pe_str) (pe_or (pe_chain op_le_str op_le_str pe_str (pv 0) pe_str) (pe_one (pe_chain op_le_str op_le_str pe_str (pv 0) pe_str))))), ?_⟩
    unfold markC at k
    have a0 : ∀ {zl zh : PySem.Str} {lo hi : Nat}, zl.cps.toList = [lo] → zh.cps.toList = [hi] → ∀ {H : Hp} {Q' : VK}, Q' (.bl (decide (lo ≤ c) && decide (c ≤ hi))) H → tChain rLeS rLeS (tC (.str zl)) (tVar 0) (tC (.str zh)) (L2.start ["mark"] [.str ⟨#[c]⟩]) H Q' :=
      by
        intro zl zh lo hi hl hh H Q' q
        exact ch_sign hl hh rfl q
    refine or_bool (a := decide (97 ≤ c) && decide (c ≤ 122)) (fun Q' q => a0 (by decide +kernel) (by decide +kernel) q) (fun e => ?_) (fun e => ?_)
    · rw [e, Bool.false_or] at k
      refine or_bool (a := decide (65 ≤ c) && decide (c ≤ 90)) (fun Q' q => a0 (by decide +kernel) (by decide +kernel) q) (fun e => ?_) (fun e => ?_)
      · rw [e, Bool.false_or] at k
        exact a0 (by decide +kernel) (by decide +kernel) k
      · rw [e, Bool.true_or] at k
        exact k
    · rw [e, Bool.true_or] at k
      exact k
/-! is_symbol -/
def symB (x : PySem.Str) : Bool := (decide (1 ≤ x.length) && decide (x.length ≤ 8)) && x.cps.toList.all markC
def spSymbol : Sp := fun vs H Q _ => ∃ x : PySem.Str, vs = [.str x] ∧ x.length ≤ 1000 ∧ ∀ H', Same H H' → Q (.bl (symB x)) H'
theorem scSymbol : FnScope ["value", "mark"] ["value"] (defScope sSymbol) := ⟨rfl, rfl, rfl, by decide +kernel, rfl, by decide +kernel, by decide +kernel⟩
theorem ok_symbol {f : Addr} {fd : FuncData} (F : Fun K "is_symbol" "is_symbol" sSymbol f fd) (T : TM mg) (G : Got P w K mg base "is_symbol_mark" 1 ["mark"] spMark) : FnOk P w K mg base CX0 2 f fd ["value"] spSymbol := by
  refine F.ok scSymbol (fun vs H Q E h => ?_) (fun cdv A outer s H vs Q E hr h => ?_)
  · obtain ⟨x, rfl, _⟩ := h
    rfl
  · obtain ⟨x, rfl, hl, k⟩ := h
    refine ⟨_, pss_cons (ps_if (PW.pt (pw_or (pt_not (pt_val (pe_callB call_isi (by rfl) T.isi (by decide +kernel) (pa_cons (pv 0) (pa_cons (pe_bltn (v := .ty "str") (by rfl) T.str PyProof.Rows.Boot.str rfl) pa_nil)))))
        (pw_or1 (pt_not (pt_chain op_le op_le pe_int (pe_callB call_len_str (by rfl) T.len PySem.boot_len (pa_cons (pv 0) pa_nil)) pe_int))))) (pss_one (ps_ret pe_bl)) pss_nil)
      (pss_one (ps_ret (pe_callB (cr_all rfl) (by rfl) T.all (by decide +kernel) (pa_cons (pe_lc (own := [("mark", 1)]) (g := gName 1) (tt := tYes) (by rfl) scSymbol.nd (pi_str (pv 0))
        (blkOk_by (own := [("mark", 1)]) (N := ["value", "mark"]) (sc := defScope sSymbol) (by decide +kernel))
        (fun _ _ _ _ _ => pg_name (i := 1) scSymbol.nd rfl (Or.inl rfl)) (fun _ _ _ _ _ => pts_nil) (fun _ _ _ _ _ => pe_got G hr (by rfl) (pa_cons (pv 1) pa_nil))) pa_nil)))), ?_⟩
    have sz : x.length ≤ sizeLine := Nat.le_trans hl (by decide)
    refine ⟨_, rfl, _, _, _, _, true, rfl, .ty _, .base (.str _), kit_ty (by decide +kernel), _, rfl, ?_⟩
    refine iteF ?_
    unfold symB at k
    refine ⟨_, rfl, x, rfl, sz, _, _, rfl, rfl, _, rfl, ?_⟩
    have stop : (decide (1 ≤ x.length) && decide (x.length ≤ 8)) = false → Q (.bl false) H := fun e => by
      have q := k H (fun _ _ z => z)
      rw [e] at q
      exact q
    refine ite2 (fun c1 => ?_) (fun c1 => ?_)
    · have c1' : (1 : Int) ≤ (x.length : Int) := of_decide_eq_true c1
      refine ⟨_, _, rfl, rfl, _, rfl, ?_⟩
      refine ite2 (fun c2 => ?_) (fun c2 => ?_)
      · have c2' : ¬ ((x.length : Int) ≤ 8) := by simpa using c2
        exact stop (by rw [decide_eq_false (p := x.length ≤ 8) (by omega), Bool.and_false])
      · have c2' : (x.length : Int) ≤ 8 := by simpa using c2
        have e : (decide (1 ≤ x.length) && decide (x.length ≤ 8)) = true := by rw [decide_eq_true (by omega), decide_eq_true (by omega)] <;> rfl
        refine ⟨_, rfl, x, rfl, fun D hD => lc_it walk_str (fun i H' => Same H H' ∧ H' D = some (.lst (((x.cps.toList.take i).map markC).map V.bl)))
          ⟨same_new hD, by rw [upd_same]; rfl⟩ (fun _ _ _ _ => trivial) ?_ ?_⟩
        · rintro i y H1 H2 hi ⟨s1, hD1⟩ ⟨rfl, c0, hc0, rfl⟩
          have hc1 : x.cps.toList[i]? = some c0 := by rw [Array.getElem?_toList]; exact hc0
          refine ⟨rfl, ?_⟩
          refine ⟨_, rfl, c0, rfl, _, hD1, ?_, same_mut s1 hD, ?_⟩
          · rw [List.length_map, List.length_map, List.length_take, Array.length_toList]
            have q : x.cps.size ≤ 1000 := hl
            exact Nat.lt_of_le_of_lt (Nat.le_trans (Nat.min_le_right _ _) q) (by decide)
          · rw [upd_same, take_at hc1, List.map_append, List.map_append]
            rfl
        · rintro H1 ⟨s1, hD1⟩
          refine ⟨D, _, rfl, SqL.of hD1, ?_⟩
          have q := k H1 s1
          rw [e] at q
          have full : x.cps.toList.take x.cps.size = x.cps.toList := List.take_of_length_le (by rw [Array.length_toList]; exact Nat.le_refl _)
          rw [full, List.all_map]
          exact q
    · have c1' : ¬ ((1 : Int) ≤ (x.length : Int)) := fun z => c1 (decide_eq_true z)
      refine ⟨_, rfl, ?_⟩
      exact iteT (stop (by rw [decide_eq_false (p := 1 ≤ x.length) (by omega), Bool.false_and]))
end
end Mk

set_option Elab.async false
set_option maxRecDepth 100000
set_option maxHeartbeats 4000000
namespace Mk
open PySem L2 Pk
section
variable {P : Program} {w : World} {K : PySem.W.Frag} {mg : PySem.Str → Option Value} {base : Heap}
/-! is_alphabet -/
structure Alpha (x : PySem.Str) : Prop where
  low : lowB x = true
  pos : 1 ≤ x.length
  most : x.length ≤ 26
  up : ∀ (i c d : Nat), x.cps.toList[i]? = some c → x.cps.toList[i + 1]? = some d → c < d
def spAlphabet : Sp := fun vs H Q _ => ∃ x : PySem.Str, vs = [.str x] ∧ Alpha x ∧ ∀ H', Same H H' → Q (.bl true) H'
theorem scAlphabet : FnScope ["value", "at"] ["value"] (defScope sAlphabet) := ⟨rfl, rfl, rfl, by decide +kernel, rfl, by decide +kernel, by decide +kernel⟩
theorem dec_str (x y : PySem.Str) : decide (V.str x = V.str y) = decide (x = y) := by simp
theorem same_tr {H H' H'' : Hp} (a : Same H H') (b : Same H' H'') : Same H H'' := a.trans b
theorem ok_alphabet {f : Addr} {fd : FuncData} (F : Fun K "is_alphabet" "is_alphabet" sAlphabet f fd) (T : TM mg) (G : Got P w K mg base "are_letters" 1 ["value", "most"] spLetters) : FnOk P w K mg base CX0 2 f fd ["value"] spAlphabet := by
  refine F.ok scAlphabet (fun vs H Q E h => ?_) (fun cdv A outer s H vs Q E hr h => ?_)
  · obtain ⟨x, rfl, _⟩ := h
    rfl
  · obtain ⟨x, rfl, a, k⟩ := h
    have most := a.most
    have pos := a.pos
    refine ⟨_, pss_cons (ps_if (PW.pt (pw_or (pt_not (pt_val (pe_got G hr (by rfl) (pa_cons (pv 0) (pa_cons pe_int pa_nil)))))
        (pw_or1 (pt_cmpR op_eq (pv 0) pe_str (nomark _))))) (pss_one (ps_ret pe_bl)) pss_nil)
      (pss_one (ps_ret (pe_callB (cr_all rfl) (by rfl) T.all (by decide +kernel) (pa_cons (pe_lc (own := [("at", 1)]) (g := gName 1) (tt := tYes) (by rfl) scAlphabet.nd
        (pi_range1 (by rfl) T.range (pa_cons (pe_op op_sub (pe_callB call_len_str (by rfl) T.len PySem.boot_len (pa_cons (pv 0) pa_nil)) pe_int) pa_nil))
        (blkOk_by (own := [("at", 1)]) (N := ["value", "at"]) (sc := defScope sAlphabet) (by decide +kernel))
        (fun _ _ _ _ _ => pg_name (i := 1) scAlphabet.nd rfl (Or.inl rfl)) (fun _ _ _ _ _ => pts_nil)
        (fun _ _ _ _ _ => pe_cmpR op_lt_str (pe_ix ix_str (pv 0) (pv 1) fun _ _ => rfl) (pe_ix ix_str (pv 0) (pe_op op_add (pv 1) pe_int) fun _ _ => rfl) (nomark _))) pa_nil)))), ?_⟩
    have sz : x.length ≤ sizeLine := Nat.le_trans most (by decide)
    refine ⟨_, rfl, x, 26, rfl, Nat.le_trans most (by decide), fun H1 s1 => ⟨_, rfl, ?_⟩⟩
    rw [a.low, decide_eq_true (p := (x.length : Int) ≤ 26) (by omega)]
    refine iteF ?_
    refine ⟨_, rfl, rfl, _, rfl, ?_⟩
    have ne : ¬ x = (PySem.Str.ofString "") := fun e => by
      rw [e] at pos
      exact absurd pos (by decide +kernel)
    rw [dec_str, decide_eq_false ne]
    refine iteF ?_
    have sz2 : x.cps.size = x.length := rfl
    refine ⟨_, rfl, x, rfl, sz, _, _, rfl, rfl, _, rfl, by omega, by omega, fun D hD => lc_range (lo := 0) (n := ((x.length : Int) - 1).toNat) (fun i H' => Same H H' ∧ H' D = some (.lst ((List.replicate i true).map V.bl)))
        ⟨same_tr s1 (same_new hD), by rw [upd_same]; rfl⟩ ?_ ?_⟩
    · rintro i H2 hi ⟨s2, hD2⟩
      have h1 : i < x.cps.toList.length := by rw [Array.length_toList]; omega
      have h2 : i + 1 < x.cps.toList.length := by rw [Array.length_toList]; omega
      have e1 : x.cps.toList[i]? = some x.cps.toList[i] := List.getElem?_eq_getElem h1
      have e2 : x.cps.toList[i + 1]? = some x.cps.toList[i + 1] := List.getElem?_eq_getElem h2
      have lt := a.up i _ _ e1 e2
      refine ⟨rfl, ?_⟩
      refine ⟨_, rfl, _, rfl, x, _, _, rfl, rfl, sz, (by rw [Int.zero_add]; exact atI_nat e1), _, rfl, _, rfl, _, _, rfl, rfl, x, _, _, rfl, rfl, sz, (by rw [Int.zero_add]; exact atI_nat (j := i + 1) e2), _, _, rfl, rfl, _, hD2, ?_, same_mut s2 (s1.free hD), ?_⟩
      · rw [List.length_map, List.length_replicate]
        exact Nat.lt_of_lt_of_le (show i < 26 by omega) (by decide)
      · rw [upd_same, List.replicate_succ', List.map_append]
        show some (HO.lst (_ ++ [V.bl (decide (([x.cps.toList[i]] : List Nat) < [x.cps.toList[i + 1]]))])) = _
        rw [lt_one, decide_eq_true lt]
        rfl
    · rintro H2 ⟨s2, hD2⟩
      refine ⟨D, _, rfl, SqL.of hD2, ?_⟩
      rw [show (List.replicate ((x.length : Int) - 1).toNat true).all id = true by simp]
      exact k H2 s2
/-! is_sign -/
def Sgn (letters s : PySem.Str) : Prop := ∃ c : Nat, s = ⟨#[c]⟩ ∧ (c = 60 ∨ c = 62 ∨ c ∈ letters.cps.toList)
def spSign : Sp := fun vs H Q _ => ∃ l s : PySem.Str, vs = [.str l, .str s] ∧ Sgn l s ∧ Q (.bl true) H
theorem scSign : FnScope ["letters", "value"] ["letters", "value"] (defScope sSign) := ⟨rfl, rfl, rfl, by decide +kernel, rfl, by decide +kernel, by decide +kernel⟩
theorem ok_sign {f : Addr} {fd : FuncData} (F : Fun K "is_sign" "is_sign" sSign f fd) (T : TM mg) : FnOk P w K mg base CX0 1 f fd ["letters", "value"] spSign := by
  refine F.ok scSign (fun vs H Q E h => ?_) (fun cdv A outer s H vs Q E hr h => ?_)
  · obtain ⟨l, s, rfl, _⟩ := h
    rfl
  · obtain ⟨l, _, rfl, ⟨c, rfl, hc⟩, k⟩ := h
    refine ⟨_, pss_one (ps_ret (pe_and (pe_callB call_isi (by rfl) T.isi (by decide +kernel) (pa_cons (pv 1) (pa_cons (pe_bltn (v := .ty "str") (by rfl) T.str PyProof.Rows.Boot.str rfl) pa_nil)))
      (pe_and (pe_cmpR op_eq (pe_callB call_len_str (by rfl) T.len PySem.boot_len (pa_cons (pv 1) pa_nil)) pe_int (nomark _))
      (pe_one (pe_or (pe_cmpR op_in_sign (pv 1) pe_str rfl) (pe_one (pe_cmpR op_in_sign (pv 1) (pv 0) rfl))))))), ?_⟩
    refine ⟨_, rfl, _, _, _, _, true, rfl, .ty _, .base (.str _), kit_ty (by decide +kernel), _, rfl, ?_⟩
    refine iteT ?_
    refine ⟨_, rfl, _, rfl, (show 1 ≤ sizeLine by decide), rfl, _, rfl, ?_⟩
    refine iteT ?_
    refine or_bool (a := decide (c ∈ (PySem.Str.ofString "<>").cps.toList)) (fun Q' q => ⟨_, rfl, c, _, rfl, rfl, q⟩) (fun e => ?_) fun _ => k
    refine ⟨_, rfl, _, rfl, c, l, rfl, rfl, ?_⟩
    have e' : c ∉ ([60, 62] : List Nat) := of_decide_eq_false e
    have m : c ∈ l.cps.toList := by
      rcases hc with z | z | z
      · exact absurd (by rw [z]; decide) e'
      · exact absurd (by rw [z]; decide) e'
      · exact z
    rw [decide_eq_true m]
    exact k
end
end Mk

set_option Elab.async false
set_option maxRecDepth 100000
set_option maxHeartbeats 4000000
namespace Mk
open PySem L2 Pk
/-- x and y, of which x gives a bool -/
theorem and_bool {ta tb : TE} {σ : L2.St} {H : Hp} {Q : VK} {a : Bool} (h : ∀ Q' : VK, Q' (.bl a) H → ta σ H Q') (g : a = true → tb σ H Q) (q : a = false → Q (.bl false) H) : tAndV ta tb σ H Q := by
  refine h _ ⟨a, rfl, ?_⟩
  cases a
  · exact iteF (q rfl)
  · exact iteT (g rfl)
theorem skip_if {tA : TT} {ta u : TS} {D : Ends} {σ : L2.St} {H : Hp} (h : ∀ R : Bool → Hp → Prop, (∀ H1, Same H H1 → R false H1) → tA σ H R) (g : ∀ H1, Same H H1 → u D σ H1) : tSeq (tIfS tA ta tNext) u D σ H :=
  h _ fun H1 s1 => iteF (g H1 s1)
section
variable {P : Program} {w : World} {K : PySem.W.Frag} {mg : PySem.Str → Option Value} {base : Heap}
abbrev nil0 : PySem.Str := PySem.Str.ofString ""
/-! is_top -/
def Top (x : PySem.Str) : Prop := symB x = true ∨ x = nil0
theorem top_len {x : PySem.Str} (h : Top x) : x.length ≤ 8 := by
  rcases h with h | h
  · unfold symB at h
    rw [Bool.and_eq_true, Bool.and_eq_true, decide_eq_true_eq, decide_eq_true_eq] at h
    exact h.1.2
  · rw [h]
    decide +kernel
def spTop : Sp := fun vs H Q _ => ∃ x : PySem.Str, vs = [.str x] ∧ Top x ∧ ∀ H', Same H H' → Q (.bl true) H'
theorem scTop : FnScope ["value"] ["value"] (defScope sTop) := ⟨rfl, rfl, rfl, by decide +kernel, rfl, by decide +kernel, by decide +kernel⟩
theorem ok_top {f : Addr} {fd : FuncData} (F : Fun K "is_top" "is_top" sTop f fd) (T : TM mg) (G : Got P w K mg base "is_symbol" 2 ["value"] spSymbol) : FnOk P w K mg base CX0 3 f fd ["value"] spTop := by
  refine F.ok scTop (fun vs H Q E h => ?_) (fun cdv A outer s H vs Q E hr h => ?_)
  · obtain ⟨x, rfl, _⟩ := h
    rfl
  · obtain ⟨x, rfl, ht, k⟩ := h
    refine ⟨_, pss_one (ps_ret (pe_or (pe_got G hr (by rfl) (pa_cons (pv 0) pa_nil)) (pe_one (pe_and (pe_callB call_isi (by rfl) T.isi (by decide +kernel) (pa_cons (pv 0) (pa_cons (pe_bltn (v := .ty "str") (by rfl) T.str PyProof.Rows.Boot.str rfl) pa_nil)))
      (pe_one (pe_cmpR op_eq (pv 0) pe_str (nomark _))))))), ?_⟩
    refine ⟨_, rfl, x, rfl, Nat.le_trans (top_len ht) (by decide), fun H1 s1 => ⟨_, rfl, ?_⟩⟩
    rcases ht with e | e
    · rw [e]
      exact iteT (k H1 s1)
    · refine ite2 (fun _ => k H1 s1) fun _ => ?_
      refine ⟨_, rfl, _, _, _, _, true, rfl, .ty _, .base (.str _), kit_ty (by decide +kernel), _, rfl, ?_⟩
      refine iteT ?_
      refine ⟨_, rfl, rfl, ?_⟩
      rw [dec_str, e, decide_eq_true rfl]
      exact k H1 s1
/-! is_move -/
abbrev lt0 : PySem.Str := PySem.Str.ofString "<"
abbrev gt0 : PySem.Str := PySem.Str.ofString ">"
structure Mv (s : PySem.Str) (v : Int) : Prop where
  lo : -1 ≤ v
  hi : v ≤ 1
  l : s = lt0 → v ≠ -1
  r : s = gt0 → v ≠ 1
def spMove : Sp := fun vs H Q _ => ∃ (s : PySem.Str) (v : Int), vs = [.str s, .int v] ∧ Mv s v ∧ Q (.bl true) H
theorem scMove : FnScope ["sign", "value"] ["sign", "value"] (defScope sMove) := ⟨rfl, rfl, rfl, by decide +kernel, rfl, by decide +kernel, by decide +kernel⟩
theorem dec_intV (x y : Int) : decide (V.int x = V.int y) = decide (x = y) := by simp
theorem ok_move {f : Addr} {fd : FuncData} (F : Fun K "is_move" "is_move" sMove f fd) (G : Got P w K mg base "is_between" 2 ["value", "least", "most"] spBetween) : FnOk P w K mg base CX0 3 f fd ["sign", "value"] spMove := by
  refine F.ok scMove (fun vs H Q E h => ?_) (fun cdv A outer s H vs Q E hr h => ?_)
  · obtain ⟨x, v, rfl, _⟩ := h
    rfl
  · obtain ⟨x, v, rfl, m, k⟩ := h
    refine ⟨_, pss_cons (ps_if (pt_not (pt_val (pe_got G hr (by rfl) (pa_cons (pv 1) (pa_cons (pe_un un_neg pe_int) (pa_cons pe_int pa_nil)))))) (pss_one (ps_ret pe_bl)) pss_nil)
      (pss_one (ps_ret (pe_not (pe_or (pe_and (pe_cmpR op_eq (pv 0) pe_str (nomark _)) (pe_one (pe_cmpR op_eq (pv 1) (pe_un un_neg pe_int) (nomark _))))
        (pe_one (pe_and (pe_cmpR op_eq (pv 0) pe_str (nomark _)) (pe_one (pe_cmpR op_eq (pv 1) pe_int (nomark _))))))))), ?_⟩
    refine ⟨_, rfl, _, rfl, v, -1, 1, rfl, _, rfl, ?_⟩
    rw [decide_eq_true m.lo, decide_eq_true m.hi]
    refine iteF ?_
    have fin : ∀ b : Bool, b = false → ∃ c, V.bl b = V.bl c ∧ Q (.bl (!c)) H := fun b e => by
      rw [e]
      exact ⟨false, rfl, k⟩
    dsimp only [tNext, tRet, tNotV]
    refine or_bool (a := decide (x = lt0) && decide (v = -1)) (fun Q' q => ?_) (fun e => ?_) (fun e => ?_)
    · refine and_bool (a := decide (x = lt0)) (fun Q2 q2 => ⟨_, rfl, rfl, by rw [dec_str]; exact q2⟩) (fun e => ?_) (fun e => ?_)
      · refine ⟨_, rfl, _, rfl, rfl, ?_⟩
        rw [dec_intV]
        rw [e] at q
        exact q
      · rw [e] at q
        exact q
    · refine and_bool (a := decide (x = gt0)) (fun Q2 q2 => ⟨_, rfl, rfl, by rw [dec_str]; exact q2⟩) (fun e => ?_) (fun e => ?_)
      · refine ⟨_, rfl, rfl, ?_⟩
        rw [dec_intV, decide_eq_false (m.r (of_decide_eq_true e))]
        exact fin _ rfl
      · exact fin _ rfl
    · rw [Bool.and_eq_true, decide_eq_true_eq, decide_eq_true_eq] at e
      exact absurd e.2 (m.l e.1)
/-! is_deed -/
abbrev keep0 : PySem.Str := PySem.Str.ofString "keep"
abbrev pop0 : PySem.Str := PySem.Str.ofString "pop"
abbrev push0 : PySem.Str := PySem.Str.ofString "push"
abbrev swap0 : PySem.Str := PySem.Str.ofString "swap"
structure Deed (t d s : PySem.Str) : Prop where
  one : d = keep0 ∨ d = pop0 ∨ d = push0 ∨ d = swap0
  low : t = nil0 → d = keep0 ∨ d = push0
  sym : d = push0 ∨ d = swap0 → symB s = true
  no : d = keep0 ∨ d = pop0 → s = nil0
/-- the module's tuple DEEDS -/
def Deeds (K : PySem.W.Frag) (mg : PySem.Str → Option Value) : Prop := ∃ a, mg "DEEDS" = some (.ref a) ∧ ∀ H : Hp, SqT K H a [.str keep0, .str pop0, .str push0, .str swap0]
def spDeed : Sp := fun vs H Q _ => ∃ t d s : PySem.Str, vs = [.str t, .str d, .str s] ∧ Deed t d s ∧ ∀ H', Same H H' → Q (.bl true) H'
theorem scDeed : FnScope ["top", "deed", "symbol"] ["top", "deed", "symbol"] (defScope sDeed) := ⟨rfl, rfl, rfl, by decide +kernel, rfl, by decide +kernel, by decide +kernel⟩
theorem ok_deed {f : Addr} {fd : FuncData} (F : Fun K "is_deed" "is_deed" sDeed f fd) (T : TM mg) (D : Deeds K mg) (G : Got P w K mg base "is_symbol" 2 ["value"] spSymbol) : FnOk P w K mg base CX0 3 f fd ["top", "deed", "symbol"] spDeed := by
  refine F.ok scDeed (fun vs H Q E h => ?_) (fun cdv A outer s H vs Q E hr h => ?_)
  · obtain ⟨t, d, x, rfl, _⟩ := h
    rfl
  · obtain ⟨t, d, x, rfl, m, k⟩ := h
    obtain ⟨aD, gD, hD⟩ := D
    refine ⟨_, pss_cons (ps_if (PW.pt (pw_or (pt_not (pt_val (pe_callB call_isi (by rfl) T.isi (by decide +kernel) (pa_cons (pv 1) (pa_cons (pe_bltn (v := .ty "str") (by rfl) T.str PyProof.Rows.Boot.str rfl) pa_nil)))))
        (pw_or1 (pt_cmpR op_notIn_seq (pv 1) (pe_glob (v := .ref aD) (by rfl) gD rfl) rfl)))) (pss_one (ps_ret pe_bl)) pss_nil)
      (pss_cons (ps_if (PW.pt (pw_and (pt_cmpR op_eq (pv 0) pe_str (nomark _)) (pw_and1 (pt_cmpR op_notIn_seq (pv 1) (pe_tup (pa_cons pe_str (pa_cons pe_str pa_nil))) rfl)))) (pss_one (ps_ret pe_bl)) pss_nil)
      (pss_cons (ps_if (pt_cmpR op_in_seq (pv 1) (pe_tup (pa_cons pe_str (pa_cons pe_str pa_nil))) rfl) (pss_one (ps_ret (pe_got G hr (by rfl) (pa_cons (pv 2) pa_nil)))) pss_nil)
      (pss_one (ps_ret (pe_and (pe_callB call_isi (by rfl) T.isi (by decide +kernel) (pa_cons (pv 2) (pa_cons (pe_bltn (v := .ty "str") (by rfl) T.str PyProof.Rows.Boot.str rfl) pa_nil)))
        (pe_one (pe_cmpR op_eq (pv 2) pe_str (nomark _)))))))), ?_⟩
    refine ⟨_, rfl, _, _, _, _, true, rfl, .ty _, .base (.str _), kit_ty (by decide +kernel), _, rfl, ?_⟩
    refine iteF ?_
    have rest : ∀ H1 : Hp, Same H H1 → (∀ H2, Same H1 H2 → Q (.bl true) H2) := fun H1 s1 H2 s2 => k H2 (s1.trans s2)
    have inD : inV (.str d) [.str keep0, .str pop0, .str push0, .str swap0] = true := by
      rcases m.one with e | e | e | e <;> rw [e] <;> decide +kernel
    refine ⟨_, rfl, aD, _, rfl, .inr (hD H), rfl, rfl, _, rfl, ?_⟩
    rw [inD]
    refine iteF ?_
    have two : ∀ {a b : PySem.Str} {p : Addr} {H1 : Hp}, SqT K (upd H1 p (.tup [.str a, .str b])) p [.str a, .str b] := .inl (.inl upd_same)
    dsimp only [tNext]
    refine skip_if (fun R r => ?_) (fun H1 s1 => ?_)
    · refine ⟨_, rfl, rfl, _, rfl, ?_⟩
      refine ite2 (fun e => ?_) (fun _ => r H (fun _ _ z => z))
      rw [dec_str, decide_eq_true_eq] at e
      refine ⟨_, rfl, by decide, fun p hp => ⟨p, _, rfl, .inr two, rfl, rfl, _, rfl, ?_⟩⟩
      have z : inV (.str d) [.str keep0, .str push0] = true := by
        rcases m.low e with e | e <;> rw [e] <;> decide +kernel
      rw [z]
      exact r _ (same_new hp)
    · by_cases e : d = push0 ∨ d = swap0
      · have z : inV (.str d) [.str push0, .str swap0] = true := by
          rcases e with e | e <;> rw [e] <;> decide +kernel
        refine ⟨_, rfl, by decide, fun p hp => ⟨p, _, rfl, .inr two, rfl, rfl, _, rfl, ?_⟩⟩
        rw [z]
        refine iteT ?_
        have y := m.sym e
        refine ⟨_, rfl, x, rfl, Nat.le_trans (top_len (.inl y)) (by decide), fun H2 s2 => ?_⟩
        rw [y]
        exact k H2 ((s1.trans (same_new hp)).trans s2)
      · have e2 : d = keep0 ∨ d = pop0 := by
          rcases m.one with z | z | z | z
          · exact .inl z
          · exact .inr z
          · exact absurd (.inl z) e
          · exact absurd (.inr z) e
        have z : inV (.str d) [.str push0, .str swap0] = false := by
          rcases e2 with e | e <;> rw [e] <;> decide +kernel
        refine ⟨_, rfl, by decide, fun p hp => ⟨p, _, rfl, .inr two, rfl, rfl, _, rfl, ?_⟩⟩
        rw [z]
        refine iteF ?_
        refine ⟨_, rfl, _, _, _, _, true, rfl, .ty _, .base (.str _), kit_ty (by decide +kernel), _, rfl, ?_⟩
        refine iteT ?_
        refine ⟨_, rfl, rfl, ?_⟩
        rw [dec_str, m.no e2, decide_eq_true rfl]
        exact k _ (s1.trans (same_new hp))
end
end Mk

set_option Elab.async false
set_option maxRecDepth 100000
set_option maxHeartbeats 4000000
namespace Mk
open PySem L2 Pk
def gSq (b : Bool) (K : PySem.W.Frag) (n : Nat) (t : TGs) : TG := match b with
  | true => gLst K n t
  | false => gTup K n t
theorem pg_sq {X : Cx} {pos : Pos} {es : List Expr} {k : Nat} {t : TGs} {n : Nat} (b : Bool) (hc : X.calm = true) (h : PGs X es t)
    (hn : (assignEach es X.env).length = n := by rfl) (hst : (assignEach es X.env).findIdx? (·.1) = none := by rfl) : PG X (.Tuple es k pos) (gSq b X.K n t) := by
  cases b
  · exact pg_tup hc h hn hst
  · exact pg_lst hc h hn hst
theorem gsq_of {b : Bool} {K : PySem.W.Frag} {n : Nat} {t : TGs} {v : V} {σ : L2.St} {H : Hp} {Q} (h : ∃ a xs, v = .ref a ∧ SqB b K H a xs ∧ xs.length = n ∧ t xs σ H Q) : gSq b K n t v σ H Q := by
  cases b
  · exact h
  · exact h
/-- a rule -/
structure Rl where
  st : Int
  sg : PySem.Str
  tp : PySem.Str
  af : Int
  mv : Int
  de : PySem.Str
  sy : PySem.Str
  sa : PySem.Str
  deriving DecidableEq
def Rl.vs (r : Rl) : List V := [.int r.st, .str r.sg, .str r.tp, .int r.af, .int r.mv, .str r.de, .str r.sy, .str r.sa]
structure RlOk (l : PySem.Str) (n : Int) (r : Rl) : Prop where
  st : 0 ≤ r.st ∧ r.st ≤ n - 1
  sg : Sgn l r.sg
  tp : Top r.tp
  af : 0 ≤ r.af ∧ r.af ≤ n - 1
  mv : Mv r.sg r.mv
  de : Deed r.tp r.de r.sy
  sa : lowB r.sa = true ∧ r.sa.length ≤ 3
section
variable {P : Program} {w : World} {K : PySem.W.Frag} {mg : PySem.Str → Option Value} {base : Heap}
/-! is_state -/
def spState : Sp := fun vs H Q _ => ∃ n v : Int, vs = [.int n, .int v] ∧ Q (.bl (decide (0 ≤ v) && decide (v ≤ n - 1))) H
theorem scState : FnScope ["states", "value"] ["states", "value"] (defScope sState) := ⟨rfl, rfl, rfl, by decide +kernel, rfl, by decide +kernel, by decide +kernel⟩
theorem ok_state {f : Addr} {fd : FuncData} (F : Fun K "is_state" "is_state" sState f fd) (G : Got P w K mg base "is_between" 2 ["value", "least", "most"] spBetween) : FnOk P w K mg base CX0 3 f fd ["states", "value"] spState := by
  refine F.ok scState (fun vs H Q E h => ?_) (fun cdv A outer s H vs Q E hr h => ?_)
  · obtain ⟨n, v, rfl, _⟩ := h
    rfl
  · obtain ⟨n, v, rfl, k⟩ := h
    refine ⟨_, pss_one (ps_ret (pe_got G hr (by rfl) (pa_cons (pv 1) (pa_cons pe_int (pa_cons (pe_op op_sub (pv 0) pe_int) pa_nil))))), ?_⟩
    exact ⟨_, rfl, _, rfl, _, _, rfl, rfl, v, 0, n - 1, rfl, k⟩
/-! is_rule -/
structure RuleDefs (P : Program) (w : World) (K : PySem.W.Frag) (mg : PySem.Str → Option Value) (base : Heap) : Prop where
  row : Got P w K mg base "is_row" 2 ["value", "length"] (spRow K)
  state : Got P w K mg base "is_state" 3 ["states", "value"] spState
  sign : Got P w K mg base "is_sign" 1 ["letters", "value"] spSign
  top : Got P w K mg base "is_top" 3 ["value"] spTop
  move : Got P w K mg base "is_move" 3 ["sign", "value"] spMove
  deed : Got P w K mg base "is_deed" 3 ["top", "deed", "symbol"] spDeed
  letters : Got P w K mg base "are_letters" 1 ["value", "most"] spLetters
def spRule (K : PySem.W.Frag) : Sp := fun vs H Q _ => ∃ (l : PySem.Str) (n : Int) (a : Addr) (b : Bool) (r : Rl), vs = [.str l, .int n, .ref a] ∧ SqB b K H a r.vs ∧ RlOk l n r ∧ ∀ H', Same H H' → Q (.bl true) H'
abbrev nRule : List PySem.Str := ["letters", "states", "value", "state", "sign", "top", "after", "move", "deed", "symbol", "said"]
theorem scRule : FnScope nRule ["letters", "states", "value"] (defScope sRule) := ⟨rfl, rfl, rfl, by decide +kernel, rfl, by decide +kernel, by decide +kernel⟩
theorem ok_rule {f : Addr} {fd : FuncData} (F : Fun K "is_rule" "is_rule" sRule f fd) (G : RuleDefs P w K mg base) : FnOk P w K mg base CX0 4 f fd ["letters", "states", "value"] (spRule K) := by
  refine F.ok scRule (fun vs H Q E h => ?_) (fun cdv A outer s H vs Q E hr h => ?_)
  · obtain ⟨l, n, a, b, r, rfl, _⟩ := h
    rfl
  · obtain ⟨l, n, a, b, r, rfl, hS, ok, k⟩ := h
    have h2 := hr.mono (show 2 ≤ 3 by decide)
    have h1 := hr.mono (show 1 ≤ 3 by decide)
    refine ⟨_, pss_cons (ps_if (pt_not (pt_val (pe_got G.row h2 (by rfl) (pa_cons (pv 2) (pa_cons pe_int pa_nil))))) (pss_one (ps_ret pe_bl)) pss_nil)
      (pss_cons (ps_asg (pv 2) (pg_sq b (by rfl) (pgs_cons (pg_name (i := 3) scRule.nd rfl (Or.inl rfl)) (pgs_cons (pg_name (i := 4) scRule.nd rfl (Or.inl rfl)) (pgs_cons (pg_name (i := 5) scRule.nd rfl (Or.inl rfl))
        (pgs_cons (pg_name (i := 6) scRule.nd rfl (Or.inl rfl)) (pgs_cons (pg_name (i := 7) scRule.nd rfl (Or.inl rfl)) (pgs_cons (pg_name (i := 8) scRule.nd rfl (Or.inl rfl)) (pgs_cons (pg_name (i := 9) scRule.nd rfl (Or.inl rfl)) (pgs_cons (pg_name (i := 10) scRule.nd rfl (Or.inl rfl)) pgs_nil))))))))))
      (pss_cons (ps_if (pt_not (PW.pt (pw_and (pt_val (pe_got G.state hr (by rfl) (pa_cons (pv 1) (pa_cons (pv 3) pa_nil)))) (pw_and (pt_val (pe_got G.sign h1 (by rfl) (pa_cons (pv 0) (pa_cons (pv 4) pa_nil)))) (pw_and1 (pt_val (pe_got G.top hr (by rfl) (pa_cons (pv 5) pa_nil))))))) ) (pss_one (ps_ret pe_bl)) pss_nil)
      (pss_cons (ps_if (pt_not (PW.pt (pw_and (pt_val (pe_got G.state hr (by rfl) (pa_cons (pv 1) (pa_cons (pv 6) pa_nil)))) (pw_and1 (pt_val (pe_got G.move hr (by rfl) (pa_cons (pv 4) (pa_cons (pv 7) pa_nil))))))) ) (pss_one (ps_ret pe_bl)) pss_nil)
      (pss_one (ps_ret (pe_and (pe_got G.deed hr (by rfl) (pa_cons (pv 5) (pa_cons (pv 8) (pa_cons (pv 9) pa_nil)))) (pe_one (pe_got G.letters h1 (by rfl) (pa_cons (pv 10) (pa_cons pe_int pa_nil)))))))))), ?_⟩
    refine ⟨_, rfl, a, b, r.vs, 8, rfl, hS, fun H1 s1 => ⟨_, rfl, ?_⟩⟩
    rw [show decide (((r.vs.length : Nat) : Int) = 8) = true from rfl]
    refine iteF ?_
    refine ⟨_, rfl, gsq_of ⟨a, r.vs, rfl, hS.mono s1, rfl, _, _, rfl, _, _, rfl, _, _, rfl, _, _, rfl, _, _, rfl, _, _, rfl, _, _, rfl, _, _, rfl, rfl, ?_⟩⟩
    refine ⟨_, rfl, _, rfl, n, r.st, rfl, _, rfl, ?_⟩
    rw [decide_eq_true ok.st.1, decide_eq_true ok.st.2]
    refine iteT ?_
    refine ⟨_, rfl, _, rfl, l, r.sg, rfl, ok.sg, _, rfl, ?_⟩
    refine iteT ?_
    refine ⟨_, rfl, r.tp, rfl, ok.tp, fun H2 s2 => ⟨_, rfl, ?_⟩⟩
    refine iteF ?_
    refine ⟨_, rfl, _, rfl, n, r.af, rfl, _, rfl, ?_⟩
    rw [decide_eq_true ok.af.1, decide_eq_true ok.af.2]
    refine iteT ?_
    refine ⟨_, rfl, _, rfl, r.sg, r.mv, rfl, ok.mv, _, rfl, ?_⟩
    refine iteF ?_
    refine ⟨_, rfl, _, rfl, _, rfl, r.tp, r.de, r.sy, rfl, ok.de, fun H3 s3 => ⟨_, rfl, ?_⟩⟩
    refine iteT ?_
    refine ⟨_, rfl, r.sa, 3, rfl, Nat.le_trans ok.sa.2 (by decide), fun H4 s4 => ?_⟩
    rw [ok.sa.1, decide_eq_true (p := (r.sa.length : Int) ≤ 3) (by have := ok.sa.2; omega)]
    exact k H4 (((s1.trans s2).trans s3).trans s4)
end
end Mk

set_option Elab.async false
set_option maxRecDepth 100000
set_option maxHeartbeats 4000000
namespace Mk
open PySem L2 Pk
def iSq (b : Bool) (K : PySem.W.Frag) (tl : TE) : TI := match b with
  | true => iList K tl
  | false => iTup K tl
theorem pi_sq {X : Cx} {tg l : Expr} {tl : TE} (b : Bool) (hl : PE X l tl) : PI X tg l (iSq b X.K tl) := by
  cases b
  · exact pi_tup hl
  · exact pi_list hl
def ItB (b : Bool) (K : PySem.W.Frag) (a : Addr) := match b with
  | true => Itl K a
  | false => Itt K a
theorem isq_of {b : Bool} {K : PySem.W.Frag} {tl : TE} {σ : L2.St} {H : Hp} {R} (h : tl σ H fun x H1 => ∃ a, x = .ref a ∧ (∃ xs, SqB b K H1 a xs) ∧ R (ItB b K a) H1) : iSq b K tl σ H R := by
  cases b
  · exact h
  · exact h
/-- a walk over a list or a tuple that stays -/
theorem walk_sq {b : Bool} {K : PySem.W.Frag} {a : Addr} {xs : List V} : Walk (ItB b K a) xs.length (fun H => SqB b K H a xs) (YAt xs) := by
  cases b
  · exact walk_tup
  · exact walk_list
theorem ix_sq {b : Bool} {K : PySem.W.Frag} {H : Hp} {a : Addr} {xs : List V} {i : Int} {v : V} {Q : VK} (h : SqB b K H a xs) (e : atI xs i = some v) (q : Q v H) : rIx K (.ref a) (.int i) H Q := by
  cases b
  · exact .inr (.inl ⟨a, xs, i, v, rfl, rfl, h, e, q⟩)
  · exact .inl ⟨a, xs, i, v, rfl, rfl, h, e, q⟩
abbrev sCheck : Stmt := top 33
/-- rules as they are handed in -/
abbrev Hand := List (Addr × Bool × Rl)
structure HandOk (K : PySem.W.Frag) (H : Hp) (l : PySem.Str) (n : Int) (R : Hand) : Prop where
  at_ : ∀ p ∈ R, SqB p.2.1 K H p.1 p.2.2.vs
  ok : ∀ p ∈ R, RlOk l n p.2.2
  most : R.length ≤ 20000
theorem HandOk.mono {K : PySem.W.Frag} {H H' : Hp} {l : PySem.Str} {n : Int} {R : Hand} (h : HandOk K H l n R) (e : Same H H') : HandOk K H' l n R := ⟨fun p m => (h.at_ p m).mono e, h.ok, h.most⟩
section
variable {P : Program} {w : World} {K : PySem.W.Frag} {mg : PySem.Str → Option Value} {base : Heap}
structure ChkDefs (P : Program) (w : World) (K : PySem.W.Frag) (mg : PySem.Str → Option Value) (base : Heap) : Prop where
  alphabet : Got P w K mg base "is_alphabet" 2 ["value"] spAlphabet
  between : Got P w K mg base "is_between" 2 ["value", "least", "most"] spBetween
  sequence : Got P w K mg base "is_sequence" 1 ["value"] (spSequence K)
  rule : Got P w K mg base "is_rule" 4 ["letters", "states", "value"] (spRule K)
  state : Got P w K mg base "is_state" 3 ["states", "value"] spState
  ms : ∃ t, mg "MOST_STATES" = some (.int 2000 t)
  mr : ∃ t, mg "MOST_RULES" = some (.int 20000 t)
def refsH (R : Hand) : List V := R.map fun p => .ref p.1
structure ArgsOk (K : PySem.W.Frag) (H : Hp) (l : PySem.Str) (n : Int) (aR aY : Addr) (bR bY : Bool) (R : Hand) (ys : List Int) : Prop where
  alpha : Alpha l
  num : 1 ≤ n ∧ n ≤ 2000
  rs : SqB bR K H aR (refsH R)
  hand : HandOk K H l n R
  yes : SqB bY K H aY (ys.map V.int)
  in_ : ∀ y ∈ ys, 0 ≤ y ∧ y ≤ n - 1
  few : ys.length ≤ 100000
def spCheck (K : PySem.W.Frag) : Sp := fun vs H Q _ => ∃ (l : PySem.Str) (n : Int) (aR aY : Addr) (bR bY : Bool) (R : Hand) (ys : List Int), vs = [.str l, .int n, .ref aR, .ref aY] ∧ ArgsOk K H l n aR aY bR bY R ys ∧ ∀ H', Same H H' → Q .non H'
abbrev nCheck : List PySem.Str := ["letters", "states", "rules", "yes", "index", "state"]
theorem scCheck : FnScope nCheck ["letters", "states", "rules", "yes"] (defScope sCheck) := ⟨rfl, rfl, rfl, by decide +kernel, rfl, by decide +kernel, by decide +kernel⟩
theorem ok_check {f : Addr} {fd : FuncData} (F : Fun K "check_arguments" "check_arguments" sCheck f fd) (T : TM mg) (G : ChkDefs P w K mg base) : FnOk P w K mg base CX0 5 f fd ["letters", "states", "rules", "yes"] (spCheck K) := by
  refine F.ok scCheck (fun vs H Q E h => ?_) (fun cdv A outer s H vs Q E hr h => ?_)
  · obtain ⟨l, n, aR, aY, bR, bY, R, ys, rfl, _⟩ := h
    rfl
  · obtain ⟨l, n, aR, aY, bR, bY, R, ys, rfl, a, k⟩ := h
    obtain ⟨t1, gS⟩ := G.ms
    obtain ⟨t2, gR⟩ := G.mr
    have h1 := hr.mono (show 1 ≤ 4 by decide)
    have h2 := hr.mono (show 2 ≤ 4 by decide)
    have h3 := hr.mono (show 3 ≤ 4 by decide)
    have most := a.hand.most
    refine ⟨_, pss_cons (ps_if (pt_not (pt_val (pe_got G.alphabet h2 (by rfl) (pa_cons (pv 0) pa_nil)))) pss_never pss_nil)
      (pss_cons (ps_if (pt_not (pt_val (pe_got G.between h2 (by rfl) (pa_cons (pv 1) (pa_cons pe_int (pa_cons (pe_glob (v := .int 2000) (by rfl) gS ⟨t1, rfl⟩) pa_nil)))))) pss_never pss_nil)
      (pss_cons (ps_if (PW.pt (pw_or (pt_not (pt_val (pe_got G.sequence h1 (by rfl) (pa_cons (pv 2) pa_nil)))) (pw_or1 (pt_cmpR op_gt (pe_callB call_len_seq (by rfl) T.len PySem.boot_len (pa_cons (pv 2) pa_nil)) (pe_glob (v := .int 20000) (by rfl) gR ⟨t2, rfl⟩) (nomark _))))) pss_never pss_nil)
      (pss_cons (ps_for PassesOwn.never rfl (pi_range1 (by rfl) T.range (pa_cons (pe_callB call_len_seq (by rfl) T.len PySem.boot_len (pa_cons (pv 2) pa_nil)) pa_nil)) (pg_name (i := 4) scCheck.nd rfl (Or.inl rfl))
        (pss_one (ps_if (pt_not (pt_val (pe_got G.rule hr (by rfl) (pa_cons (pv 0) (pa_cons (pv 1) (pa_cons (pe_ix ix_seq (pv 2) (pv 4) fun _ _ => rfl) pa_nil)))))) pss_never pss_nil)))
      (pss_one (ps_if (PW.pt (pw_or (pt_not (pt_val (pe_got G.sequence h1 (by rfl) (pa_cons (pv 3) pa_nil)))) (pw_or1 (pt_not (pt_val (pe_callB (cr_all rfl) (by rfl) T.all (by decide +kernel) (pa_cons (pe_lc (own := [("state", 5)]) (g := gName 5) (tt := tYes) (by rfl) scCheck.nd (pi_sq bY (pv 3))
        (blkOk_by (own := [("state", 5)]) (N := nCheck) (sc := defScope sCheck) (by decide +kernel))
        (fun _ _ _ _ _ => pg_name (i := 5) scCheck.nd rfl (Or.inl rfl)) (fun _ _ _ _ _ => pts_nil) (fun _ _ _ _ _ => pe_got G.state h3 (by rfl) (pa_cons (pv 1) (pa_cons (pv 5) pa_nil)))) pa_nil))))))) pss_never pss_nil))))), ?_⟩
    refine ⟨_, rfl, l, rfl, a.alpha, fun H1 s1 => ⟨_, rfl, ?_⟩⟩
    refine iteF ?_
    refine ⟨_, rfl, n, 1, 2000, rfl, _, rfl, ?_⟩
    rw [decide_eq_true a.num.1, decide_eq_true a.num.2]
    refine iteF ?_
    refine ⟨_, rfl, aR, bR, _, rfl, a.rs.mono s1, fun H2 s2 => ⟨_, rfl, ?_⟩⟩
    refine iteF ?_
    have s12 := s1.trans s2
    have lR : (refsH R).length = R.length := List.length_map ..
    refine ⟨_, rfl, aR, _, rfl, (a.rs.mono s12).any, _, _, rfl, rfl, _, rfl, ?_⟩
    rw [decide_eq_false (p := ((refsH R).length : Int) > 20000) (by rw [lR]; omega)]
    refine iteF ?_
    refine ⟨_, rfl, aR, _, rfl, (a.rs.mono s12).any, _, rfl, by omega, by omega, for_range (lo := 0) (n := (((refsH R).length : Nat) : Int).toNat) (fun i σ H' => Same H H' ∧ ∃ v : Option V, σ = [some (.str l), some (.int n), some (.ref aR), some (.ref aY), v, none])
      ⟨s12, none, rfl⟩ ?_ ?_⟩
    · rintro i σ H3 hi ⟨s3, v, rfl⟩
      have hi' : i < R.length := by omega
      have hx : (refsH R)[i]? = some (.ref R[i].1) := by unfold refsH; rw [List.getElem?_map, List.getElem?_eq_getElem hi'] <;> rfl
      have m : R[i] ∈ R := List.getElem_mem hi'
      refine ⟨_, rfl, _, rfl, _, rfl, _, rfl, ix_sq (a.rs.mono s3) (by rw [Int.zero_add]; exact atI_nat hx) ?_⟩
      refine ⟨l, n, _, _, R[i].2.2, rfl, (a.hand.at_ _ m).mono s3, a.hand.ok _ m, fun H4 s4 => ⟨_, rfl, ?_⟩⟩
      refine iteF ?_
      exact ⟨s3.trans s4, _, rfl⟩
    · rintro σ H3 ⟨s3, v, rfl⟩
      refine ⟨_, rfl, aY, bY, _, rfl, a.yes.mono s3, fun H4 s4 => ⟨_, rfl, ?_⟩⟩
      refine iteF ?_
      have s34 := s3.trans s4
      refine isq_of ⟨_, rfl, aY, rfl, ⟨_, a.yes.mono s34⟩, fun D hD => lc_it (walk_sq (b := bY) (K := K) (a := aY) (xs := ys.map V.int)) (fun i H' => Same H H' ∧ H' D = some (.lst ((List.replicate i true).map V.bl)))
        ⟨s34.trans (same_new hD), by rw [upd_same]; rfl⟩ (fun i H' _ h => a.yes.mono h.1) ?_ ?_⟩
      · rintro i y H5 H6 hi ⟨s5, hD5⟩ ⟨rfl, ey⟩
        obtain ⟨z, ez, rfl⟩ := mapInt ey
        have iz := a.in_ z (List.mem_of_getElem? ez)
        rw [List.length_map] at hi
        refine ⟨rfl, ?_⟩
        refine ⟨_, rfl, _, rfl, n, z, rfl, _, hD5, ?_, same_mut s5 (s34.free hD), ?_⟩
        · rw [List.length_map, List.length_replicate]
          exact Nat.lt_of_lt_of_le (Nat.lt_of_lt_of_le hi a.few) (by decide)
        · rw [upd_same, List.replicate_succ', List.map_append, decide_eq_true iz.1, decide_eq_true iz.2]
          rfl
      · rintro H5 ⟨s5, hD5⟩
        refine ⟨D, _, rfl, SqL.of hD5, _, rfl, ?_⟩
        rw [show (List.replicate (ys.map V.int).length true).all id = true by simp]
        refine iteF ?_
        exact k H5 s5
end
end Mk

/-! the map x ↦ 5 x + 1 modulo a power of two runs through all places -/
namespace Sx
/-- 1 + 5 + .. + 5^(n-1) -/
def geo : Nat → Nat
  | 0 => 0
  | n + 1 => geo n * 5 + 1
theorem geo_pow : ∀ n, 4 * geo n + 1 = 5 ^ n
  | 0 => rfl
  | n + 1 => by
    have h := geo_pow n
    show 4 * (geo n * 5 + 1) + 1 = 5 ^ n * 5
    omega
theorem geo_add (a : Nat) : ∀ b, geo (a + b) = geo a * 5 ^ b + geo b
  | 0 => by show geo a = geo a * 1 + 0; omega
  | b + 1 => by
    have h := geo_add a b
    show geo (a + b) * 5 + 1 = geo a * (5 ^ b * 5) + (geo b * 5 + 1)
    rw [h, Nat.add_mul, Nat.mul_assoc]
    omega
theorem geo_odd : ∀ n, geo n % 2 = n % 2
  | 0 => rfl
  | n + 1 => by
    have h := geo_odd n
    show (geo n * 5 + 1) % 2 = (n + 1) % 2
    omega
theorem pow5_mod4 (n : Nat) : 5 ^ n % 4 = 1 := by
  have h := geo_pow n
  omega
/-- geo (2 n) = geo n times twice an odd number -/
theorem geo_two (n : Nat) : ∃ q, geo (2 * n) = geo n * (2 * (2 * q + 1)) := by
  have h4 := pow5_mod4 n
  refine ⟨5 ^ n / 4, ?_⟩
  have e : 5 ^ n + 1 = 2 * (2 * (5 ^ n / 4) + 1) := by omega
  rw [← e, show 2 * n = n + n by omega, geo_add, Nat.mul_add, Nat.mul_one]
theorem odd_drop {k a q : Nat} (h : 2 ^ k ∣ a * (2 * q + 1)) : 2 ^ k ∣ a := by
  induction k generalizing a with
  | zero => exact ⟨a, by simp⟩
  | succ k ih =>
    have h1 : 2 ^ k ∣ a * (2 * q + 1) := Nat.dvd_trans ⟨2, by rw [Nat.pow_succ]⟩ h
    obtain ⟨b, rfl⟩ := ih h1
    obtain ⟨c, hc⟩ := h
    have hp : 0 < 2 ^ k := Nat.pow_pos (by decide)
    have e : b * (2 * q + 1) = 2 * c := by
      have : 2 ^ k * (b * (2 * q + 1)) = 2 ^ k * (2 * c) := by
        rw [← Nat.mul_assoc, hc, Nat.pow_succ, Nat.mul_assoc]
      exact Nat.eq_of_mul_eq_mul_left hp this
    have e2 : b * (2 * q) + b = 2 * c := by rw [← e, Nat.mul_add, Nat.mul_one]
    have e3 : b * (2 * q) = 2 * (b * q) := by rw [← Nat.mul_assoc, Nat.mul_comm b 2, Nat.mul_assoc]
    have hb : b % 2 = 0 := by omega
    obtain ⟨d, rfl⟩ : ∃ d, b = 2 * d := ⟨b / 2, by omega⟩
    exact ⟨d, by rw [Nat.pow_succ, Nat.mul_assoc]⟩
theorem geo_dvd : ∀ (k n : Nat), 2 ^ k ∣ geo n → 2 ^ k ∣ n
  | 0, n, _ => ⟨n, by simp⟩
  | k + 1, n, h => by
    have h2 : 2 ∣ geo n := Nat.dvd_trans ⟨2 ^ k, by rw [Nat.pow_succ, Nat.mul_comm]⟩ h
    have ev : n % 2 = 0 := by
      have o := geo_odd n
      omega
    obtain ⟨m, rfl⟩ : ∃ m, n = 2 * m := ⟨n / 2, by omega⟩
    obtain ⟨q, e⟩ := geo_two m
    rw [e] at h
    have h3 : 2 ^ k ∣ geo m * (2 * q + 1) := by
      obtain ⟨c, hc⟩ := h
      refine ⟨c, ?_⟩
      have : 2 * (geo m * (2 * q + 1)) = 2 * (2 ^ k * c) := by
        have l : geo m * (2 * (2 * q + 1)) = 2 * (geo m * (2 * q + 1)) := by rw [← Nat.mul_assoc, Nat.mul_comm (geo m) 2, Nat.mul_assoc]
        rw [← l, hc, Nat.pow_succ, Nat.mul_comm (2 ^ k) 2, Nat.mul_assoc]
      exact Nat.eq_of_mul_eq_mul_left (by decide) this
    obtain ⟨c, hc⟩ := geo_dvd k m (odd_drop h3)
    exact ⟨c, by rw [hc, Nat.pow_succ, Nat.mul_comm (2 ^ k) 2, Nat.mul_assoc]⟩
/-- the n-th place from i -/
def orb (M i : Nat) : Nat → Nat
  | 0 => i
  | n + 1 => (orb M i n * 5 + 1) % M
theorem orb_val {M i : Nat} (hi : i < M) : ∀ n, orb M i n = (5 ^ n * i + geo n) % M
  | 0 => by show i = (1 * i + 0) % M; rw [Nat.one_mul, Nat.add_zero, Nat.mod_eq_of_lt hi]
  | n + 1 => by
    show (orb M i n * 5 + 1) % M = (5 ^ n * 5 * i + (geo n * 5 + 1)) % M
    rw [orb_val hi n, Nat.add_mod, Nat.mul_mod, Nat.mod_mod, ← Nat.mul_mod, ← Nat.add_mod]
    congr 1
    rw [Nat.add_mul, Nat.mul_right_comm]
    omega
theorem mod_eq_dvd {M a b : Nat} (h : a % M = b % M) : M ∣ b - a := by
  have e : (b - a) % M = 0 := Nat.sub_mod_eq_zero_of_mod_eq h.symm
  exact Nat.dvd_of_mod_eq_zero e
theorem orb_inj {k i a b : Nat} (hi : i < 2 ^ k) (hab : a ≤ b) (hb : b < 2 ^ k) (h : orb (2 ^ k) i a = orb (2 ^ k) i b) : a = b := by
  rw [orb_val hi, orb_val hi] at h
  have d := mod_eq_dvd h
  obtain ⟨c, rfl⟩ : ∃ c, b = c + a := ⟨b - a, by omega⟩
  have ga := geo_pow a
  have gb := geo_pow (c + a)
  have gs := geo_add c a
  have e : 5 ^ (c + a) * i + geo (c + a) - (5 ^ a * i + geo a) = geo c * 5 ^ a * (2 * (2 * i) + 1) := by
    have l : geo (c + a) = geo c * 5 ^ a + geo a := gs
    rw [← gb, l]
    generalize geo c * 5 ^ a = x
    rw [← ga]
    have e1 : (4 * (x + geo a) + 1) * i = 4 * (x * i) + (4 * geo a + 1) * i := by
      rw [Nat.mul_add, Nat.add_assoc, Nat.add_mul, Nat.mul_assoc]
    have e2 : x * (2 * (2 * i) + 1) = 4 * (x * i) + x := by
      rw [Nat.mul_add, Nat.mul_one, ← Nat.mul_assoc 2 2 i, Nat.mul_left_comm]
    rw [e1, e2]
    omega
  rw [e] at d
  have d2 := odd_drop d
  obtain ⟨q, hq⟩ : ∃ q, 5 ^ a = 2 * q + 1 := ⟨5 ^ a / 2, by have := pow5_mod4 a; omega⟩
  rw [hq] at d2
  obtain ⟨t, ht⟩ := geo_dvd k c (odd_drop d2)
  cases t with
  | zero => rw [Nat.mul_zero] at ht; omega
  | succ t =>
    have : 2 ^ k ≤ c := by rw [ht, Nat.mul_succ]; omega
    omega
theorem nd_len {α : Type} [DecidableEq α] : ∀ (l D : List α), l.Nodup → (∀ x ∈ l, x ∈ D) → l.length ≤ D.length
  | [], _, _, _ => Nat.zero_le _
  | a :: l, D, h, s => by
    have ha := s a List.mem_cons_self
    have hn := List.nodup_cons.mp h
    have ih := nd_len l (D.erase a) hn.2 fun x hx => (List.mem_erase_of_ne (fun e => hn.1 (by rw [← e]; exact hx))).2 (s x (List.mem_cons_of_mem _ hx))
    rw [List.length_erase_of_mem ha] at ih
    have : 0 < D.length := List.length_pos_of_mem ha
    rw [List.length_cons]
    omega
theorem orb_lt {M i : Nat} (hi : i < M) : ∀ n, orb M i n < M
  | 0 => hi
  | _ + 1 => Nat.mod_lt _ (by omega)
/-- every place is met -/
theorem orb_all {k i j : Nat} (hi : i < 2 ^ k) (hj : j < 2 ^ k) : ∃ n, n < 2 ^ k ∧ orb (2 ^ k) i n = j := by
  apply Classical.byContradiction
  intro no
  have miss : ∀ n, n < 2 ^ k → orb (2 ^ k) i n ≠ j := fun n hn e => no ⟨n, hn, e⟩
  have nd : (j :: (List.range (2 ^ k)).map (orb (2 ^ k) i)).Nodup := by
    refine List.nodup_cons.mpr ⟨fun hm => ?_, ?_⟩
    · obtain ⟨n, hn, e⟩ := List.mem_map.mp hm
      exact miss n (List.mem_range.mp hn) e
    · refine List.Pairwise.map _ (fun a b h => h) ?_
      refine List.Pairwise.imp_of_mem ?_ (List.nodup_range (n := 2 ^ k))
      intro a b ha hb hne e
      have ha' := List.mem_range.mp ha
      have hb' := List.mem_range.mp hb
      rcases Nat.le_total a b with c | c
      · exact hne (orb_inj hi c hb' e)
      · exact hne (orb_inj hi c ha' e.symm).symm
  have l := nd_len _ (List.range (2 ^ k)) nd fun x hx => by
    rcases List.mem_cons.mp hx with rfl | hx
    · exact List.mem_range.mpr hj
    · obtain ⟨n, _, rfl⟩ := List.mem_map.mp hx
      exact List.mem_range.mpr (orb_lt hi n)
  rw [List.length_cons, List.length_map, List.length_range] at l
  omega
end Sx

set_option linter.all false
set_option maxRecDepth 100000
/-! sets whose table has any mask 2^k - 1: the search finds what stands there -/
namespace Sx
open PySem PyProof.Rows L2

/-- the masks of tables of fewer than some thousand items -/
def MaskG (m : Nat) : Prop := ∃ k, 3 ≤ k ∧ k ≤ 13 ∧ m + 1 = 2 ^ k
theorem MaskG.odd {m : Nat} (h : MaskG m) : m % 2 = 1 := by
  obtain ⟨k, h3, _, e⟩ := h
  obtain ⟨q, rfl⟩ : ∃ q, k = q + 1 := ⟨k - 1, by omega⟩
  rw [Nat.pow_succ] at e
  omega
theorem MaskG.top {m : Nat} (h : MaskG m) : m ≤ 8191 := by
  obtain ⟨k, _, h13, e⟩ := h
  have q : 2 ^ k ≤ 2 ^ 13 := Nat.pow_le_pow_right (by decide) h13
  have z : (2 : Nat) ^ 13 = 8192 := by decide
  omega
theorem lcg_is_orb (m i : Nat) : ∀ n, lcgI m i n = orb (m + 1) i n
  | 0 => rfl
  | n + 1 => by
    show (lcgI m i n * 5 + 1) % (m + 1) = (orb (m + 1) i n * 5 + 1) % (m + 1)
    rw [lcg_is_orb m i n]
theorem runs_come {m : Nat} (g : MaskG m) (h : Int) {j : Nat} (hj : j ≤ m) : ∃ n, n ≤ m + 12 ∧ runI m (SetTable.bits h) n = j := by
  obtain ⟨k, _, _, e⟩ := g
  have lo := runI_le m (SetTable.bits h) 12
  obtain ⟨n, hn, q⟩ := orb_all (k := k) (i := runI m (SetTable.bits h) 12) (j := j) (by omega) (by omega)
  refine ⟨12 + n, by omega, ?_⟩
  rw [runI_tail (bits_lt h), lcg_is_orb, e]
  exact q
theorem slots_come {m : Nat} (g : MaskG m) (h : Int) {j : Nat} (hj : j ≤ m) : ∃ k, k < 10 * SetTable.turns m ∧ way m h k = j := by
  obtain ⟨n, a, b⟩ := runs_come g h hj
  obtain ⟨k, c, d⟩ := run_nth m (SetTable.bits h) n
  have t : SetTable.turns m = m + 15 := rfl
  refine ⟨k, by omega, ?_⟩
  show (nth m (runAt m (SetTable.bits h % (m + 1)) (SetTable.bits h)) k).j = j
  rw [d]
  exact b
theorem way_in {m : Nat} {h : Int} {k : Nat} : way m h k ≤ m := by
  have first : SetTable.bits h % (m + 1) ≤ m := Nat.le_of_lt_succ (Nat.mod_lt _ (Nat.succ_pos _))
  have q := runEnd_bd first
  have z := nth_in k (runAt m (SetTable.bits h % (m + 1)) (SetTable.bits h)) (m := m) (show SetTable.bits h % (m + 1) + (SetTable.runEnd m (SetTable.bits h % (m + 1)) - SetTable.bits h % (m + 1)) ≤ m by omega)
  exact Nat.le_trans (Nat.le_add_right _ _) z

/-- each item's slot is found from its hash -/
structure Tab (t : SetTable) (hs : List Int) : Prop where
  up : Ris t.place.toList
  clean : t.dummies = #[]
  size : t.place.size = hs.length
  mask : MaskG t.mask
  le : ∀ x ∈ t.place.toList, x ≤ t.mask
  found : ∀ (i : Nat) (h : Int) (j : Nat), hs[i]? = some h → t.place.toList[i]? = some j → ∃ k, way t.mask h k = j ∧ ∀ c, c < k → way t.mask h c ∈ t.place.toList

section
variable {t : SetTable} {hs : List Int}
theorem Tab.gap (T : Tab t hs) (few : hs.length ≤ t.mask) (h : Int) : ∃ K, K < 10 * SetTable.turns t.mask ∧ way t.mask h K ∉ t.place.toList ∧ ∀ k, k < K → way t.mask h k ∈ t.place.toList := by
  have size := T.size
  obtain ⟨j, lt, no⟩ := st_missing t.place.toList (t.mask + 1) (by rw [Array.length_toList]; omega)
  obtain ⟨k, hk, rfl⟩ := slots_come T.mask h (Nat.le_of_lt_succ lt)
  obtain ⟨K, le, nK, below⟩ := st_least (p := fun k => way t.mask h k ∉ t.place.toList) k no
  exact ⟨K, by omega, nK, fun c hc => Classical.byContradiction (below c hc)⟩
theorem Tab.sooner (T : Tab t hs) {h : Int} {K i j : Nat} (nK : way t.mask h K ∉ t.place.toList) (hi : hs[i]? = some h) (hj : t.place.toList[i]? = some j) : ∃ k, k < K ∧ way t.mask h k = j := by
  obtain ⟨k, e, all⟩ := T.found i h j hi hj
  refine ⟨k, Nat.lt_of_not_le fun le => ?_, e⟩
  rcases Nat.lt_or_eq_of_le le with c | c
  · exact nK (all K c)
  · exact nK (by rw [c, e]; exact List.mem_of_getElem? hj)
/-- one more, at the first gap of its way -/
theorem Tab.one_more (T : Tab t hs) {h : Int} {K : Nat} (nK : way t.mask h K ∉ t.place.toList) (all : ∀ k, k < K → way t.mask h k ∈ t.place.toList) :
    SetTable.below t.place (way t.mask h K) ≤ hs.length ∧
    Tab (t.put (way t.mask h K)).1 (hs.take (SetTable.below t.place (way t.mask h K)) ++ h :: hs.drop (SetTable.below t.place (way t.mask h K))) ∧
    (t.put (way t.mask h K)).1.fill = hs.length + 1 := by
  have inside : way t.mask h K ≤ t.mask := way_in
  generalize ej : way t.mask h K = j at nK inside ⊢
  obtain ⟨low, _, _⟩ := below_cut T.up j
  have ps := T.size
  have lp : SetTable.below t.place j ≤ t.place.toList.length := by rw [Array.length_toList]; exact low
  have lh : SetTable.below t.place j ≤ hs.length := ps ▸ low
  have pl := put_place t j
  have keep : ∀ {x : Nat}, x ∈ t.place.toList → x ∈ (t.put j).1.place.toList := fun m => by rw [pl]; exact mem_ins.2 (.inr m)
  have sz : (t.put j).1.place.size = hs.length + 1 := by
    rw [← Array.length_toList, pl, len_ins _ lp, Array.length_toList, ps]
  have nw : t.place[SetTable.below t.place j]? ≠ some j := fun e => nK (List.mem_of_getElem? (by rw [Array.getElem?_toList]; exact e))
  refine ⟨lh, ?_, ?_⟩
  · constructor
    · exact ris_insert T.up nw
    · exact put_dm T.clean j
    · rw [len_ins _ lh]; exact sz
    · exact T.mask
    · intro x m
      rw [pl] at m
      rcases mem_ins.1 m with e | m
      · rw [e]; exact inside
      · exact T.le x m
    · intro i h' j' e1 e2
      rw [tins_get hs lh] at e1
      rw [pl, tins_get _ lp] at e2
      show ∃ k, way t.mask h' k = j' ∧ ∀ c, c < k → way t.mask h' c ∈ (t.put j).1.place.toList
      split at e1
      · rename_i c
        rw [if_pos c] at e2
        obtain ⟨k, e, z⟩ := T.found i h' j' e1 e2
        exact ⟨k, e, fun q hq => keep (z q hq)⟩
      · rename_i c
        rw [if_neg c] at e2
        split at e1
        · rename_i d
          rw [if_pos d] at e2
          cases e1
          cases e2
          exact ⟨K, ej, fun q hq => keep (all q hq)⟩
        · rename_i d
          rw [if_neg d] at e2
          obtain ⟨k, e, z⟩ := T.found (i - 1) h' j' e1 e2
          exact ⟨k, e, fun q hq => keep (z q hq)⟩
  · show (t.put j).1.place.size + (t.put j).1.dummies.size = hs.length + 1
    rw [put_dm T.clean j, sz] <;> rfl
end

/-! ### all laid anew -/
theorem gap_found {m : Nat} (g : MaskG m) (owner : Array (Option Nat)) (h : Int) {j : Nat} (hj : j ≤ m) (free : oAt owner j = none) :
    ∃ K, SetTable.layClean.free m owner (SetTable.turns m) (SetTable.bits h % (m + 1)) (SetTable.bits h) = some (way m h K) ∧ oAt owner (way m h K) = none ∧ ∀ k, k < K → oAt owner (way m h k) ≠ none := by
  obtain ⟨n, le, e⟩ := runs_come g h hj
  generalize hb : SetTable.bits h = b at e
  have st : way m h (off m (b % (m + 1)) b n) = j := by
    unfold way
    rw [hb, nth_off, itL_run]
    exact e
  have free' : oAt owner (way m h (off m (b % (m + 1)) b n)) = none := by rw [st]; exact free
  obtain ⟨K, leK, eK, below⟩ := st_least (p := fun k => oAt owner (way m h k) = none) _ free'
  have wb : ∀ k, way m h k = (nth m (runAt m (b % (m + 1)) b) k).j := fun k => by unfold way; rw [hb]
  refine ⟨K, ?_, eK, below⟩
  have q := free_spec m owner (SetTable.turns m) n (b % (m + 1)) b K (show n < m + 15 by omega) leK (fun k hk => ?_) ?_
  · rw [q, wb]
  · rw [← wb, Option.isNone_eq_false_iff, Option.isSome_iff_ne_none]
    exact below k hk
  · rw [← wb, eK] <;> rfl
theorem own_step {m : Nat} (g : MaskG m) {done : List Int} {owner : Array (Option Nat)} (W : Own m done owner) (few : done.length ≤ m) (h : Int) :
    ∃ j, SetTable.layClean.free m owner (SetTable.turns m) (SetTable.bits h % (m + 1)) (SetTable.bits h) = some j ∧ Own m (done ++ [h]) (owner.setIfInBounds j (some done.length)) := by
  obtain ⟨ps, lps, cov⟩ := W.ps
  obtain ⟨j0, lt0, nin⟩ := st_missing ps (m + 1) (by omega)
  have f0 : oAt owner j0 = none := Classical.byContradiction fun z => nin (cov j0 (Nat.le_of_lt_succ lt0) z)
  obtain ⟨K, got, fK, below⟩ := gap_found g owner h (Nat.le_of_lt_succ lt0) f0
  have le : way m h K ≤ m := way_in
  have osz := W.sz
  have self := oAt_set_self (owner := owner) (j := way m h K) (some done.length) (by omega)
  refine ⟨_, got, ?_⟩
  generalize ep : way m h K = p at got fK le self ⊢
  have more : ∀ {i : Nat}, oAt owner i ≠ none → oAt (owner.setIfInBounds p (some done.length)) i ≠ none := fun {i} ne => by
    by_cases c : i = p
    · subst c; rw [self]; exact Option.some_ne_none _
    · rw [oAt_set_ne _ c]; exact ne
  have osz2 : (owner.setIfInBounds p (some done.length)).size = m + 1 := by rw [Array.size_setIfInBounds]; exact osz
  constructor
  · exact osz2
  · intro j k hj e
    by_cases c : j = p
    · subst c
      rw [self] at e
      cases e
      exact ⟨h, K, by simp, ep, fun q hq => more (below q hq)⟩
    · rw [oAt_set_ne _ c] at e
      obtain ⟨x, k0, e1, e2, e3⟩ := W.at_ j k hj e
      have lt := (List.getElem?_eq_some_iff.mp e1).1
      exact ⟨x, k0, by rw [List.getElem?_append_left lt]; exact e1, e2, fun q hq => more (e3 q hq)⟩
  · intro k hk
    rcases Nat.lt_or_ge k done.length with c | c
    · obtain ⟨j, hj, e⟩ := W.all k c
      have np : j ≠ p := fun z => by rw [z, fK] at e; cases e
      exact ⟨j, hj, by rw [oAt_set_ne _ np]; exact e⟩
    · rw [List.length_append] at hk
      have ek : done.length = k := by
        have : [h].length = 1 := rfl
        omega
      exact ⟨p, le, by rw [self, ek]⟩
  · refine ⟨p :: ps, by simp [lps], fun j hj ne => ?_⟩
    by_cases c : j = p
    · exact c ▸ List.mem_cons_self
    · rw [oAt_set_ne _ c] at ne
      exact List.mem_cons_of_mem _ (cov j hj ne)
theorem lay_some {m : Nat} (g : MaskG m) : ∀ (rest done : List Int) (owner : Array (Option Nat)), Own m done owner → done.length + rest.length ≤ m →
    ∃ o2, rest.foldl (stepF m) (some (owner, done.length)) = some (o2, (done ++ rest).length) ∧ Own m (done ++ rest) o2 := by
  intro rest
  induction rest with
  | nil => intro done owner W _; exact ⟨owner, by simp, by simpa using W⟩
  | cons h rest ih =>
    intro done owner W le
    have l1 : (h :: rest).length = rest.length + 1 := rfl
    have l2 : (done ++ [h]).length = done.length + 1 := by simp
    obtain ⟨j, e, W2⟩ := own_step g W (by omega) h
    obtain ⟨o2, f, W3⟩ := ih (done ++ [h]) _ W2 (by omega)
    rw [l2] at f
    have ap : done ++ [h] ++ rest = done ++ h :: rest := by simp
    rw [ap] at f W3
    exact ⟨o2, by rw [List.foldl_cons, stepF_some e]; exact f, W3⟩
theorem lay_clean {m : Nat} (g : MaskG m) {hs : Array Int} (few : hs.size ≤ m) : ∃ owner, SetTable.layClean m hs = some owner ∧ Own m hs.toList owner := by
  obtain ⟨owner, f, W⟩ := lay_some g hs.toList [] _ (Own.init m) (by simpa using few)
  refine ⟨owner, ?_, by simpa using W⟩
  rw [layClean_eq, show (some (Array.replicate (m + 1) (none : Option Nat), 0)) = some (Array.replicate (m + 1) none, ([] : List Int).length) from rfl, f] <;> rfl
/-- the table laid anew -/
theorem laid_anew (t : SetTable) {hs : Array Int} {wanted M : Nat} (hw : SetTable.sizeAbove wanted - 1 = M) (g : MaskG M) (few : hs.size ≤ M) :
    ∃ t2 order, t.relaid hs wanted = some (t2, order) ∧ order.toList.Perm (List.range hs.size) ∧ Tab t2 (order.toList.map fun i => hs.getD i 0) ∧ t2.mask = M ∧ t2.led = t.led ∧ t2.plain = t.plain := by
  obtain ⟨owner, e, W⟩ := lay_clean g few
  have rel : t.relaid hs wanted = some (tabOf t M owner, ((liveOf M owner).map (·.2)).toArray) := by rw [relaid_eq, hw, e] <;> rfl
  obtain ⟨up, inr⟩ := ris_live (fun j => owner.getD j none) (List.range (M + 1)) (by unfold Ris; exact List.pairwise_lt_range)
  have up' : Ris ((liveOf M owner).map (·.1)) := up
  have inr' : ∀ x ∈ (liveOf M owner).map (·.1), x ∈ List.range (M + 1) := inr
  have dist : ((liveOf M owner).map (·.1)).Nodup := up'.imp fun lt => Nat.ne_of_lt lt
  have len : (liveOf M owner).length = hs.size := by
    obtain ⟨ps, lps, cov⟩ := W.ps
    have a : (liveOf M owner).length ≤ ps.length := by
      have z := nd_len ((liveOf M owner).map (·.1)) ps dist fun x hx => by
        obtain ⟨⟨y, k⟩, hq, ey⟩ := List.mem_map.mp hx
        cases ey
        obtain ⟨le, own⟩ := (mem_live W.sz).1 hq
        exact cov y le (by rw [own]; exact Option.some_ne_none _)
      rwa [List.length_map] at z
    have b : hs.size ≤ (liveOf M owner).length := by
      have z := nd_len (List.range hs.size) ((liveOf M owner).map (·.2)) List.nodup_range fun k hk => by
        obtain ⟨j, le, own⟩ := W.all k (by simpa using hk)
        exact List.mem_map.mpr ⟨(j, k), (mem_live W.sz).2 ⟨le, own⟩, rfl⟩
      rwa [List.length_map, List.length_range] at z
    have c : hs.toList.length = hs.size := rfl
    omega
  refine ⟨_, _, rel, ?_, ?_, rfl, rfl, rfl⟩
  · refine perm_range hs.size _ (by show ((liveOf M owner).map (·.2)).length = hs.size; rw [List.length_map, len]) fun k hk => ?_
    obtain ⟨j, le, own⟩ := W.all k (by simpa using hk)
    exact List.mem_map.mpr ⟨(j, k), (mem_live W.sz).2 ⟨le, own⟩, rfl⟩
  · constructor
    · exact up'
    · rfl
    · show ((liveOf M owner).map (·.1)).toArray.size = (((liveOf M owner).map (·.2)).map fun i => hs.getD i 0).length
      simp
    · exact g
    · intro x hx
      exact Nat.le_of_lt_succ (List.mem_range.mp (inr' x hx))
    · intro i h j e1 e2
      have e1' : (((liveOf M owner).map (·.2)).map fun i => hs.getD i 0)[i]? = some h := e1
      have e2' : ((liveOf M owner).map (·.1))[i]? = some j := e2
      rw [List.getElem?_map, List.getElem?_map] at e1'
      rw [List.getElem?_map] at e2'
      rcases hq : (liveOf M owner)[i]? with _ | ⟨y, k⟩
      · rw [hq] at e2'; cases e2'
      · rw [hq] at e1' e2'
        cases e2'
        have eh : hs.getD k 0 = h := Option.some.inj e1'
        obtain ⟨le, own⟩ := (mem_live W.sz).1 (List.mem_of_getElem? hq)
        obtain ⟨x, K, f1, f2, f3⟩ := W.at_ y k le own
        have ex : x = h := by
          rw [← eh, Array.getD_eq_getD_getElem?, ← Array.getElem?_toList, f1] <;> rfl
        subst ex
        refine ⟨K, f2, fun c hc => ?_⟩
        show way M x c ∈ (liveOf M owner).map (·.1)
        rcases z : oAt owner (way M x c) with _ | k2
        · exact absurd z (f3 c hc)
        · exact List.mem_map.mpr ⟨(way M x c, k2), (mem_live W.sz).2 ⟨way_in, z⟩, rfl⟩
/-- the size of a new table: a power of two above what is wanted -/
theorem size_go (n : Nat) : ∀ (f k : Nat), n < 2 ^ (k + f) → 3 ≤ k → (k = 3 ∨ 2 ^ (k - 1) ≤ n) → ∃ q, 3 ≤ q ∧ SetTable.sizeAbove.go n f (2 ^ k) = 2 ^ q ∧ n < 2 ^ q ∧ (q = 3 ∨ 2 ^ (q - 1) ≤ n)
  | 0, k, h, h3, c => ⟨k, h3, rfl, h, c⟩
  | f + 1, k, h, h3, c => by
    have e : SetTable.sizeAbove.go n (f + 1) (2 ^ k) = if 2 ^ k ≤ n then SetTable.sizeAbove.go n f (2 ^ k * 2) else 2 ^ k := rfl
    rw [e]
    by_cases le : 2 ^ k ≤ n
    · rw [if_pos le, ← Nat.pow_succ]
      exact size_go n f (k + 1) (by rw [show k + 1 + f = k + (f + 1) by omega]; exact h) (by omega) (.inr le)
    · rw [if_neg le]
      exact ⟨k, h3, rfl, by omega, c⟩
theorem size_above {n : Nat} (h : n ≤ 8191) : ∃ q, 3 ≤ q ∧ q ≤ 13 ∧ SetTable.sizeAbove n = 2 ^ q ∧ n < 2 ^ q := by
  obtain ⟨q, h3, e, lt, c⟩ := size_go n 64 3 (Nat.lt_of_le_of_lt h (by decide)) (Nat.le_refl _) (.inl rfl)
  refine ⟨q, h3, ?_, e, lt⟩
  rcases c with c | c
  · omega
  · refine Nat.le_of_not_lt fun z => ?_
    have y : 2 ^ 13 ≤ 2 ^ (q - 1) := Nat.pow_le_pow_right (by decide) (by omega)
    have x : (2 : Nat) ^ 13 = 8192 := by decide
    omega
end Sx

set_option linter.all false
set_option maxRecDepth 100000
/-! sets of tuples of ints and texts -/
namespace Sx
open PySem PySem.Spec PyProof.Rows L2

abbrev MixT (P : Program) (w : World) (h : Heap) (k : List Key) (a : Addr) : Prop := IsTupleKey (mixKind P w) h k a
abbrev mh (P : Program) (w : World) (k : List Key) : Int := tupleKeyHash (mixKind P w) k
/-- ints and texts: no class of the program's, hashed by value -/
def Flat (v : Value) : Prop := (∃ i t, v = Value.int i t) ∨ ∃ x t, v = Value.str x t
theorem Flat.noClass {v : Value} (n : Nat) (h : Flat v) : ofAClassStatement n v = pure false := by
  rcases h with ⟨i, t, rfl⟩ | ⟨x, t, rfl⟩ <;> cases n <;> rfl
theorem strNotByVal (n : Nat) (x : Str) (t : Tok) : hashByValue n (.str x t) = pure false := by
  unfold hashByValue; rfl
section
variable {P : Program} {w : World} {A : Around} {E : Value → Shared → Prop} {s : Shared}
theorem flat_items {k : List Key} {vs : List Value} (h : ItemsAre (mixKind P w) k vs) : ∀ v ∈ vs, Flat v := by
  induction h with
  | nil => exact fun v m => absurd m List.not_mem_nil
  | cons h1 _ ih =>
    intro v m
    rcases List.mem_cons.mp m with rfl | m
    · rcases keyIs_shape h1 with ⟨i, t, _, e⟩ | ⟨x, t, _, e⟩
      · exact .inl ⟨i, t, e⟩
      · exact .inr ⟨x, t, e⟩
    · exact ih v m
theorem noClass_mix {k : List Key} {b : Addr} {Q : Bool → Shared → Prop} (hk : MixT P w s.heap k b) (h : Q false s) : wpAny (model P w) A (ofAClassStatement 8 (.ref b)) Q E s := by
  have ty := hk.typeIs
  obtain ⟨o, items, n, ho, _, hd, hi⟩ := hk
  unfold ofAClassStatement
  refine wpAny_bind (wpAny_typeOf ty ?_)
  dsimp only
  simp only [show (("tuple" : String) == "tuple") = true from by decide, if_true, Bool.not_true, Bool.false_eq_true, if_false]
  try refine wpAny_bind (wpAny_pure ?_)
  try simp only [Bool.not_true, Bool.false_eq_true, if_false]
  refine wpAny_bind (show wpAny _ _ (seqItems? (.ref b)) _ _ s from wpAny_seqItems ho hd ?_)
  dsimp only
  refine wpAny_bind (show wpAny _ _ (forIn items _ _) _ _ s from ?_)
  rw [← Array.forIn_toList]
  refine wpAny_forIn_list _ (fun rest r s' => s' = s ∧ r.1 = none ∧ ∀ v ∈ rest, Flat v) _ ?_ ?_ _ _ ⟨rfl, rfl, flat_items hi⟩
  · rintro v rest r s' ⟨rfl, hr, all⟩
    rw [(all v List.mem_cons_self).noClass]
    refine wpAny_bind (wpAny_pure ?_)
    simp only [Bool.false_eq_true, if_false]
    exact wpAny_pure ⟨rfl, rfl, fun u m => all u (List.mem_cons_of_mem _ m)⟩
  · rintro ⟨r1, r2⟩ s' ⟨rfl, hr, _⟩
    cases (show r1 = none from hr)
    exact wpAny_pure h
theorem byVal_mix {k : List Key} {b : Addr} {Q : Bool → Shared → Prop} (hk : MixT P w s.heap k b) (h : ∀ c, Q c s) : wpAny (model P w) A (hashByValue 8 (.ref b)) Q E s := by
  have ty := hk.typeIs
  obtain ⟨o, items, n, ho, _, hd, hi⟩ := hk
  unfold hashByValue
  refine wpAny_bind (wpAny_specialOf ty F.slot_tuple_hash.lookup ?_)
  refine wpAny_bind (show wpAny _ _ (seqItems? (.ref b)) _ _ s from wpAny_seqItems ho hd ?_)
  refine wpAny_bind (show wpAny _ _ (forIn items _ _) _ _ s from ?_)
  rw [← Array.forIn_toList]
  refine wpAny_forIn_list _ (fun rest r s' => s' = s ∧ r.1 = none ∧ ∀ v ∈ rest, Flat v) _ ?_ ?_ _ _ ⟨rfl, rfl, flat_items hi⟩
  · rintro v rest r s' ⟨rfl, hr, all⟩
    rcases all v List.mem_cons_self with ⟨i, t, rfl⟩ | ⟨x, t, rfl⟩
    · rw [hashBy_int]
      refine wpAny_bind (wpAny_pure ?_)
      simp only [Bool.not_true, Bool.false_eq_true, if_false]
      exact wpAny_pure ⟨rfl, rfl, fun u m => all u (List.mem_cons_of_mem _ m)⟩
    · rw [strNotByVal]
      refine wpAny_bind (wpAny_pure ?_)
      simp only [Bool.not_false, if_true]
      exact wpAny_pure (wpAny_pure (h false))
  · rintro ⟨r1, r2⟩ s' ⟨rfl, hr, _⟩
    cases (show r1 = none from hr)
    exact wpAny_pure (h true)
/-- a search among such tuples shows nothing -/
theorem unseen_mix {k : List Key} {b : Addr} {Q : Bool → Shared → Prop} (hk : MixT P w s.heap k b) {ys : List Value} (hy : ∀ y ∈ ys, ∃ k2 c, y = Value.ref c ∧ MixT P w s.heap k2 c) (h : Q false s) :
    wpAny (model P w) A (searchCouldBeSeen (.ref b) ys) Q E s := by
  unfold searchCouldBeSeen
  refine wpAny_bind (wpAny_forIn_list _ (fun rest r s' => s' = s ∧ r.1 = none ∧ ∀ y ∈ rest, ∃ k2 c, y = Value.ref c ∧ MixT P w s.heap k2 c) _ ?_ ?_ _ _ ⟨rfl, rfl, hy⟩)
  · rintro v rest r s' ⟨rfl, hr, all⟩
    obtain ⟨k2, c, rfl, hc⟩ := all v List.mem_cons_self
    have all2 := fun u m => all u (List.mem_cons_of_mem (Value.ref c) m)
    dsimp only
    by_cases hv : (b == c || (carriedByValue (.ref b) && carriedByValue (.ref c))) = true
    · exact wp_if_pos hv (wpAny_pure ⟨rfl, rfl, all2⟩)
    · refine wp_if_neg hv (wpAny_bind (wpAny_eqIsQuiet_tuple hk ?_))
      simp only [Bool.not_true, Bool.false_eq_true, if_false]
      refine wpAny_bind (wpAny_eqIsQuiet_tuple hc ?_)
      simp only [Bool.not_true, Bool.false_eq_true, if_false]
      refine wpAny_bind (noClass_mix hk ?_)
      simp only [Bool.false_eq_true, if_false]
      refine wpAny_bind (noClass_mix hc ?_)
      simp only [Bool.false_eq_true, if_false]
      exact wpAny_pure ⟨rfl, rfl, all2⟩
  · rintro ⟨r1, r2⟩ s' ⟨rfl, hr, _⟩
    cases (show r1 = none from hr)
    exact wpAny_pure h

/-! ### what the set is -/
abbrev Rows := List (Addr × List Key)
def cells (P : Program) (w : World) (L : Rows) : List (Int × Value) := L.map fun p => (mh P w p.2, Value.ref p.1)
theorem cells_len (L : Rows) : (cells P w L).length = L.length := List.length_map ..
structure MSet (P : Program) (w : World) (h : Heap) (a : Addr) (L : Rows) (es : Array (Int × Value)) (ep : Nat) (t : SetTable) : Prop where
  ob : ∃ o, h.get? a = some o ∧ o.ExactSet ∧ o.data = .set es ep t
  rows : es.toList = cells P w L
  tab : Tab t (L.map fun p => mh P w p.2)
  nd : (L.map (·.2)).Nodup
  tup : ∀ p ∈ L, MixT P w h p.2 p.1
  led : w.params.followText "set-order" = true ∨ t.led = true
  room : L.length * 5 < t.mask * 3
  few : L.length ≤ 2000
variable {a : Addr} {L : Rows} {es : Array (Int × Value)} {ep : Nat} {t : SetTable}
theorem cells_size (r : es.toList = cells P w L) : es.size = L.length := by
  rw [← Array.length_toList, r, cells_len]
theorem MSet.fits (R : MSet P w s.heap a L es ep t) : t.fits es.size = true := by
  have ts := R.tab.size
  have room := R.room
  rw [List.length_map] at ts
  rw [cells_size R.rows]
  unfold SetTable.fits SetTable.fill
  rw [R.tab.clean]
  simp
  omega
theorem cells_at (r : es.toList = cells P w L) {i : Nat} {p : Addr × List Key} (h : L[i]? = some p) : es[i]? = some (mh P w p.2, Value.ref p.1) := by
  rw [← Array.getElem?_toList, r]
  unfold cells
  rw [List.getElem?_map, h] <;> rfl
theorem MSet.steady (R : MSet P w s.heap a L es ep t) : ¬ t.gaveWay = true := by
  unfold SetTable.gaveWay
  rw [R.tab.mask.odd]
  decide

/-- the probe's start for a hash -/
abbrev pst (t : SetTable) (h : Int) (c : Nat) : SetTable.Probe := nth t.mask (runAt t.mask (SetTable.bits h % (t.mask + 1)) (SetTable.bits h)) c
theorem pst_add (t : SetTable) (h : Int) (c q : Nat) : nth t.mask (pst t h c) q = pst t h (c + q) := (nth_add t.mask c _ q).symm
theorem pst_j (t : SetTable) (h : Int) (c q : Nat) : (nth t.mask (pst t h c) q).j = way t.mask h (c + q) := by rw [pst_add]
theorem pst_free (t : SetTable) (h : Int) : ∀ c, (pst t h c).dummy = none := by
  intro c
  induction c with
  | zero => rfl
  | succ c ih =>
    rw [← pst_add t h c 1]
    show (adv t.mask (pst t h c)).dummy = none
    unfold adv
    split <;> exact ih

/-- the search from the c-th step of its way on -/
theorem find_from (R : MSet P w s.heap a L es ep t) {x : Addr} {k : List Key} (hx : MixT P w s.heap k x) (hu : A.units < cLine) {K : Nat} (hf : K < 10 * SetTable.turns t.mask)
    (nK : way t.mask (mh P w k) K ∉ t.place.toList) (low : ∀ c, c < K → way t.mask (mh P w k) c ∈ t.place.toList) {Q : SetFound → Shared → Prop}
    (yes : k ∈ L.map (·.2) → Q (.there none) s) (no : k ∉ L.map (·.2) → Q (.free (way t.mask (mh P w k) K) false) s) :
    ∀ (f c : Nat) (stand : Option SetTable.Probe), stand.getD (t.probeStart (mh P w k)) = pst t (mh P w k) c → c ≤ K → K - c < f →
      (∀ (i : Nat) p, L[i]? = some p → p.2 = k → ∃ q, c ≤ q ∧ q < K ∧ t.place.toList[i]? = some (way t.mask (mh P w k) q)) →
      wpAny (model P w) A (setSearchFrom a (.ref x) (mh P w k) true f stand) Q E s := by
  intro f
  induction f with
  | zero => intro c _ _ _ z; exact absurd z (Nat.not_lt_zero _)
  | succ f ih =>
    intro c stand st le lt reach
    obtain ⟨o, ho, _, hd⟩ := R.ob
    rw [setSearchFrom_succ]
    refine wpAny_bind (wpAny_setState_of ho hd R.fits ?_)
    dsimp only
    refine wp_if_neg R.steady ?_
    try refine wpAny_bind (wpAny_pure ?_)
    have hashes : ∀ (i : Nat) p, L[i]? = some p → (fun i => (es[i]?.map (·.1)).getD 0) i = mh P w p.2 := fun i p e => by
      show (es[i]?.map (·.1)).getD 0 = _
      rw [cells_at R.rows e] <;> rfl
    rcases go_spec t R.tab.up R.tab.clean (fun i => (es[i]?.map (·.1)).getD 0) (mh P w k) (10 * SetTable.turns t.mask) (K - c) (pst t (mh P w k) c) (pst_free ..) (by omega)
      (fun q hq => by rw [pst_j]; exact low _ (by omega)) (by rw [pst_j, show c + (K - c) = K by omega]; exact nK) with ⟨q, i, hq, at_, same, before, pr⟩ | ⟨before, pr⟩
    · rw [pst_j] at at_ pr
      rw [pst_add] at pr
      have met : t.probe (fun i => (es[i]?.map (·.1)).getD 0) (mh P w k) (stand.getD (t.probeStart (mh P w k))) = some (.candidate (way t.mask (mh P w k) (c + q)) i (pst t (mh P w k) (c + (q + 1)))) := by
        rw [st]; exact pr
      rw [met]
      dsimp only
      have il : i < L.length := by
        have z1 := (List.getElem?_eq_some_iff.mp at_).1
        have z2 := R.tab.size
        rw [List.length_map] at z2
        rw [Array.length_toList, z2] at z1
        exact z1
      obtain ⟨p, ep'⟩ : ∃ p, L[i]? = some p := ⟨_, List.getElem?_eq_getElem il⟩
      have pm := List.mem_of_getElem? ep'
      have live : t.slot (way t.mask (mh P w k) (c + q)) = .live i := slot_live R.tab.up at_
      have go : wpAny (model P w) A (searchRest a (.ref x) (mh P w k) true f es t (way t.mask (mh P w k) (c + q)) i (pst t (mh P w k) (c + (q + 1)))) Q E s := by
        unfold searchRest
        rw [cells_at R.rows ep']
        dsimp only
        refine wpAny_bind (wpAny_holding (wpAny_eqBool_tuple hu (R.tup p pm) hx ?_))
        refine wpAny_bind (wpAny_setState_of ho hd R.fits ?_)
        dsimp only
        by_cases ek : p.2 = k
        · exact wp_if_pos (by simp [ek]) (wpAny_pure (yes (List.mem_map.mpr ⟨p, pm, ek⟩)))
        · refine wp_if_neg (by simp [ek]) ?_
          try refine wpAny_bind (wpAny_pure ?_)
          rw [sameMem]
          dsimp only
          simp only [if_true, live, cells_at R.rows ep']
          refine wpAny_bind (wpAny_isSame_ref_self (wpAny_bind (wpAny_pure ?_)))
          simp only [if_true]
          refine wp_if_neg (by simp [ek]) (ih (c + (q + 1)) _ rfl (by omega) (by omega) fun i0 p0 h0 k0 => ?_)
          obtain ⟨d, d1, d2, d3⟩ := reach i0 p0 h0 k0
          refine ⟨d, Nat.lt_of_not_le fun (z : d ≤ c + q) => ?_, d2, d3⟩
          rcases Nat.lt_or_eq_of_le z with z | z
          · refine before (d - c) i0 (by omega) (by rw [pst_j, show c + (d - c) = d by omega]; exact d3) ?_
            exact (hashes i0 p0 h0).trans (by rw [k0])
          · rw [z] at d3
            have l2 := slot_live R.tab.up d3
            rw [live] at l2
            injection l2 with l2
            rw [← l2, ep'] at h0
            cases h0
            exact ek k0
      by_cases hl : t.led = true
      · refine wp_if_neg (by simp [hl]) ?_
        try refine wpAny_bind (wpAny_pure ?_)
        exact go
      · refine wp_if_pos (by simp [hl]) (wpAny_bind (unseen_mix hx (fun y hy => ?_) ?_))
        · obtain ⟨e, he, rfl⟩ := List.mem_map.mp hy
          have he2 : e ∈ es.toList := by
            have z : e ∈ es ∧ e.1 = mh P w k := by simpa using he
            simpa using z.1
          rw [R.rows] at he2
          obtain ⟨p2, hp2, rfl⟩ := List.mem_map.mp he2
          exact ⟨p2.2, p2.1, rfl, R.tup p2 hp2⟩
        · refine wp_if_neg (by decide) ?_
          try refine wpAny_bind (wpAny_pure ?_)
          exact go
    · rw [pst_j, show c + (K - c) = K by omega] at pr
      have met : t.probe (fun i => (es[i]?.map (·.1)).getD 0) (mh P w k) (stand.getD (t.probeStart (mh P w k))) = some (.empty (way t.mask (mh P w k) K) none) := by
        rw [st]; exact pr
      rw [met]
      dsimp only
      refine wpAny_pure (no fun m => ?_)
      obtain ⟨p0, h0, k0⟩ := List.mem_map.mp m
      obtain ⟨i0, _, e0⟩ := List.getElem_of_mem h0
      have at0 : L[i0]? = some p0 := by rw [← e0]; exact List.getElem?_eq_getElem _
      obtain ⟨d, d1, d2, d3⟩ := reach i0 p0 at0 k0
      refine before (d - c) i0 (by omega) (by rw [pst_j, show c + (d - c) = d by omega]; exact d3) ?_
      exact (hashes i0 p0 at0).trans (by rw [k0])
theorem find_at (R : MSet P w s.heap a L es ep t) {x : Addr} {k : List Key} (hx : MixT P w s.heap k x) (hu : A.units < cLine) {Q : SetFound → Shared → Prop}
    (yes : k ∈ L.map (·.2) → Q (.there none) s)
    (no : ∀ K, k ∉ L.map (·.2) → way t.mask (mh P w k) K ∉ t.place.toList → (∀ c, c < K → way t.mask (mh P w k) c ∈ t.place.toList) → Q (.free (way t.mask (mh P w k) K) false) s) :
    wpAny (model P w) A (setSearch a (.ref x) (mh P w k) true) Q E s := by
  have room := R.room
  obtain ⟨K, hf, nK, low⟩ := R.tab.gap (by rw [List.length_map]; omega) (mh P w k)
  have top := R.tab.mask.top
  have tn : SetTable.turns t.mask = t.mask + 15 := rfl
  unfold setSearch
  refine find_from R hx hu hf nK low yes (fun m => no K m nK low) 100000 0 none rfl (Nat.zero_le _) (by omega) fun i p hp hk => ?_
  have il := (List.getElem?_eq_some_iff.mp hp).1
  have z2 := R.tab.size
  rw [List.length_map] at z2
  have at_ : t.place.toList[i]? = some (t.place.toList[i]'(by rw [Array.length_toList, z2]; exact il)) := List.getElem?_eq_getElem _
  have hi : (L.map fun p => mh P w p.2)[i]? = some (mh P w k) := by rw [List.getElem?_map, hp, ← hk] <;> rfl
  obtain ⟨c, hc, e⟩ := R.tab.sooner nK hi at_
  exact ⟨c, Nat.zero_le _, hc, by rw [at_, e]⟩
end
end Sx

set_option linter.all false
set_option maxRecDepth 100000
/-! adding to a set of tuples -/
namespace Sx
open PySem PySem.Spec PyProof.Rows L2
section
variable {P : Program} {w : World} {A : Around} {E : Value → Shared → Prop} {s : Shared}
theorem mix_other {h h' : Heap} {k : List Key} {a b : Addr} {o : Obj} {es : Array (Int × Value)} {ep : Nat} {t : SetTable} (hb : MixT P w h k b) (ho : h.get? a = some o) (hd : o.data = .set es ep t) (sb : Heap.SameBut a h h') : MixT P w h' k b := by
  obtain ⟨ob, items, n, hob, hc, hod, hi⟩ := hb
  refine ⟨ob, items, n, ?_, hc, hod, hi⟩
  rw [sb.2 b ?_, hob]
  intro e
  subst e
  rw [hob] at ho
  cases ho
  rw [hod] at hd
  cases hd
theorem cells_put (L : Rows) (p : Nat) (x : Addr) (k : List Key) : cells P w (L.take p ++ (x, k) :: L.drop p) = (cells P w L).take p ++ (mh P w k, Value.ref x) :: (cells P w L).drop p := by
  simp [cells, List.map_take, List.map_drop]
theorem pick_all {α : Type} (L : List α) : (List.range L.length).filterMap (fun i => L[i]?) = L := by
  induction L with
  | nil => rfl
  | cons x L ih =>
    rw [List.length_cons, List.range_succ_eq_map, List.filterMap_cons_some (show (x :: L)[0]? = some x from rfl), List.filterMap_map]
    exact congrArg (x :: ·) ih
theorem cells_order (L : Rows) (es : Array (Int × Value)) (order : Array Nat) (r : es.toList = cells P w L) (pm : order.toList.Perm (List.range L.length)) :
    ∃ L2, (order.filterMap (es[·]?)).toList = cells P w L2 ∧ L2.Perm L ∧ (L2.map fun p => mh P w p.2) = order.toList.map fun i => (es.map (·.1)).getD i 0 := by
  have at_ : ∀ (i : Nat) (h : i < L.length), es[i]? = some (mh P w L[i].2, Value.ref L[i].1) := fun i h => cells_at r (List.getElem?_eq_getElem h)
  refine ⟨order.toList.filterMap fun i => L[i]?, ?_, ?_, ?_⟩
  · rw [Array.toList_filterMap]
    have all : ∀ i ∈ order.toList, i < L.length := fun i m => List.mem_range.mp (pm.mem_iff.mp m)
    revert all
    generalize order.toList = l
    intro all
    induction l with
    | nil => rfl
    | cons i l ih =>
      have hi := all i List.mem_cons_self
      rw [List.filterMap_cons_some (at_ i hi), List.filterMap_cons_some (List.getElem?_eq_getElem hi), ih fun j m => all j (List.mem_cons_of_mem _ m)] <;> rfl
  · have z := pm.filterMap (fun i => L[i]?)
    rw [pick_all] at z
    exact z
  · have all : ∀ i ∈ order.toList, i < L.length := fun i m => List.mem_range.mp (pm.mem_iff.mp m)
    revert all
    generalize order.toList = l
    intro all
    induction l with
    | nil => rfl
    | cons i l ih =>
      have hi := all i List.mem_cons_self
      rw [List.filterMap_cons_some (List.getElem?_eq_getElem hi), List.map_cons, List.map_cons, ih fun j m => all j (List.mem_cons_of_mem _ m)]
      congr 1
      have z : (es.map (·.1))[i]? = some (mh P w L[i].2) := by rw [Array.getElem?_map, at_ i hi] <;> rfl
      rw [Array.getD_eq_getD_getElem?, z] <;> rfl

variable {a : Addr} {L : Rows} {es : Array (Int × Value)} {ep : Nat} {t : SetTable}
/-- a full table is laid anew -/
theorem relay_mix {o : Obj} (ho : s.heap.get? a = some o) (ex : o.ExactSet) (hd : o.data = .set es ep t) (rows : es.toList = cells P w L) (T : Tab t (L.map fun p => mh P w p.2)) (fill : es.size ≤ t.mask)
    (nd : (L.map (·.2)).Nodup) (tup : ∀ p ∈ L, MixT P w s.heap p.2 p.1) (ld : w.params.followText "set-order" = true ∨ t.led = true) (few : L.length ≤ 2000) (pos : 1 ≤ L.length) {Q : Unit → Shared → Prop}
    (hQ : ∀ h' L2 es2 ep2 t2, Heap.SameBut a s.heap h' → MSet P w h' a L2 es2 ep2 t2 → L2.Perm L → Q () { s with heap := h' }) : wpAny (model P w) A (setRelay a (SetTable.grown L.length)) Q E s := by
  have n1 := cells_size rows
  have gr : SetTable.grown L.length = L.length * 4 := by
    unfold SetTable.grown
    rw [if_neg (by omega)]
  obtain ⟨q, q3, q13, sz, above⟩ := size_above (n := SetTable.grown L.length) (by rw [gr]; omega)
  have two : 2 ^ q ≤ 2 ^ 13 := Nat.pow_le_pow_right (by decide) q13
  have c13 : (2 : Nat) ^ 13 = 8192 := by decide
  have ps := T.size
  rw [List.length_map] at ps
  have fits : t.fits es.size = true := by
    unfold SetTable.fits SetTable.fill
    rw [T.clean]
    simp
    omega
  obtain ⟨t2, order, e, pm, T2, em, el, _⟩ := laid_anew t (hs := es.map (·.1)) (wanted := SetTable.grown L.length) (M := 2 ^ q - 1) (by rw [sz]) ⟨q, q3, q13, by omega⟩ (by rw [Array.size_map, n1]; omega)
  rw [Array.size_map, n1] at pm
  obtain ⟨L2, r2, p2, m2⟩ := cells_order L es order rows pm
  rw [← m2] at T2
  have n2 : (order.filterMap (es[·]?)).size = es.size := by
    rw [cells_size r2, p2.length_eq, n1]
  rw [setRelay_eq]
  refine wpAny_bind (wpAny_setState_of ho hd fits ?_)
  dsimp only
  refine wp_if_neg (by rw [sz, sizeLine_eq]; omega) ?_
  try refine wpAny_bind (wpAny_pure ?_)
  rw [e]
  dsimp only
  refine wpAny_bind (wp_if_neg (by rw [n2]; simp) ?_)
  try refine wpAny_bind (wpAny_pure ?_)
  refine wpAny_pure ?_
  dsimp only
  have sb : Heap.SameBut a s.heap (s.heap.update a (Obj.putSet (order.filterMap (es[·]?)) t2)) := Heap.SameBut.update ..
  refine wpAny_storeSet_of ho hd (hQ _ L2 (order.filterMap (es[·]?)) (ep + 1) t2 sb ?_ p2) (by rw [n2, n1, sizeLine_eq]; omega)
  constructor
  · exact ⟨_, store_at ho hd, ⟨ex.1, ex.2.1, ex.2.2⟩, rfl⟩
  · exact r2
  · exact T2
  · exact (p2.map (·.2)).nodup_iff.mpr nd
  · exact fun p m => mix_other (tup p (p2.mem_iff.mp m)) ho hd sb
  · rw [el]; exact ld
  · rw [p2.length_eq, em]; omega
  · rw [p2.length_eq]; exact few
/-- one tuple is put in -/
theorem add_mix (R : MSet P w s.heap a L es ep t) {x : Addr} {k : List Key} (hx : MixT P w s.heap k x) (hu : A.units < cLine) (few : L.length + 1 ≤ 2000) {Q : Bool → Shared → Prop}
    (hQ : ∀ b h' L2 es2 ep2 t2, Heap.SameBut a s.heap h' → MSet P w h' a L2 es2 ep2 t2 → (k ∈ L.map (·.2) → L2 = L) → (k ∉ L.map (·.2) → L2.Perm ((x, k) :: L)) → Q b { s with heap := h' }) :
    wpAny (model P w) A (setAddHashed a (.ref x) (mh P w k)) Q E s := by
  obtain ⟨o, ho, ex, hd⟩ := R.ob
  have n1 := cells_size R.rows
  have room := R.room
  unfold setAddHashed
  refine wpAny_holding ?_
  rw [show (100000 : Nat) = 99999 + 1 from rfl, setAddHashedIn_succ]
  refine wpAny_bind (wpAny_setState_of ho hd R.fits ?_)
  dsimp only
  refine wp_if_neg (by simp [byScan, Value.scannable]) ?_
  try refine wpAny_bind (wpAny_pure ?_)
  refine wpAny_bind (find_at R hx hu (fun m => ?_) fun K m nK low => ?_)
  · dsimp only
    exact wpAny_pure (hQ false s.heap L es ep t (Heap.SameBut.refl a s.heap) R (fun _ => rfl) fun z => absurd m z)
  · dsimp only
    refine wpAny_bind (wpAny_setState_of ho hd R.fits ?_)
    dsimp only
    obtain ⟨le, T1, fl⟩ := R.tab.one_more nK low
    have snd : (t.put (way t.mask (mh P w k) K)).2 = SetTable.below t.place (way t.mask (mh P w k) K) := rfl
    have msk : (t.put (way t.mask (mh P w k) K)).1.mask = t.mask := rfl
    have ledE : (t.put (way t.mask (mh P w k) K)).1.led = t.led := rfl
    rw [List.length_map] at le fl
    generalize t.put (way t.mask (mh P w k) K) = pt at T1 fl snd msk ledE ⊢
    obtain ⟨t1, p⟩ := pt
    dsimp only at T1 fl snd msk ledE ⊢
    rw [← snd] at le T1
    have perm : (L.take p ++ (x, k) :: L.drop p).Perm ((x, k) :: L) := put_perm L p (x, k)
    have len := perm.length_eq
    rw [List.length_cons] at len
    have hs : (L.take p ++ (x, k) :: L.drop p).map (fun p => mh P w p.2) = (L.map fun p => mh P w p.2).take p ++ mh P w k :: (L.map fun p => mh P w p.2).drop p := by
      rw [List.map_append, List.map_cons, List.map_take, List.map_drop]
    rw [← hs] at T1
    have rows1 : (SetTable.insertAt es p (mh P w k, Value.ref x)).toList = cells P w (L.take p ++ (x, k) :: L.drop p) := by
      rw [SetTable.toList_insertAt, cells_put, R.rows]
    have nd1 : ((L.take p ++ (x, k) :: L.drop p).map (·.2)).Nodup := (perm.map (·.2)).nodup_iff.mpr (by rw [List.map_cons]; exact List.nodup_cons.mpr ⟨m, R.nd⟩)
    generalize SetTable.insertAt es p (mh P w k, Value.ref x) = es1 at rows1 ⊢
    generalize L.take p ++ (x, k) :: L.drop p = L1 at perm len T1 rows1 nd1
    have n2 := cells_size rows1
    have rest : ∀ t2 : SetTable, t2.place = t1.place → t2.dummies = t1.dummies → t2.mask = t1.mask → t2.led = t1.led → wpAny (model P w) A (do
        storeSet a es1 t2
        if (!false && t2.tooFull) = true then setRelay a (SetTable.grown (es.size + 1))
        return true) Q E s := fun t2 e1 e2 e3 e4 => by
      have T2 : Tab t2 (L1.map fun p => mh P w p.2) := by
        refine ⟨by rw [e1]; exact T1.up, by rw [e2]; exact T1.clean, by rw [e1]; exact T1.size, by rw [e3]; exact T1.mask, by rw [e1, e3]; exact T1.le, ?_⟩
        rw [e1, e3]
        exact T1.found
      have fl2 : t2.fill = L.length + 1 := by rw [← fl]; unfold SetTable.fill; rw [e1, e2]
      have ld2 : w.params.followText "set-order" = true ∨ t2.led = true := by rw [e4, ledE]; exact R.led
      refine wpAny_bind (wpAny_storeSet_of ho hd ?_ (by rw [n2, len, sizeLine_eq]; omega))
      have sb : Heap.SameBut a s.heap (s.heap.update a (Obj.putSet es1 t2)) := Heap.SameBut.update ..
      have ho1 := store_at (es' := es1) (t' := t2) ho hd
      generalize s.heap.update a (Obj.putSet es1 t2) = h1 at sb ho1 ⊢
      have tup1 : ∀ q ∈ L1, MixT P w h1 q.2 q.1 := fun q hq => by
        rcases List.mem_cons.mp (perm.mem_iff.mp hq) with e | hq
        · rw [e]; exact mix_other hx ho hd sb
        · exact mix_other (R.tup q hq) ho hd sb
      by_cases full : t2.tooFull = true
      · have big := full
        unfold SetTable.tooFull at big
        rw [decide_eq_true_eq, fl2, e3, msk] at big
        rw [n1]
        have go : wpAny (model P w) A (setRelay a (SetTable.grown (L.length + 1))) (fun _ s' => wpAny (model P w) A (pure true) Q E s') E { s with heap := h1 } := by
          rw [← len]
          refine relay_mix (s := { s with heap := h1 }) ho1 ⟨ex.1, ex.2.1, ex.2.2⟩ rfl rows1 T2 (by rw [n2, len, e3, msk]; omega) nd1 tup1 ld2 (by omega) (by omega) ?_
          intro h2 L2 es2 ep2 t3 sb2 R2 p2
          exact wpAny_pure (hQ true h2 L2 es2 ep2 t3 (sb.trans sb2) R2 (fun z => absurd z m) fun _ => p2.trans perm)
        first
          | exact wpAny_bind (wp_if_pos (by simp [full]) go)
          | exact wp_if_pos (by simp [full]) (wpAny_bind go)
      · have small := full
        unfold SetTable.tooFull at small
        rw [decide_eq_true_eq, fl2, e3, msk] at small
        have fin : Q true { s with heap := h1 } := hQ true h1 L1 es1 (ep + 1) t2 sb ⟨⟨_, ho1, ⟨ex.1, ex.2.1, ex.2.2⟩, rfl⟩, rows1, T2, nd1, tup1, ld2, by rw [len, e3, msk]; omega, by omega⟩ (fun z => absurd z m) fun _ => perm
        first
          | exact wp_if_neg (by simp [full]) (wpAny_pure fin)
          | exact wpAny_bind (wp_if_neg (by simp [full]) (wpAny_pure (wpAny_pure fin)))
    have both : ∀ c : Bool, wpAny (model P w) A (do
        storeSet a es1 (if c = true then t1 else { t1 with plain := false })
        if (!false && (if c = true then t1 else { t1 with plain := false }).tooFull) = true then setRelay a (SetTable.grown (es.size + 1))
        return true) Q E s := fun c => by
      cases c
      · exact rest _ rfl rfl rfl rfl
      · exact rest _ rfl rfl rfl rfl
    by_cases pl : t1.plain = true
    · first
        | exact wpAny_bind (wp_if_pos pl (byVal_mix hx fun c => both c))
        | exact wp_if_pos pl (wpAny_bind (byVal_mix hx fun c => both c))
    · first
        | exact wpAny_bind (wp_if_neg pl (wpAny_pure (both true)))
        | exact wp_if_neg pl (wpAny_bind (wpAny_pure (both true)))
end
end Sx

set_option linter.all false
set_option maxRecDepth 100000
set_option maxHeartbeats 2000000
/-! {elt for target in iter if ..}, elt a tuple of ints and texts -/
namespace Sx
open PySem PySem.Spec PyProof.Rows L2

/-- the set at a; its tuples are things of their own -/
def MSet0 (P : Program) (w : World) (h : Heap) (a : Addr) (L : Rows) : Prop :=
  ∃ (es : Array (Int × Value)) (ep : Nat) (t : SetTable), (∃ o, h.get? a = some o ∧ o.ExactSet ∧ o.data = .set es ep t) ∧ es.toList = cells P w L ∧ Tab t (L.map fun p => mh P w p.2) ∧ (L.map (·.2)).Nodup ∧
    (w.params.followText "set-order" = true ∨ t.led = true) ∧ L.length * 5 < t.mask * 3 ∧ L.length ≤ 2000
def MSetO (P : Program) (w : World) (a : Addr) (L : Rows) : HO := .ext fun h => MSet0 P w h a L
/-- the rows' tuples are tracked -/
def TupsIn (H : Hp) (L : Rows) : Prop := ∀ p ∈ L, H p.1 = some (.tup (p.2.map kV))
section
variable {P : Program} {w : World} {H : Hp} {h : Heap} {a : Addr} {L : Rows}
theorem MSet.bare {es : Array (Int × Value)} {ep : Nat} {t : SetTable} (R : MSet P w h a L es ep t) : MSet0 P w h a L := ⟨es, ep, t, R.ob, R.rows, R.tab, R.nd, R.led, R.room, R.few⟩
theorem MSet0.full (R : MSet0 P w h a L) (ht : ∀ p ∈ L, MixT P w h p.2 p.1) : ∃ es ep t, MSet P w h a L es ep t := by
  obtain ⟨es, ep, t, h1, h2, h3, h4, h5, h6, h7⟩ := R
  exact ⟨es, ep, t, h1, h2, h3, h4, ht, h5, h6, h7⟩
theorem MSet0.ok (R : MSet0 P w h a L) : ObjOk P w H h a (MSetO P w a L) := by
  obtain ⟨es, ep, t, ⟨o, ho, r⟩, q⟩ := R
  refine ⟨⟨es, ep, t, ⟨o, ho, r⟩, q⟩, ⟨o, ho⟩, ?_⟩
  rintro h1 h2 ⟨es', ep', t', ⟨o', ho', r'⟩, q'⟩ k
  exact ⟨es', ep', t', ⟨o', k o' ho', r'⟩, q'⟩
theorem mset_fresh (ho : h.get? a = some { cls := .type "set", dict := none, data := .set #[] 0 (.fresh 0 0 (!w.params.followText "set-order")) }) : MSet0 P w h a [] := by
  refine ⟨#[], 0, .fresh 0 0 (!w.params.followText "set-order"), ⟨_, ho, ⟨rfl, rfl, rfl⟩, rfl⟩, rfl, ?_, List.nodup_nil, ?_, ?_, by decide⟩
  · constructor
    · exact List.Pairwise.nil
    · rfl
    · rfl
    · exact ⟨3, by decide, by decide, rfl⟩
    · exact fun x m => absurd m (by show x ∉ ([] : List Nat); simp)
    · exact fun i h j e => absurd e (by simp)
  · show _ ∨ (!w.params.followText "set-order") = true
    cases w.params.followText "set-order"
    · exact .inr rfl
    · exact .inl rfl
  · show 0 * 5 < 7 * 3
    decide
end
section
variable {X : Cx} {pins : List (Addr × Obj)} {σ : L2.St} {H : Hp} {s : Shared}
theorem tups_raw (I : Inv X pins σ H s) {L : Rows} (ht : TupsIn H L) : ∀ p ∈ L, MixT X.prog X.w s.heap p.2 p.1 := fun p m => key_of I.hok (ht p m)
theorem mset_get (I : Inv X pins σ H s) {a : Addr} {L : Rows} (ha : H a = some (MSetO X.prog X.w a L)) (ht : TupsIn H L) : ∃ es ep t, MSet X.prog X.w s.heap a L es ep t :=
  MSet0.full (I.hok a _ ha).1 (tups_raw I ht)
/-- S.add(tuple) -/
theorem add_tup {E : Value → Shared → Prop} {D x : Addr} {L : Rows} {k : List Key} {Q : Value → Shared → Prop} (hu : X.A.units + 64 < cLine) (I : Inv X pins σ H s) (hD : H D = some (MSetO X.prog X.w D L)) (ht : TupsIn H L) (hx : H x = some (.tup (k.map kV))) (few : L.length + 1 ≤ 2000)
    (h : ∀ s' L2, (k ∈ L.map (·.2) → L2 = L) → (k ∉ L.map (·.2) → L2.Perm ((x, k) :: L)) → Inv X pins σ (upd H D (MSetO X.prog X.w D L2)) s' → Q .none s') : wpAny (model X.prog X.w) X.A (call (.builtin "set.add") [.ref D, .ref x]) Q E s := by
  obtain ⟨es, ep, t, R⟩ := mset_get I hD ht
  have kx : MixT X.prog X.w s.heap k x := key_of I.hok hx
  obtain ⟨o, ho, ex, hd⟩ := R.ob
  have ty : s.TypeIs (.ref D) "set" := ⟨o, ho, ex.1⟩
  refine wpAny_call_entry F.slot_set_add ty F.entry_set_add ?_ (F.args_set_add_2 _ _)
  unfold Builtin.«set.add» Builtin.Frozenset.oneOther
  simp only [List.isEmpty_nil, bind_assoc]
  unfold Builtin.Frozenset.addrOf setAdd
  refine wpAny_bind (wpAny_pure ?_)
  try dsimp only
  refine wpAny_bind (wpAny_pure ?_)
  try dsimp only
  refine wpAny_bind (wpAny_holding (wpAny_bind (wpAny_pyHash_tuple (by simp only [Around.in1_units]; omega) kx ?_)))
  have kx2 : MixT X.prog X.w ({ s with toks := s.toks + (k.length + 1) } : Shared).heap k x := kx
  refine add_mix (s := { s with toks := s.toks + (k.length + 1) }) R kx2 (by simp only [Around.in1_units]; omega) few fun b h' L2 es2 ep2 t2 sb R2 c1 c2 => ?_
  show wpAny _ _ (ret Value.none) _ _ _
  obtain ⟨o2, ho2, _⟩ := R2.ob
  refine wpAny_pure ⟨_, rfl, h _ L2 c1 c2 (I.write (e := D) (t' := s.toks + (k.length + 1)) (by rw [hD]; trivial) (.inl rfl) (fun b u hb hu => (sb.2 b hb).trans hu) ⟨o2, ho2⟩ R2.bare.ok)⟩

/-- a new set D, filled turn by turn -/
def tSm (P : Program) (w : World) (wi : TI) (g : TG) (tt : TT) (te : TE) (vs : List Nat) : TE := fun σ H Q => wi σ H fun J H1 => ∀ D, H1 D = none → ∃ W : Nat → Nat → Hp → Prop, (∃ m, W 0 m (upd H1 D (MSetO P w D []))) ∧ ∀ i m H, W i m H →
  (J.stop i H ∧ Q (.ref D) H) ∨ (J.go i H ∧ ∃ Nx : Hp → Prop, (∀ H', Nx H' → ∃ m', m' < m ∧ W (i + 1) m' H') ∧ ∀ x H', J.yld i H x H' → g x (wipe σ vs) H' fun σ2 H2 => wipe σ2 vs = wipe σ vs ∧ tt σ2 H2 fun b H3 =>
    if b = true then te σ2 H3 fun y H4 => ∃ (x : Addr) (k : List Key) (L : Rows), y = .ref x ∧ H4 x = some (.tup (k.map kV)) ∧ H4 D = some (MSetO P w D L) ∧ TupsIn H4 L ∧ L.length + 1 ≤ 2000 ∧
      ∀ L2, (k ∈ L.map (·.2) → L2 = L) → (k ∉ L.map (·.2) → L2.Perm ((x, k) :: L)) → Nx (upd H4 D (MSetO P w D L2)) else Nx H3)
theorem sm_run {Q : VK} {elt tg iter : Expr} {ifs : List Expr} {scope : Scope} {own : List (PySem.Str × Nat)} {pos at_ : Pos} {wi : TI} {g : TG} {tt : TT} {te : TE} {use : Option (Value → Sem Unit)} {Qf : Value → Shared → Prop}
    (hu : X.A.units + 64 < cLine) (hc : X.calm = true) (hN : X.N.Nodup) (I : Inv X pins σ H s) (hi : PI X tg iter wi) (ok : BlkOk X.N X.env.scope scope own)
    (hg : ∀ s H C cl fp, PG (X.blk s H scope (compEnvC scope cl C X.env) fp) tg g) (ht : ∀ s H C cl fp, PTs (X.blk s H scope (compEnvC scope cl C X.env) fp) ifs tt)
    (he : ∀ s H C cl fp, PE (X.blk s H scope (compEnvC scope cl C X.env) fp) elt te) (hs : ∀ x, foldedSetIterable iter X.env x = pure x)
    (h : tSm X.prog X.w wi g tt te (own.map (·.2)) σ H Q)
    (hR : ∀ D C s' m H', Inv X pins σ H' s' → Q (.ref D) H' → s'.heap.Ns C m → FpOk X pins H' C → compPost (model X.prog X.w) X.A X.xe use Qf (.ref D) C (.ok .next) s') :
    wpAny (model X.prog X.w) X.A (comprehension (.SetComp elt [⟨tg, iter, ifs, 0⟩] scope pos) scope X.env at_ (newSet (.type "set")) false (eval iter X.env) use) Qf X.xe s := by
  have frees : ∀ y ∈ scope.names, y.2 = .free → ∃ c, X.env.cells.lookup y.1 = some c := fun y m e => (ok.free y m e).elim (fun k => I.ok.has _ (.inl k)) fun k => I.ok.has _ (.inr k)
  refine wpAny_comprehension_free (use := use) rfl hs (closure_ok frees) ok.kind (fun y m e => by rw [ok.uniq y m, e])
    (thn (hi.run pins s σ H _ I h) fun xv s1 hx => thn hx fun itv s2 h2 => ?_)
  obtain ⟨it, fp, tn, J, H2, rfl, I2, T, st2, f2, q⟩ := h2
  refine PpSet.newSet_ok (newEnv_comp ?_)
  generalize eD : s2.heap.objs.size = D
  obtain ⟨W, ⟨m0, w0⟩, turn⟩ := q D (I2.hok.fresh (Nat.le_of_eq eD))
  generalize e3 : ({ s2 with heap := s2.heap.push { cls := .type "set", dict := none, data := .set #[] 0 (.fresh 0 0 (!X.w.params.followText "set-order")) } } : Shared) = s3
  have p3 : s3.heap = s2.heap.push { cls := .type "set", dict := none, data := .set #[] 0 (.fresh 0 0 (!X.w.params.followText "set-order")) } := by rw [← e3]
  have I3 : Inv X pins σ (upd H2 D (MSetO X.prog X.w D [])) s3 := by
    rw [← e3]
    refine I2.laid (t' := s2.toks) (fun b o e => Heap.get?_push_of_some _ e) (Nat.le_of_eq eD) ?_
    rw [← eD]
    exact (mset_fresh (Heap.get?_push_size _ rfl)).ok
  have inOld : ∀ b ∈ fp, b < s2.heap.objs.size := fun b m => by
    obtain ⟨o, e, _⟩ := T.obj _ _ st2 b m
    exact Heap.lt_size e
  have f3 : ∀ b ∈ fp, FpOk X pins (upd H2 D (MSetO X.prog X.w D [])) b ∧ b < s3.heap.objs.size := fun b m => by
    have lt := inOld b m
    refine ⟨⟨?_, (f2 b m).2⟩, by rw [p3, Heap.size_push]; exact Nat.lt_succ_of_lt lt⟩
    rw [upd_ne (Nat.ne_of_lt (eD ▸ lt))]
    exact (f2 b m).1
  have st3 : tn 0 s3.heap := T.keep _ _ _ st2 fun b _ o e => by rw [p3]; exact Heap.get?_push_of_some _ e
  have I4 := block_start I3 ok hN f3
  have pg := hg s3 (upd H2 D (MSetO X.prog X.w D [])) s3.heap.objs.size (cellsFrom (s3.heap.objs.size + 1) scope.names (cloFrom X.env.cells scope.names [])) fp
  have pt := ht s3 (upd H2 D (MSetO X.prog X.w D [])) s3.heap.objs.size (cellsFrom (s3.heap.objs.size + 1) scope.names (cloFrom X.env.cells scope.names [])) fp
  have pe := he s3 (upd H2 D (MSetO X.prog X.w D [])) s3.heap.objs.size (cellsFrom (s3.heap.objs.size + 1) scope.names (cloFrom X.env.cells scope.names [])) fp
  show codeAny _ _ (.compStart (.SetComp elt [⟨tg, iter, ifs, 0⟩] scope pos) 0 (.ref it) (.ref D) (compEnvC scope (cellsFrom (s3.heap.objs.size + 1) scope.names (cloFrom X.env.cells scope.names [])) s3.heap.objs.size X.env)) (compPost (model X.prog X.w) X.A X.xe use Qf (.ref D) s3.heap.objs.size) { s3 with heap := pushCells (s3.heap.push { cls := .type "dict", data := .dict #[] }) scope.names }
  have none3 : ∀ b ∈ fp, (upd H2 D (MSetO X.prog X.w D [])) b = none := fun b m => (f3 b m).1.1
  generalize ece : compEnvC scope (cellsFrom (s3.heap.objs.size + 1) scope.names (cloFrom X.env.cells scope.names [])) s3.heap.objs.size X.env = ce at I4 pg pt pe ⊢
  have cl : ce.locals = s3.heap.objs.size := by rw [← ece]; rfl
  generalize upd H2 D (MSetO X.prog X.w D []) = H3 at I3 I4 pg pt pe w0 none3 f3
  generalize e4 : ({ s3 with heap := pushCells (s3.heap.push { cls := .type "dict", data := .dict #[] }) scope.names } : Shared) = s4 at I4 ⊢
  have st4 : tn 0 s4.heap := T.keep _ _ _ st3 fun b _ o e => by rw [← e4]; exact pushCells_keeps _ _ _ _ (Heap.get?_push_of_some _ e)
  have calmFp : ∀ {σ' : L2.St} {H' : Hp} {s' : Shared}, Inv (X.blk s3 H3 scope ce fp) [] σ' H' s' → (∀ b ∈ fp, H' b = none) → ∀ b ∈ fp, FpOk (X.blk s3 H3 scope ce fp) [] H' b := fun {σ' H' s'} I' n b m =>
    ⟨n b m, (I'.ok.exf b m).1, I'.ok.exfs b m, .inl m, fun x c e => (I'.ok.exf b m).2 x c e, fun p hp => absurd (show p ∈ ([] : List (Addr × Obj)) ++ [] from hp) (by simp)⟩
  have loop : codeAny (model X.prog X.w) X.A (.compLoop (.SetComp elt [⟨tg, iter, ifs, 0⟩] scope pos) 0 (.ref it) (.ref D) ce) (compPost (model X.prog X.w) X.A X.xe use Qf (.ref D) s3.heap.objs.size) s4 := by
    refine PpSet.compLoopS_any (fun n s' => ∃ i H', Inv (X.blk s3 H3 scope ce fp) [] (wipe σ (own.map (·.2))) H' s' ∧ tn i s'.heap ∧ (∀ b ∈ fp, H' b = none) ∧ W i n H') ?_ m0 ⟨0, H3, I4, st4, none3, w0⟩
    rintro n s5 ⟨i, H5, I5, st5, n5, w5⟩
    rcases turn i n H5 w5 with ⟨stop, fin⟩ | ⟨go, Nx, next, step⟩
    · refine thnF (T.done (X.blk s3 H3 scope ce fp) rfl rfl rfl hc i [] s5 _ H5 (fun _ _ => False) I5 (calmFp I5 n5) st5 stop) fun r s6 ⟨hr, I6⟩ => ?_
      subst hr
      have I7 : Inv X pins σ H5 s6 := I3.call' (ch := fp) I6.os I6.base I6.hok I6.bare fun b m => ⟨(f3 b m).1.2.2.2.1, (f3 b m).1.2.1, (f3 b m).1.2.2.2.2.1, (f3 b m).1.2.2.2.2.2⟩
      have nC : H5 s3.heap.objs.size = none := cl ▸ (show H5 ce.locals = none from I6.free)
      obtain ⟨m, hn, _⟩ := I6.loc
      exact hR D s3.heap.objs.size s6 m H5 I7 fin (cl ▸ (show s6.heap.Ns ce.locals m from hn)) (I3.fpOk (Nat.le_refl _) nC)
    · refine thnF (T.item (X.blk s3 H3 scope ce fp) rfl rfl rfl hc i [] s5 _ H5 (fun _ _ => False) I5 (calmFp I5 n5) st5 go) fun r s6 ⟨u, hr, h6⟩ => ?_
      subst hr
      refine thnF h6 fun _ s7 ⟨x, H7, I7, r7, y7, st7, n7⟩ => ?_
      have pinned := I7.pinned (calmFp I7 n7) (T.obj _ _ st7)
      refine thnF (pg.run _ s7 _ H7 x u _ pinned r7 (step x H7 y7)) fun _ s8 ⟨σ8, H8, I8, w8, q8⟩ => ?_
      refine thnF (pt.run _ s8 σ8 H8 _ I8 q8) fun b s9 ⟨H9, I9, q9⟩ => ?_
      have turnEnd : ∀ {s' : Shared} {H' : Hp}, Inv (X.blk s3 H3 scope ce fp) ([] ++ pinsAt fp s7.heap) σ8 H' s' → Nx H' → ∃ m, m < n ∧ ∃ i H', Inv (X.blk s3 H3 scope ce fp) [] (wipe σ (own.map (·.2))) H' s' ∧ tn i s'.heap ∧ (∀ b ∈ fp, H' b = none) ∧ W i m H' := fun {s' H'} I' nx => by
        obtain ⟨m', lt, w'⟩ := next H' nx
        have pin : ∀ b ∈ fp, ∀ o, s7.heap.get? b = some o → s'.heap.get? b = some o ∧ H' b = none := fun b m o e => by
          have z := I'.pin (b, o) (List.mem_append_right _ (List.mem_append_right _ (mem_pinsAt m e)))
          exact ⟨z.1, z.2.1⟩
        refine ⟨m', lt, i + 1, H', (I'.unpinned (pins := [])).weak (by rw [← w8, wipe_length]) (fun j v e => ?_), T.keep _ _ _ st7 fun b m o e => (pin b m o e).1, fun b m => ?_, w'⟩
        · rw [← w8] at e
          exact (wipe_some e).1
        · obtain ⟨o, e, _⟩ := T.obj _ _ st7 b m
          exact (pin b m o e).2
      cases b with
      | false =>
        simp only [Bool.false_eq_true, if_false] at q9 ⊢
        exact turnEnd I9 q9
      | true =>
        simp only [if_true] at q9 ⊢
        refine thnF (pe.run _ s9 σ8 H9 _ I9 q9) fun z s10 ⟨yv, H10, I10, r10, xa, k, L, ey, hx, hD, hT, few, nx⟩ => ?_
        subst ey
        cases (show z = Value.ref xa from r10)
        exact add_tup (X := X.blk s3 H3 scope ce fp) hu I10 hD hT hx few fun s11 L2 c1 c2 I11 => turnEnd I11 (nx L2 c1 c2)
  exact PpSet.codeAny_compStart_set loop (T.self X.A 0 _ _ _ st4 loop)
theorem pe_sm {elt tg iter : Expr} {ifs : List Expr} {scope : Scope} {own : List (PySem.Str × Nat)} {pos : Pos} {wi : TI} {g : TG} {tt : TT} {te : TE} (hu : X.A.units + 64 < cLine) (hc : X.calm = true) (hN : X.N.Nodup) (hi : PI X tg iter wi) (ok : BlkOk X.N X.env.scope scope own)
    (hg : ∀ s H C cl fp, PG (X.blk s H scope (compEnvC scope cl C X.env) fp) tg g) (ht : ∀ s H C cl fp, PTs (X.blk s H scope (compEnvC scope cl C X.env) fp) ifs tt)
    (he : ∀ s H C cl fp, PE (X.blk s H scope (compEnvC scope cl C X.env) fp) elt te) (hs : ∀ x, foldedSetIterable iter X.env x = pure x := by intro _; rfl) :
    PE X (.SetComp elt [⟨tg, iter, ifs, 0⟩] scope pos) (tSm X.prog X.w wi g tt te (own.map (·.2))) := by
  refine ⟨fun pins s σ H Q I h => ?_⟩
  rw [PpSet.eval_SetComp]
  refine sm_run hu hc hN I hi ok hg ht he hs h fun D C s' m H' I' q hn f => ⟨m, hn, fun h'' sb => ?_⟩
  obtain ⟨f0, f1, f2, f3, f4, f5⟩ := f
  exact ⟨.ref D, H', I'.turned (t' := s'.toks) (fun b o hb e => (sb.2 b hb).trans e) f0 f1 f3 f4 f5, rfl, q⟩
end
end Sx

set_option linter.all false
set_option maxRecDepth 100000
set_option maxHeartbeats 2000000
/-! the order of tuples of ints and texts; sorted lists of them -/
namespace Sx
open PySem PySem.Spec PyProof.Rows L2

/-! ### linear orders -/
structure Lin {α : Type} (lt : α → α → Bool) : Prop where
  irr : ∀ x, lt x x = false
  tr : ∀ x y z, lt x y = true → lt y z = true → lt x z = true
  tot : ∀ x y, x ≠ y → lt x y = true ∨ lt y x = true
section
variable {α β : Type} {lt : α → α → Bool}
theorem Lin.asym (O : Lin lt) {x y : α} (h : lt x y = true) : lt y x = false := by
  rcases e : lt y x with _ | _
  · rfl
  · have z := O.tr x y x h e
    rw [O.irr] at z
    cases z
theorem Lin.anti (O : Lin lt) {x y : α} (h1 : lt x y = false) (h2 : lt y x = false) : x = y := Classical.byContradiction fun ne => by
  rcases O.tot x y ne with z | z
  · rw [h1] at z; cases z
  · rw [h2] at z; cases z
theorem Lin.le_tr (O : Lin lt) {x y z : α} (h1 : lt y x = false) (h2 : lt z y = false) : lt z x = false := by
  rcases e : lt z x with _ | _
  · rfl
  · by_cases c : x = y
    · subst c; rw [e] at h2; cases h2
    · rcases O.tot x y c with q | q
      · have r := O.tr z x y e q
        rw [h2] at r; cases r
      · rw [h1] at q; cases q
theorem Lin.swo (O : Lin lt) (f : β → α) : SrtO.Swo fun x y => lt (f x) (f y) := ⟨fun _ _ h => O.asym h, fun _ _ _ h1 h2 => O.le_tr h1 h2⟩
/-- a rising list is known by its members -/
theorem Lin.uniq (O : Lin lt) : ∀ {l m : List α}, l.Pairwise (fun x y => lt y x = false) → m.Pairwise (fun x y => lt y x = false) → l.Perm m → l = m
  | [], m, _, _, p => (List.Perm.eq_nil p.symm).symm
  | x :: l, [], _, _, p => by cases List.Perm.eq_nil p
  | x :: l, y :: m, hl, hm, p => by
    have h1 := List.pairwise_cons.mp hl
    have h2 := List.pairwise_cons.mp hm
    have a : lt y x = false := by
      rcases List.mem_cons.mp (p.mem_iff.mpr List.mem_cons_self) with e | z
      · rw [e]; exact O.irr _
      · exact h1.1 y z
    have b : lt x y = false := by
      rcases List.mem_cons.mp (p.mem_iff.mp List.mem_cons_self) with e | z
      · rw [e]; exact O.irr _
      · exact h2.1 x z
    have e := O.anti b a
    subst e
    rw [O.uniq h1.2 h2.2 p.cons_inv]
variable [DecidableEq α]
/-- item by item, a beginning ahead of what goes on -/
def lexL (lt : α → α → Bool) : List α → List α → Bool
  | [], [] => false
  | [], _ :: _ => true
  | _ :: _, [] => false
  | a :: as, b :: bs => if a = b then lexL lt as bs else lt a b
theorem Lin.lex (O : Lin lt) : Lin (lexL lt) where
  irr := fun l => by
    induction l with
    | nil => rfl
    | cons a l ih => rw [lexL, if_pos rfl]; exact ih
  tr := fun l => by
    induction l with
    | nil =>
      intro m n h1 h2
      cases n with
      | nil => cases m <;> cases h2
      | cons => rfl
    | cons a l ih =>
      intro m n h1 h2
      cases m with
      | nil => cases h1
      | cons b m =>
        cases n with
        | nil => cases h2
        | cons c n =>
          rw [lexL] at h1 h2 ⊢
          by_cases ab : a = b
          · subst ab
            rw [if_pos rfl] at h1
            by_cases ac : a = c
            · rw [if_pos ac] at h2 ⊢
              exact ih m n h1 h2
            · rw [if_neg ac] at h2 ⊢
              exact h2
          · rw [if_neg ab] at h1
            by_cases bc : b = c
            · subst bc
              rw [if_neg ab]
              exact h1
            · rw [if_neg bc] at h2
              have ac := O.tr a b c h1 h2
              by_cases e : a = c
              · subst e; rw [O.irr] at ac; cases ac
              · rw [if_neg e]; exact ac
  tot := fun l => by
    induction l with
    | nil =>
      intro m ne
      cases m with
      | nil => exact absurd rfl ne
      | cons => exact .inl rfl
    | cons a l ih =>
      intro m ne
      cases m with
      | nil => exact .inr rfl
      | cons b m =>
        rw [lexL, lexL]
        by_cases ab : a = b
        · subst ab
          rw [if_pos rfl, if_pos rfl]
          exact ih m fun e => ne (by rw [e])
        · rw [if_neg ab, if_neg fun e => ab e.symm]
          exact O.tot a b ab
end
/-- ints ahead of texts -/
def ltKey : Key → Key → Bool
  | .inl a, .inl b => decide (a < b)
  | .inr x, .inr y => decide (x.cps.toList < y.cps.toList)
  | .inl _, .inr _ => true
  | .inr _, .inl _ => false
def ltText (x y : PySem.Str) : Bool := decide (x.cps.toList < y.cps.toList)
theorem lin_text : Lin ltText where
  irr := fun x => decide_eq_false (List.lt_irrefl _)
  tr := fun x y z h1 h2 => decide_eq_true (List.lt_trans (of_decide_eq_true h1) (of_decide_eq_true h2))
  tot := fun x y ne => by
    by_cases c : x.cps.toList < y.cps.toList
    · exact .inl (decide_eq_true c)
    · refine .inr (decide_eq_true (Classical.byContradiction fun d => ne ?_))
      have e := List.le_antisymm (List.not_lt.mp d) (List.not_lt.mp c)
      cases x
      cases y
      exact congrArg _ (Array.toList_inj.mp e)
theorem lin_key : Lin ltKey where
  irr := fun k => by
    cases k with
    | inl a => exact decide_eq_false (Int.lt_irrefl a)
    | inr x => exact lin_text.irr x
  tr := fun k l m h1 h2 => by
    cases k with
    | inl a =>
      cases m with
      | inr => rfl
      | inl c =>
        cases l with
        | inr => cases h2
        | inl b => exact decide_eq_true (Int.lt_trans (of_decide_eq_true h1) (of_decide_eq_true h2))
    | inr x =>
      cases l with
      | inl => cases h1
      | inr y =>
        cases m with
        | inl => cases h2
        | inr z => exact lin_text.tr x y z h1 h2
  tot := fun k l ne => by
    cases k with
    | inl a =>
      cases l with
      | inr => exact .inl rfl
      | inl b =>
        rcases Int.lt_trichotomy a b with c | c | c
        · exact .inl (decide_eq_true c)
        · exact absurd (by rw [c]) ne
        · exact .inr (decide_eq_true c)
    | inr x =>
      cases l with
      | inl => exact .inr rfl
      | inr y => exact lin_text.tot x y fun e => ne (by rw [e])
abbrev ltT : List Key → List Key → Bool := lexL ltKey
theorem lin_tup : Lin ltT := lin_key.lex
/-- a key list's shape: where ints stand -/
def shp (k : List Key) : List Bool := k.map Sum.isLeft

/-! ### the model's comparison -/
section
variable {P : Program} {w : World} {A : Around} {E : Value → Shared → Prop} {s : Shared}
theorem kat_items {b : Bool} : ∀ {ks ls : List Key} {us vs : List Value} {i : Nat}, ItemsAre (mixKind P w) ks us → ItemsAre (mixKind P w) ls vs → shp ks = shp ls → (b && i == 0) = true ∨ (b && i == 0) = false →
    PySem.W.KatLex P w A b false (fun r s' => s' = s ∧ r = ltT ks ls) (us.zip vs) i s := by
  intro ks
  induction ks with
  | nil =>
    intro ls us vs i h1 h2 e _
    cases h1
    cases ls with
    | nil => cases h2; exact PySem.W.kat_nil ⟨rfl, rfl⟩
    | cons => cases e
  | cons k ks ih =>
    intro ls us vs i h1 h2 e _
    cases ls with
    | nil => cases e
    | cons l ls =>
      cases h1 with
      | @cons _ u _ us k1 t1 =>
        cases h2 with
        | @cons _ v _ vs k2 t2 =>
          have e' : Sum.isLeft k :: shp ks = Sum.isLeft l :: shp ls := e
          injection e' with e1 e2
          refine PySem.W.kat_cons ((mixKind P w).eqBool k1 k2 ?_)
          refine PySem.W.kat_go (fun c => ?_) fun c => ?_
          · have kl : k = l := of_decide_eq_true c
            subst kl
            refine PySem.W.kat_yes ?_
            have q := ih (i := i + 1) t1 t2 e2 (by cases (b && i + 1 == 0) <;> simp)
            have z : ltT (k :: ks) (k :: ls) = ltT ks ls := if_pos rfl
            rw [z]
            exact q
          · have kl : ¬ k = l := of_decide_eq_false c
            have z : ltT (k :: ks) (l :: ls) = ltKey k l := if_neg kl
            rw [z]
            refine PySem.W.kat_no ?_
            rcases keyIs_shape k1 with ⟨i1, t, rfl, rfl⟩ | ⟨x, t, rfl, rfl⟩
            · rcases keyIs_shape k2 with ⟨i2, t', rfl, rfl⟩ | ⟨y, t', rfl, rfl⟩
              · cases (b && i == 0)
                · exact PySem.W.kat_one _ _ (PyProof.Rows.lt_int (show _ = _ ∧ _ = _ from ⟨rfl, rfl⟩))
                · exact oneLt_int ⟨rfl, rfl⟩
              · cases e1
            · rcases keyIs_shape k2 with ⟨i2, t', rfl, rfl⟩ | ⟨y, t', rfl, rfl⟩
              · cases e1
              · cases (b && i == 0)
                · exact PySem.W.kat_one _ _ (PySem.P.lt_str (show _ = _ ∧ _ = _ from ⟨rfl, rfl⟩))
                · exact oneLt_str ⟨rfl, rfl⟩
open Classical in
/-- the key that stands at v -/
noncomputable def keyAt (P : Program) (w : World) (h : Heap) (v : Value) : List Key := if c : ∃ k a, v = .ref a ∧ MixT P w h k a then c.choose else []
theorem keyAt_of {h : Heap} {k : List Key} {a : Addr} (hk : MixT P w h k a) : keyAt P w h (.ref a) = k := by
  unfold keyAt
  have c : ∃ k' b, Value.ref a = .ref b ∧ MixT P w h k' b := ⟨k, a, rfl, hk⟩
  rw [dif_pos c]
  obtain ⟨b, e, q⟩ := c.choose_spec
  cases e
  exact q.inj hk
/-- v is a tuple of this shape -/
def TupV (P : Program) (w : World) (h : Heap) (sh : List Bool) (v : Value) : Prop := ∃ k a, v = .ref a ∧ MixT P w h k a ∧ shp k = sh
theorem mix_cls {h h' : Heap} {a : Addr} {k : List Key} {L : Addr} (keep : ∀ b o, b ≠ L → h.get? b = some o → h'.get? b = some o) (lst : ∀ o, h.get? L = some o → o.cls ≠ .type "tuple") (hk : MixT P w h k a) : MixT P w h' k a := by
  obtain ⟨o, items, n, ho, hc, hd, hi⟩ := hk
  exact ⟨o, items, n, keep a o (fun e => lst o (by rw [← e]; exact ho) hc) ho, hc, hd, hi⟩
theorem tup_cmp {sh : List Bool} {b : Bool} {h0 : Heap} {vs : List Value} (h : ∀ v ∈ vs, ∃ k a, v = .ref a ∧ MixT P w h0 k a ∧ MixT P w s.heap k a ∧ shp k = sh) :
    SrtO.Cmp P w A s (tuples' b) (fun p => p.1 ∈ vs) (SrtO.lt2 fun v u => ltT (keyAt P w h0 v) (keyAt P w h0 u)) := by
  intro p q hp hq
  obtain ⟨k, x, ex, k0, kx, kS⟩ := h _ hp
  obtain ⟨l, y, ey, l0, ly, lS⟩ := h _ hq
  show wpAny (model P w) A (keyLt' (tuples' b) p.1 q.1) (fun r s' => s' = s ∧ r = ltT (keyAt P w h0 p.1) (keyAt P w h0 q.1)) (fun _ _ => False) s
  rw [ex, ey, keyAt_of k0, keyAt_of l0]
  obtain ⟨o, xs, n, ho, hc, hd, hi⟩ := kx
  obtain ⟨o', ys, n', ho', hc', hd', hi'⟩ := ly
  refine PySem.W.kat_lt ho hd ho' hd' ?_
  have len : k.length = l.length := by
    have z := congrArg List.length (kS.trans lS.symm)
    unfold shp at z
    rwa [List.length_map, List.length_map] at z
  have fin : decide (xs.size < ys.size) = false := by
    have z1 : k.length = xs.size := by rw [hi.length]; simp
    have z2 : l.length = ys.size := by rw [hi'.length]; simp
    exact decide_eq_false (by omega)
  rw [fin]
  exact kat_items hi hi' (kS.trans lS.symm) (by cases (b && 0 == 0) <;> simp)
theorem kat_heads {sh : List Bool} {c : Bool} {h : Heap} : ∀ vs : List Value, (∀ v ∈ vs, TupV P w h (c :: sh) v) → ∃ fs : List Value, PySem.W.KatTups h vs fs ∧ fs.length = vs.length ∧ ∀ f ∈ fs, (c = true ∧ ∃ i t, f = Value.int i t) ∨ (c = false ∧ ∃ x t, f = Value.str x t)
  | [], _ => ⟨[], PySem.W.KatTups.nil, rfl, fun _ m => absurd m List.not_mem_nil⟩
  | v :: vs, hv => by
    obtain ⟨fs, a1, a2, a3⟩ := kat_heads vs fun u m => hv u (List.mem_cons_of_mem _ m)
    obtain ⟨k, a, rfl, ⟨o, items, n, ho, hc, hd, hi⟩, e⟩ := hv _ List.mem_cons_self
    cases k with
    | nil => cases e
    | cons k ks =>
      have e' : Sum.isLeft k :: shp ks = c :: sh := e
      injection e' with e1 _
      generalize il : items.toList = il at hi
      cases hi with
      | @cons _ f _ us k1 t1 =>
        have h0 : items[0]? = some f := by rw [← Array.getElem?_toList, il] <;> rfl
        refine ⟨f :: fs, PySem.W.KatTups.cons ho hc hd h0 a1, by rw [List.length_cons, List.length_cons, a2], fun g m => ?_⟩
        rcases List.mem_cons.mp m with rfl | m
        · rcases keyIs_shape k1 with ⟨i, t, rfl, ef⟩ | ⟨x, t, rfl, ef⟩
          · exact .inl ⟨e1.symm, i, t, ef⟩
          · exact .inr ⟨e1.symm, x, t, ef⟩
        · exact a3 g m
theorem tups_sortable {sh : List Bool} {c : Bool} {a : Addr} {vs : List Value} (pos : 0 < vs.length) (hv : ∀ v ∈ vs, TupV P w s.heap (c :: sh) v) (ha : ∀ o, s.heap.get? a = some o → o.cls ≠ .type "tuple") :
    SrtO.SortableO P w A s a vs fun v u => ltT (keyAt P w s.heap v) (keyAt P w s.heap u) := by
  intro h' keep
  have hv' : ∀ v ∈ vs, TupV P w h' (c :: sh) v := fun v m => by
    obtain ⟨k, x, e, hk, es⟩ := hv v m
    exact ⟨k, x, e, mix_cls keep ha hk, es⟩
  obtain ⟨fs, f1, f2, f3⟩ := kat_heads vs hv'
  refine ⟨tuples' true, fun Q E hq => ?_, tup_cmp (sh := c :: sh) fun v m => ?_⟩
  · cases c with
    | true =>
      refine PySem.W.kat_kind (T := .type "int") f1 (by omega) (fun f m => ?_) (by rfl) ?_
      · rcases f3 f m with ⟨_, i, t, rfl⟩ | ⟨z, _⟩
        · exact PySem.W.Looks.now
        · cases z
      · rw [show (Value.type "int" != Value.type "tuple") = true from by decide +kernel]
        exact hq
    | false =>
      refine PySem.W.kat_kind (T := .type "str") f1 (by omega) (fun f m => ?_) (by rfl) ?_
      · rcases f3 f m with ⟨z, _⟩ | ⟨_, x, t, rfl⟩
        · cases z
        · exact PySem.W.Looks.now
      · rw [show (Value.type "str" != Value.type "tuple") = true from by decide +kernel]
        exact hq
  · obtain ⟨k, x, e, hk, es⟩ := hv v m
    exact ⟨k, x, e, hk, mix_cls keep ha hk, es⟩
end
end Sx

set_option linter.all false
set_option maxRecDepth 100000
set_option maxHeartbeats 2000000
/-! sorted of a list of tuples, of a set of tuples -/
namespace Sx
open PySem PySem.Spec PyProof.Rows L2
abbrev refsOf (R : Rows) : List V := R.map fun p => V.ref p.1
abbrev valsOf (R : Rows) : List Value := R.map fun p => Value.ref p.1
theorem vals_refs : ∀ R : Rows, Vals (refsOf R) (valsOf R)
  | [] => .nil
  | _ :: R => .cons rfl (vals_refs R)
theorem refs_vals : ∀ {R : Rows} {us : List Value}, Vals (refsOf R) us → us = valsOf R
  | [], _, .nil => rfl
  | _ :: R, _, .cons r t => by
    cases r
    rw [refs_vals t] <;> rfl
/-- rows picked by their values -/
theorem rows_back {R : Rows} {us : List Value} (h : ∀ u ∈ us, u ∈ valsOf R) : ∃ R2, us = valsOf R2 ∧ ∀ p ∈ R2, p ∈ R := by
  induction us with
  | nil => exact ⟨[], rfl, fun p m => absurd m List.not_mem_nil⟩
  | cons u us ih =>
    obtain ⟨R2, e, sub⟩ := ih fun v m => h v (List.mem_cons_of_mem _ m)
    obtain ⟨p, m, rfl⟩ := List.mem_map.mp (h u List.mem_cons_self)
    refine ⟨p :: R2, by show _ = Value.ref p.1 :: valsOf R2; rw [e], fun q hq => ?_⟩
    rcases List.mem_cons.mp hq with rfl | hq
    · exact m
    · exact sub q hq
/-- the same addresses in another order are the same rows -/
theorem rows_perm {R R2 : Rows} (inj : ∀ p ∈ R, ∀ q ∈ R, p.1 = q.1 → p = q) (sub : ∀ p ∈ R2, p ∈ R) (pm : (valsOf R2).Perm (valsOf R)) : R2.Perm R := by
  have z := pm
  clear pm
  induction R2 generalizing R with
  | nil =>
    have e : valsOf R = [] := List.Perm.eq_nil z.symm
    rw [List.map_eq_nil_iff.mp e]
  | cons p R2 ih =>
    obtain ⟨S, T, eR⟩ := List.append_of_mem (sub p List.mem_cons_self)
    have pe : R.Perm (p :: (S ++ T)) := by rw [eR]; exact List.perm_middle
    have old : ∀ r ∈ S ++ T, r ∈ R := fun r m => pe.mem_iff.mpr (List.mem_cons_of_mem _ m)
    have z2 : (valsOf R2).Perm (valsOf (S ++ T)) := (z.trans (pe.map fun p => Value.ref p.1)).cons_inv
    refine List.Perm.trans (List.Perm.cons p (ih (fun a ha b hb e => inj a (old a ha) b (old b hb) e) (fun q hq => ?_) z2)) pe.symm
    have hr : Value.ref q.1 ∈ valsOf (S ++ T) := z2.mem_iff.mp (List.mem_map.mpr ⟨q, hq, rfl⟩)
    obtain ⟨r, hr, e⟩ := List.mem_map.mp hr
    injection e with e
    rw [inj q (sub q (List.mem_cons_of_mem _ hq)) r (old r hr) e.symm]
    exact hr
theorem rising {P : Program} {w : World} {h : Heap} {R : Rows} (ht : ∀ p ∈ R, MixT P w h p.2 p.1) (hs : SrtO.Srtd (fun v u => ltT (keyAt P w h v) (keyAt P w h u)) (valsOf R)) : R.Pairwise fun x y => ltT y.2 x.2 = false := by
  refine List.Pairwise.imp_of_mem (fun {x y} hx hy z => ?_) (List.pairwise_map.mp hs)
  have z : ltT (keyAt P w h (.ref y.1)) (keyAt P w h (.ref x.1)) = false := z
  rw [keyAt_of (ht x hx), keyAt_of (ht y hy)] at z
  exact z
section
variable {X : Cx}
/-- sorted(xs), xs a list of tuples of one shape: a new list of the same, rising -/
def rSortM (K : PySem.W.Frag) : List V → Hp → VK → Prop := fun vs H Q => ∃ (a : Addr) (R : Rows) (c : Bool) (sh : List Bool), vs = [V.ref a] ∧ SqL K H a (refsOf R) ∧ TupsIn H R ∧ (∀ p ∈ R, shp p.2 = c :: sh) ∧
  ∀ (R2 : Rows) (p : Addr), R2.Perm R → R2.Pairwise (fun x y => ltT y.2 x.2 = false) → H p = none → Q (.ref p) (upd H p (.lst (refsOf R2)))
theorem tups_inj {H : Hp} {R : Rows} (ht : TupsIn H R) : ∀ p ∈ R, ∀ q ∈ R, p.1 = q.1 → p = q := fun p hp q hq e => by
  have a := ht p hp
  have b := ht q hq
  rw [e, b] at a
  injection a with a
  injection a with a
  have inj : ∀ k l : List Key, k.map kV = l.map kV → k = l := by
    intro k
    induction k with
    | nil => intro l e; cases l <;> first | rfl | cases e
    | cons k ks ih =>
      intro l e
      cases l with
      | nil => cases e
      | cons l ls =>
        injection e with e1 e2
        rw [ih ls e2]
        cases k <;> cases l <;> first | (injection e1 with e1; rw [e1]) | cases e1
  exact Prod.ext e (inj _ _ a.symm)
theorem cr_sortM : CallR X (.builtin "sorted") (rSortM X.K) := by
  intro pins s σ H vs us Q I r h
  obtain ⟨a, R, c, sh, rfl, hs, ht, hsh, q⟩ := h
  obtain ⟨its, rv, hl, hz⟩ := I.list hs
  rw [Vals.ref1 r]
  have ei := refs_vals rv
  subst ei
  have raw := tups_raw I ht
  have szR : (valsOf R).length ≤ sizeLine := by rw [← rv.length]; exact hz
  have ord := SrtO.sorted_ord (prog := X.prog) (w := X.w) (A := X.A) (E := X.xe) (s := s) (l := a) (vs := valsOf R) (ltv := fun v u => ltT (keyAt X.prog X.w s.heap v) (keyAt X.prog X.w s.heap u))
    (Q := EP X pins σ Q) (lin_tup.swo _) hl.isList szR
  refine ord (fun h2 h₁ a' ha' kk => ?_) fun out h1 h2 => ?_
  · have hv : ∀ v ∈ valsOf R, TupV X.prog X.w h₁ (c :: sh) v ∧ keyAt X.prog X.w h₁ v = keyAt X.prog X.w s.heap v := fun v m => by
      obtain ⟨p, mp, rfl⟩ := List.mem_map.mp m
      obtain ⟨o, items, n, ho, rest⟩ := raw p mp
      have z : MixT X.prog X.w h₁ p.2 p.1 := ⟨o, items, n, (kk _ o ho).2, rest⟩
      exact ⟨⟨p.2, p.1, rfl, z, hsh p mp⟩, by rw [keyAt_of z, keyAt_of (raw p mp)]⟩
    intro h' keep
    obtain ⟨κ, k1, k2⟩ := tups_sortable (P := X.prog) (w := X.w) (A := X.A.in1.in1) (s := { s with heap := h₁ }) (a := a') (vs := valsOf R) (sh := sh) (c := c) (by omega) (fun v m => (hv v m).1) (fun o e z => by
      rw [ha'] at e
      cases e
      exact absurd (Value.type.inj z) (by decide)) h' keep
    refine ⟨κ, k1, fun p q hp hq => ?_⟩
    have y := k2 p q hp hq
    refine wpAny_mono y (fun r s' ⟨e1, e2⟩ => ⟨e1, ?_⟩) fun _ _ f => f
    rw [e2]
    show ltT (keyAt X.prog X.w h₁ p.1) (keyAt X.prog X.w h₁ q.1) = ltT (keyAt X.prog X.w s.heap p.1) (keyAt X.prog X.w s.heap q.1)
    rw [(hv _ hp).2, (hv _ hq).2]
  · obtain ⟨ep, he'⟩ := PyProof.Rows.sortedAll_at s.heap (valsOf R) out.toArray
    obtain ⟨R2, rfl, sub⟩ := rows_back fun u m => h2.perm.mem_iff.mp m
    have pm := rows_perm (tups_inj ht) sub h2.perm
    have hlen : (refsOf R2).length ≤ sizeLine := by
      rw [List.length_map, pm.length_eq]
      rw [List.length_map] at szR
      exact szR
    exact ⟨.ref _, upd H (s.heap.objs.size + 1) (.lst (refsOf R2)), I.laid (t' := s.toks) (fun _ _ => PyProof.Rows.sortedAll_old) (Nat.le_succ _) ⟨hlen, valsOf R2, ep, vals_refs R2, he'⟩, rfl,
      q R2 _ pm (rising (fun p m => raw p (sub p m)) h1) (I.hok.fresh (Nat.le_succ _))⟩
end
end Sx

set_option linter.all false
set_option maxRecDepth 100000
set_option maxHeartbeats 2000000
/-! sorted of a set of tuples -/
namespace Sx
open PySem PySem.Spec PyProof.Rows L2
section
variable {P : Program} {w : World} {A : Around} {E : Value → Shared → Prop} {s : Shared}
theorem sorted_mset {a : Addr} {L : Rows} {es : Array (Int × Value)} {ep : Nat} {t : SetTable} {Q : Value → Shared → Prop} (R : MSet P w s.heap a L es ep t) (hh : A.handled = none) {c : Bool} {sh : List Bool} (hs : ∀ p ∈ L, shp p.2 = c :: sh)
    (hQ : ∀ s' p (L2 : Rows) (n : Nat), (∀ b o, s.heap.get? b = some o → s'.heap.get? b = some o) → s'.gens = s.gens → s'.os = s.os → s.heap.objs.size ≤ p →
      s'.heap.get? p = some (seqObj "list" (valsOf L2).toArray n) → L2.Perm L → L2.Pairwise (fun x y => ltT y.2 x.2 = false) → Q (.ref p) s') :
    wpAny (model P w) A (call (.builtin "sorted") [.ref a]) Q E s := by
  obtain ⟨o, ho, hex, hd⟩ := R.ob
  have n1 := cells_size R.rows
  have few := R.few
  refine Calls.call_function_entry kind_sorted plain_sorted entry_sorted (args_sorted1 _) ?_
  unfold Builtin.«sorted»
  refine wpAny_bind (m := checkCount "sorted" 1 1 _) (wpAny_pure ?_)
  refine wpAny_bind (collect_set (A := A.in1) hh ⟨o, ho, hex.1, hd⟩ R.fits (by unfold scanBound; omega) R.tab.up R.led fun s1 vs k1 hz g1 o1 pm => ?_)
  have esV : es.toList.map (·.2) = valsOf L := by
    rw [R.rows]
    unfold cells
    rw [List.map_map] <;> rfl
  rw [esV] at pm
  have inj : ∀ p ∈ L, ∀ q ∈ L, p.1 = q.1 → p = q := fun p hp q hq e => by
    have x := R.tup p hp
    rw [e] at x
    exact Prod.ext e (x.inj (R.tup q hq))
  have lv : vs.length = L.length := by rw [pm.length_eq, List.length_map]
  refine wpAny_bind (wpAny_newList ?_ (by rw [sizeLine_eq]; omega))
  have hoL : (s1.heap.push (seqObj "list" vs.toArray 0)).get? s1.heap.objs.size = some (seqObj "list" vs.toArray 0) := Heap.get?_push_size _ rfl
  have raw : ∀ p ∈ L, MixT P w (s1.heap.push (seqObj "list" vs.toArray 0)) p.2 p.1 := fun p m => by
    obtain ⟨ob, items, n, hob, rest⟩ := R.tup p m
    exact ⟨ob, items, n, Heap.get?_push_of_some _ (k1 _ _ hob), rest⟩
  have shape : ∀ v ∈ vs, TupV P w (s1.heap.push (seqObj "list" vs.toArray 0)) (c :: sh) v := fun v m => by
    obtain ⟨p, mp, rfl⟩ := List.mem_map.mp (pm.mem_iff.mp m)
    exact ⟨p.2, p.1, rfl, raw p mp, hs p mp⟩
  refine wpAny_bind (wpAny_holding (wpAny_call_entry PyProof.Rows.slot_list_sort ⟨_, hoL, rfl⟩ PyProof.Rows.entry_list_sort
    (SrtO.list_sort_ord (s := { s1 with heap := s1.heap.push (seqObj "list" vs.toArray 0) }) (ltv := fun v u => ltT (keyAt P w (s1.heap.push (seqObj "list" vs.toArray 0)) v) (keyAt P w (s1.heap.push (seqObj "list" vs.toArray 0)) u)) (lin_tup.swo _) hoL (by rw [sizeLine_eq]; omega)
      (fun h2 => tups_sortable (s := { s1 with heap := s1.heap.push (seqObj "list" vs.toArray 0) }) (by omega) shape fun ob e z => ?_) fun out h1 h2 => ⟨_, rfl, ?_⟩) (PyProof.Rows.args_list_sort _)))
  · have e2 : some ob = some (seqObj "list" vs.toArray 0) := (show (s1.heap.push (seqObj "list" vs.toArray 0)).get? s1.heap.objs.size = some ob from e).symm.trans hoL
    cases e2
    exact absurd (Value.type.inj z) (by decide)
  · obtain ⟨n, hn⟩ := PyProof.Rows.sortedHeap_at (vs := vs) (out := out.toArray) hoL
    obtain ⟨L2, rfl, sub⟩ := rows_back (R := L) fun u m => pm.mem_iff.mp (h2.perm.mem_iff.mp m)
    refine wpAny_pure ⟨_, rfl, hQ _ s1.heap.objs.size L2 n (fun b u e => ?_) g1 o1 hz hn (rows_perm inj sub (h2.perm.trans pm)) (rising (fun p m => raw p (sub p m)) h1)⟩
    have lt := Heap.lt_size (k1 b u e)
    show (sortedHeap (s1.heap.push (seqObj "list" vs.toArray 0)) s1.heap.objs.size vs _).get? b = some u
    rw [sortedHeap_old (Nat.ne_of_lt lt) (by rw [size_push']; exact Nat.lt_succ_of_lt lt)]
    exact Heap.get?_push_of_some _ (k1 b u e)
end
section
variable {X : Cx}
/-- sorted(S), S a set of tuples of one shape: a new list of its tuples, rising -/
def rSortMS (P : Program) (w : World) : List V → Hp → VK → Prop := fun vs H Q => ∃ (a : Addr) (L : Rows) (c : Bool) (sh : List Bool), vs = [V.ref a] ∧ H a = some (MSetO P w a L) ∧ TupsIn H L ∧ (∀ p ∈ L, shp p.2 = c :: sh) ∧
  ∀ (L2 : Rows) (p : Addr), L2.Perm L → (L2.map (·.2)).Nodup → L2.Pairwise (fun x y => ltT y.2 x.2 = false) → H p = none → Q (.ref p) (upd H p (.lst (refsOf L2)))
theorem cr_sortMS (hc : X.calm = true) : CallR X (.builtin "sorted") (rSortMS X.prog X.w) := by
  intro pins s σ H vs us Q I r h
  obtain ⟨a, L, c, sh, rfl, ha, ht, hs, q⟩ := h
  obtain ⟨es, ep, t, R⟩ := mset_get I ha ht
  rw [Vals.ref1 r]
  refine sorted_mset R (I.ok.hd hc) hs fun s' p L2 n k g o hp hg pm up => ?_
  have hn : H p = none := I.hok.fresh hp
  have few := R.few
  have hlen : (refsOf L2).length ≤ sizeLine := by rw [List.length_map, pm.length_eq, sizeLine_eq]; omega
  have J : Inv X pins σ (upd H p (.lst (refsOf L2))) { s with heap := s'.heap, gens := s'.gens, drawn := s'.drawn, toks := s'.toks } :=
    I.call (ch := []) (Un.laid k hp hn) (I.hok.laid k hp ⟨hlen, valsOf L2, n, vals_refs L2, hg⟩) (by rw [g]; exact I.bare) (fun _ z => nomatch z)
  have e : s' = { s with heap := s'.heap, gens := s'.gens, drawn := s'.drawn, toks := s'.toks } := by
    cases s'; cases s; cases o; rfl
  rw [e]
  exact ⟨.ref p, _, J, rfl, q L2 p pm ((pm.map (·.2)).nodup_iff.mpr R.nd) up hn⟩
end
end Sx

set_option linter.all false
set_option maxRecDepth 100000
set_option maxHeartbeats 2000000
/-! dicts with tuple keys: setdefault, the comprehension -/
namespace Sx
open PySem PySem.Spec PyProof.Rows L2
section
variable {X : Cx} {pins : List (Addr × Obj)} {σ : L2.St} {H : Hp} {s : Shared} {a b : Addr} {r : Value} {d : V} {k : List Key} {A : Around} {E : Value → Shared → Prop} {kvs : List (List Key × V)}
theorem dt_stored {h' : Heap} {t' : Nat} {xs : List (List Key × Addr × Value)} (I : Inv X pins σ H s) (e : H a = some (.dT kvs)) (eb : H b = some (.tup (k.map kV))) (fit : kvs.length < sizeLine) (no : (a == sysModules) = false) (rel : KT H kvs xs) (rd : RelV d r)
    (dd : h'.DictOfH (tupleKind (mixKind X.prog X.w)) a (storedH xs k b r)) (sb : Heap.SameBut a s.heap h') : Inv X pins σ (upd H a (.dT (putK kvs k d))) { s with heap := h', toks := t' } := by
  have len := length_putK kvs k d
  obtain ⟨q, es, ep, hq, h2, h3, h4, _, h5⟩ := dd
  refine d_write I (by rw [e]; exact True.intro) sb ⟨q, hq⟩ ⟨by omega, no, _, (rel.put k eb rd).keeps fun c ys ec => ?_, q, es, ep, hq, h2, h3, h4, h5⟩
  rw [upd_ne (ne_of ec e (fun z => nomatch z))]
  exact ec
theorem dt_setd {Q : Value → Shared → Prop} (hu : A.units + 1 < cLine) (I : Inv X pins σ H s) (e : H a = some (.dT kvs)) (eb : H b = some (.tup (k.map kV))) (rd : RelV d r) (fit : kvs.length < sizeLine)
    (h1 : ∀ v, valV kvs k = some v → ∀ w' s', Inv X pins σ H s' → RelV v w' → Q w' s') (h2 : valV kvs k = none → ∀ s', Inv X pins σ (upd H a (.dT (putK kvs k d))) s' → Q r s') :
    wpAny (model X.prog X.w) A (call (.builtin "dict.setdefault") [.ref a, .ref b, r]) Q E s := by
  obtain ⟨z, no, xs, rel, dd⟩ := dt_of I.hok e
  have lx : xs.length ≤ sizeLine := (Paired.length rel) ▸ z
  have v := rel.val k
  refine call_setdefault_heap (knd := tupleKind (mixKind X.prog X.w)) (hsz := lx) (tupleKind_room_in1 hu) (key_of I.hok eb) no dd (fun p hp => ?_) fun hn h' dd' sb => ?_
  · rw [hp] at v
    rcases q : valV kvs k with _ | v0
    · rw [q] at v; exact (show False from v).elim
    · rw [q] at v; exact h1 v0 q _ _ (I.tok _) v
  · rw [hn] at v
    rcases q : valV kvs k with _ | v0
    · exact h2 q _ (dt_stored I e eb fit no rel rd dd' sb)
    · rw [q] at v; exact (show False from v).elim
theorem dt_dictSet {Q : Unit → Shared → Prop} (hu : A.units + 1 < cLine) (I : Inv X pins σ H s) (e : H a = some (.dT kvs)) (eb : H b = some (.tup (k.map kV))) (rd : RelV d r) (fit : kvs.length < sizeLine)
    (h : ∀ s', Inv X pins σ (upd H a (.dT (putK kvs k d))) s' → Q () s') : wpAny (model X.prog X.w) A (dictSet a (.ref b) r) Q E s := by
  obtain ⟨z, no, xs, rel, dd⟩ := dt_of I.hok e
  have lx : xs.length ≤ sizeLine := (Paired.length rel) ▸ z
  exact wpAny_dictSet_heap (knd := tupleKind (mixKind X.prog X.w)) (hsz := lx) (show A.units < cLine by omega) (key_of I.hok eb) dd fun h' dd' sb => h _ (dt_stored I e eb fit no rel rd dd' sb)
end
/-- d.setdefault(k, z), d a dict with tuple keys -/
def tSetdT (td tk tz : TE) : TE := fun σ H Q => td σ H fun x H1 => ∃ a, x = .ref a ∧ IsD H1 a ∧ tk σ H1 fun y H2 => tz σ H2 fun z H3 => ∃ (kvs : List (List Key × V)) (k : List Key) (b : Addr), H3 a = some (.dT kvs) ∧ y = .ref b ∧ H3 b = some (.tup (k.map kV)) ∧ kvs.length < sizeLine ∧
  (∀ v, valV kvs k = some v → Q v H3) ∧ (valV kvs k = none → Q z (upd H3 a (.dT (putK kvs k z))))
section
variable {X : Cx} {o e f : Expr} {td tk tz : TE} {apos cpos : Pos}
theorem pe_setdT (hu : X.A.units + 1 < cLine) (ho : PE X o td) (he : PE X e tk) (hf : PE X f tz) (m : M2 X o "setdefault" apos e f cpos) : PE X (.Call (.Attribute o "setdefault" apos) [e, f] [] cpos) (tSetdT td tk tz) := by
  refine ⟨fun pins s σ H Q I h => ?_⟩
  refine wpAny_Call_method m.base m.few m.line PySem.F.plainAttrs_dict PySem.F.slot_dict_setdefault PySem.F.type_dict_setdefault (thn (ho.run pins s σ H _ I h) fun u s1 ⟨x, H1, I1, rx, a, ex, dd, q1⟩ => ?_)
  subst ex
  cases (show u = Value.ref a from rx)
  have tt := isD_at I1 dd
  refine ⟨tt.1, tt.2.1, ?_⟩
  rw [m.trees]
  refine Calls.callWith_builtin rfl (Calls.evalArgs_plain (Calls.spliced_cons (thn (he.run pins s1 σ H1 _ I1 q1) fun kv s2 ⟨y, H2, I2, ry, q2⟩ =>
    Calls.spliced_cons (thn (hf.run pins s2 σ H2 _ I2 q2) fun fv s3 ⟨z, H3, I3, rz, kvs, k, b, ea, ey, eb, fit, q3, q4⟩ => Calls.spliced_nil ?_))))
  subst ey
  cases (show kv = Value.ref b from ry)
  exact dt_setd hu I3 ea eb rz fit (fun v hv w' s4 I4 r4 => ⟨v, _, I4, r4, q3 v hv⟩) fun hn s4 I4 => ⟨z, _, I4, rz, q4 hn⟩
/-- {k: v for target in iter if ..}, keys tuples -/
def tDt (wi : TI) (g : TG) (tt : TT) (tk tv : TE) (vs : List Nat) : TE := fun σ H Q => wi σ H fun J H1 => ∀ D, H1 D = none → ∃ W : Nat → Nat → Hp → Prop, (∃ m, W 0 m (upd H1 D (.dT []))) ∧ ∀ i m H, W i m H →
  (J.stop i H ∧ Q (.ref D) H) ∨ (J.go i H ∧ ∃ Nx : Hp → Prop, (∀ H', Nx H' → ∃ m', m' < m ∧ W (i + 1) m' H') ∧ ∀ x H', J.yld i H x H' → g x (wipe σ vs) H' fun σ2 H2 => wipe σ2 vs = wipe σ vs ∧ tt σ2 H2 fun b H3 =>
    if b = true then tk σ2 H3 fun y H4 => tv σ2 H4 fun z H5 => ∃ (kvs : List (List Key × V)) (k : List Key) (p : Addr), y = .ref p ∧ H5 p = some (.tup (k.map kV)) ∧ H5 D = some (.dT kvs) ∧ kvs.length < sizeLine ∧ Nx (upd H5 D (.dT (putK kvs k z))) else Nx H3)
theorem dt_run {pins : List (Addr × Obj)} {s : Shared} {σ : L2.St} {H : Hp} {Q : VK} {kx vx tg iter : Expr} {ifs : List Expr} {scope : Scope} {own : List (PySem.Str × Nat)} {pos at_ : Pos} {wi : TI} {g : TG} {tt : TT} {tk tv : TE} {use : Option (Value → Sem Unit)} {Qf : Value → Shared → Prop}
    (hu : X.A.units + 64 < cLine) (hc : X.calm = true) (hN : X.N.Nodup) (I : Inv X pins σ H s) (hi : PI X tg iter wi) (ok : BlkOk X.N X.env.scope scope own)
    (hg : ∀ s H C cl fp, PG (X.blk s H scope (compEnvC scope cl C X.env) fp) tg g) (ht : ∀ s H C cl fp, PTs (X.blk s H scope (compEnvC scope cl C X.env) fp) ifs tt)
    (hk : ∀ s H C cl fp, PE (X.blk s H scope (compEnvC scope cl C X.env) fp) kx tk) (he : ∀ s H C cl fp, PE (X.blk s H scope (compEnvC scope cl C X.env) fp) vx tv) (hs : ∀ x, foldedSetIterable iter X.env x = pure x)
    (h : tDt wi g tt tk tv (own.map (·.2)) σ H Q)
    (hR : ∀ D C s' m H', Inv X pins σ H' s' → Q (.ref D) H' → s'.heap.Ns C m → FpOk X pins H' C → compPost (model X.prog X.w) X.A X.xe use Qf (.ref D) C (.ok .next) s') :
    wpAny (model X.prog X.w) X.A (comprehension (.DictComp kx vx [⟨tg, iter, ifs, 0⟩] scope pos) scope X.env at_ newDict false (eval iter X.env) use) Qf X.xe s := by
  have frees : ∀ y ∈ scope.names, y.2 = .free → ∃ c, X.env.cells.lookup y.1 = some c := fun y m e => (ok.free y m e).elim (fun k => I.ok.has _ (.inl k)) fun k => I.ok.has _ (.inr k)
  refine wpAny_comprehension_free (use := use) rfl hs (closure_ok frees) ok.kind (fun y m e => by rw [ok.uniq y m, e])
    (thn (hi.run pins s σ H _ I h) fun xv s1 hx => thn hx fun itv s2 h2 => ?_)
  obtain ⟨it, fp, tn, J, H2, rfl, I2, T, st2, f2, q⟩ := h2
  refine wpAny_newObj_type (newEnv_comp ?_)
  generalize eD : s2.heap.objs.size = D
  obtain ⟨W, ⟨m0, w0⟩, turn⟩ := q D (I2.hok.fresh (Nat.le_of_eq eD))
  generalize e3 : ({ s2 with heap := s2.heap.push { cls := .type "dict", data := .dict #[] } } : Shared) = s3
  have p3 : s3.heap = s2.heap.push { cls := .type "dict", data := .dict #[] } := by rw [← e3]
  have I3 : Inv X pins σ (upd H2 D (.dT [])) s3 := by
    rw [← e3]
    refine I2.laid (t' := s2.toks) (fun b o e => Heap.get?_push_of_some _ e) (Nat.le_of_eq eD) ?_
    rw [← eD]
    exact dt_empty s2.heap I2.big
  have inOld : ∀ b ∈ fp, b < s2.heap.objs.size := fun b m => by
    obtain ⟨o, e, _⟩ := T.obj _ _ st2 b m
    exact Heap.lt_size e
  have f3 : ∀ b ∈ fp, FpOk X pins (upd H2 D (.dT [])) b ∧ b < s3.heap.objs.size := fun b m => by
    have lt := inOld b m
    refine ⟨⟨?_, (f2 b m).2⟩, by rw [p3, Heap.size_push]; exact Nat.lt_succ_of_lt lt⟩
    rw [upd_ne (Nat.ne_of_lt (eD ▸ lt))]
    exact (f2 b m).1
  have st3 : tn 0 s3.heap := T.keep _ _ _ st2 fun b _ o e => by rw [p3]; exact Heap.get?_push_of_some _ e
  have I4 := block_start I3 ok hN f3
  have pg := hg s3 (upd H2 D (.dT [])) s3.heap.objs.size (cellsFrom (s3.heap.objs.size + 1) scope.names (cloFrom X.env.cells scope.names [])) fp
  have pt := ht s3 (upd H2 D (.dT [])) s3.heap.objs.size (cellsFrom (s3.heap.objs.size + 1) scope.names (cloFrom X.env.cells scope.names [])) fp
  have pk := hk s3 (upd H2 D (.dT [])) s3.heap.objs.size (cellsFrom (s3.heap.objs.size + 1) scope.names (cloFrom X.env.cells scope.names [])) fp
  have pe := he s3 (upd H2 D (.dT [])) s3.heap.objs.size (cellsFrom (s3.heap.objs.size + 1) scope.names (cloFrom X.env.cells scope.names [])) fp
  show codeAny _ _ (.compStart (.DictComp kx vx [⟨tg, iter, ifs, 0⟩] scope pos) 0 (.ref it) (.ref D) (compEnvC scope (cellsFrom (s3.heap.objs.size + 1) scope.names (cloFrom X.env.cells scope.names [])) s3.heap.objs.size X.env)) (compPost (model X.prog X.w) X.A X.xe use Qf (.ref D) s3.heap.objs.size) { s3 with heap := pushCells (s3.heap.push { cls := .type "dict", data := .dict #[] }) scope.names }
  have none3 : ∀ b ∈ fp, (upd H2 D (.dT [])) b = none := fun b m => (f3 b m).1.1
  generalize ece : compEnvC scope (cellsFrom (s3.heap.objs.size + 1) scope.names (cloFrom X.env.cells scope.names [])) s3.heap.objs.size X.env = ce at I4 pg pt pk pe ⊢
  have cl : ce.locals = s3.heap.objs.size := by rw [← ece]; rfl
  generalize upd H2 D (.dT []) = H3 at I3 I4 pg pt pk pe w0 none3 f3
  generalize e4 : ({ s3 with heap := pushCells (s3.heap.push { cls := .type "dict", data := .dict #[] }) scope.names } : Shared) = s4 at I4 ⊢
  have st4 : tn 0 s4.heap := T.keep _ _ _ st3 fun b _ o e => by rw [← e4]; exact pushCells_keeps _ _ _ _ (Heap.get?_push_of_some _ e)
  have calmFp : ∀ {σ' : L2.St} {H' : Hp} {s' : Shared}, Inv (X.blk s3 H3 scope ce fp) [] σ' H' s' → (∀ b ∈ fp, H' b = none) → ∀ b ∈ fp, FpOk (X.blk s3 H3 scope ce fp) [] H' b := fun {σ' H' s'} I' n b m =>
    ⟨n b m, (I'.ok.exf b m).1, I'.ok.exfs b m, .inl m, fun x c e => (I'.ok.exf b m).2 x c e, fun p hp => absurd (show p ∈ ([] : List (Addr × Obj)) ++ [] from hp) (by simp)⟩
  have loop : codeAny (model X.prog X.w) X.A (.compLoop (.DictComp kx vx [⟨tg, iter, ifs, 0⟩] scope pos) 0 (.ref it) (.ref D) ce) (compPost (model X.prog X.w) X.A X.xe use Qf (.ref D) s3.heap.objs.size) s4 := by
    refine compLoop_anyD (fun n s' => ∃ i H', Inv (X.blk s3 H3 scope ce fp) [] (wipe σ (own.map (·.2))) H' s' ∧ tn i s'.heap ∧ (∀ b ∈ fp, H' b = none) ∧ W i n H') ?_ m0 ⟨0, H3, I4, st4, none3, w0⟩
    rintro n s5 ⟨i, H5, I5, st5, n5, w5⟩
    rcases turn i n H5 w5 with ⟨stop, fin⟩ | ⟨go, Nx, next, step⟩
    · refine thnF (T.done (X.blk s3 H3 scope ce fp) rfl rfl rfl hc i [] s5 _ H5 (fun _ _ => False) I5 (calmFp I5 n5) st5 stop) fun r s6 ⟨hr, I6⟩ => ?_
      subst hr
      have I7 : Inv X pins σ H5 s6 := I3.call' (ch := fp) I6.os I6.base I6.hok I6.bare fun b m => ⟨(f3 b m).1.2.2.2.1, (f3 b m).1.2.1, (f3 b m).1.2.2.2.2.1, (f3 b m).1.2.2.2.2.2⟩
      have nC : H5 s3.heap.objs.size = none := cl ▸ (show H5 ce.locals = none from I6.free)
      obtain ⟨m, hn, _⟩ := I6.loc
      exact hR D s3.heap.objs.size s6 m H5 I7 fin (cl ▸ (show s6.heap.Ns ce.locals m from hn)) (I3.fpOk (Nat.le_refl _) nC)
    · refine thnF (T.item (X.blk s3 H3 scope ce fp) rfl rfl rfl hc i [] s5 _ H5 (fun _ _ => False) I5 (calmFp I5 n5) st5 go) fun r s6 ⟨u, hr, h6⟩ => ?_
      subst hr
      refine thnF h6 fun _ s7 ⟨x, H7, I7, r7, y7, st7, n7⟩ => ?_
      have pinned := I7.pinned (calmFp I7 n7) (T.obj _ _ st7)
      refine thnF (pg.run _ s7 _ H7 x u _ pinned r7 (step x H7 y7)) fun _ s8 ⟨σ8, H8, I8, w8, q8⟩ => ?_
      refine thnF (pt.run _ s8 σ8 H8 _ I8 q8) fun b s9 ⟨H9, I9, q9⟩ => ?_
      have turnEnd : ∀ {s' : Shared} {H' : Hp}, Inv (X.blk s3 H3 scope ce fp) ([] ++ pinsAt fp s7.heap) σ8 H' s' → Nx H' → ∃ m, m < n ∧ ∃ i H', Inv (X.blk s3 H3 scope ce fp) [] (wipe σ (own.map (·.2))) H' s' ∧ tn i s'.heap ∧ (∀ b ∈ fp, H' b = none) ∧ W i m H' := fun {s' H'} I' nx => by
        obtain ⟨m', lt, w'⟩ := next H' nx
        have pin : ∀ b ∈ fp, ∀ o, s7.heap.get? b = some o → s'.heap.get? b = some o ∧ H' b = none := fun b m o e => by
          have z := I'.pin (b, o) (List.mem_append_right _ (List.mem_append_right _ (mem_pinsAt m e)))
          exact ⟨z.1, z.2.1⟩
        refine ⟨m', lt, i + 1, H', (I'.unpinned (pins := [])).weak (by rw [← w8, wipe_length]) (fun j v e => ?_), T.keep _ _ _ st7 fun b m o e => (pin b m o e).1, fun b m => ?_, w'⟩
        · rw [← w8] at e
          exact (wipe_some e).1
        · obtain ⟨o, e, _⟩ := T.obj _ _ st7 b m
          exact (pin b m o e).2
      cases b with
      | false =>
        simp only [Bool.false_eq_true, if_false] at q9 ⊢
        exact turnEnd I9 q9
      | true =>
        simp only [if_true] at q9 ⊢
        refine thnF (pk.run _ s9 σ8 H9 _ I9 q9) fun z s10 ⟨yk, H10, I10, r10, q10⟩ => ?_
        refine thnF (pe.run _ s10 σ8 H10 _ I10 q10) fun z2 s11 ⟨yv, H11, I11, r11, kvs, k, p, ek, ep, hD11, fit, nx⟩ => ?_
        subst ek
        cases (show z = Value.ref p from r10)
        exact dt_dictSet (X := X.blk s3 H3 scope ce fp) (show X.A.units + 1 < cLine by omega) I11 hD11 ep r11 fit fun s12 I12 => turnEnd I12 nx
  exact codeAny_compStart_dict loop (T.self X.A 0 _ _ _ st4 loop)
theorem pe_dt {kx vx tg iter : Expr} {ifs : List Expr} {scope : Scope} {own : List (PySem.Str × Nat)} {pos : Pos} {wi : TI} {g : TG} {tt : TT} {tk tv : TE} (hu : X.A.units + 64 < cLine) (hc : X.calm = true) (hN : X.N.Nodup) (hi : PI X tg iter wi) (ok : BlkOk X.N X.env.scope scope own)
    (hg : ∀ s H C cl fp, PG (X.blk s H scope (compEnvC scope cl C X.env) fp) tg g) (ht : ∀ s H C cl fp, PTs (X.blk s H scope (compEnvC scope cl C X.env) fp) ifs tt)
    (hk : ∀ s H C cl fp, PE (X.blk s H scope (compEnvC scope cl C X.env) fp) kx tk) (he : ∀ s H C cl fp, PE (X.blk s H scope (compEnvC scope cl C X.env) fp) vx tv) (hs : ∀ x, foldedSetIterable iter X.env x = pure x := by intro _; rfl) :
    PE X (.DictComp kx vx [⟨tg, iter, ifs, 0⟩] scope pos) (tDt wi g tt tk tv (own.map (·.2))) := by
  refine ⟨fun pins s σ H Q I h => ?_⟩
  rw [arm_eval_DictComp]
  refine dt_run hu hc hN I hi ok hg ht hk he hs h fun D C s' m H' I' q hn f => ⟨m, hn, fun h'' sb => ?_⟩
  obtain ⟨f0, f1, f2, f3, f4, f5⟩ := f
  exact ⟨.ref D, H', I'.turned (t' := s'.toks) (fun b o hb e => (sb.2 b hb).trans e) f0 f1 f3 f4 f5, rfl, q⟩
end
end Sx

set_option linter.all false
set_option maxRecDepth 100000
set_option maxHeartbeats 2000000
/-! the one rising list of some things; sorted of texts, any number of them -/
namespace Sx
open PySem PySem.Spec PyProof.Rows L2
section
variable {α : Type}
def ins (lt : α → α → Bool) (x : α) : List α → List α
  | [] => [x]
  | y :: l => if lt y x = true then y :: ins lt x l else x :: y :: l
def srt (lt : α → α → Bool) : List α → List α
  | [] => []
  | x :: l => ins lt x (srt lt l)
theorem ins_perm (lt : α → α → Bool) (x : α) : ∀ l, (ins lt x l).Perm (x :: l)
  | [] => List.Perm.refl _
  | y :: l => by
    rw [ins]
    by_cases c : lt y x = true
    · rw [if_pos c]
      exact ((ins_perm lt x l).cons y).trans (List.Perm.swap x y l)
    · rw [if_neg c]
theorem srt_perm (lt : α → α → Bool) : ∀ l, (srt lt l).Perm l
  | [] => List.Perm.refl _
  | x :: l => (ins_perm lt x (srt lt l)).trans ((srt_perm lt l).cons x)
abbrev Up (lt : α → α → Bool) (l : List α) : Prop := l.Pairwise fun x y => lt y x = false
variable {lt : α → α → Bool}
theorem Lin.ins_up (O : Lin lt) (x : α) : ∀ {l}, Up lt l → Up lt (ins lt x l)
  | [], _ => List.pairwise_singleton _ _
  | y :: l, h => by
    obtain ⟨h1, h2⟩ := List.pairwise_cons.mp h
    rw [ins]
    by_cases c : lt y x = true
    · rw [if_pos c]
      refine List.pairwise_cons.mpr ⟨fun z m => ?_, O.ins_up x h2⟩
      rcases List.mem_cons.mp ((ins_perm lt x l).mem_iff.mp m) with e | m
      · rw [e]; exact O.asym c
      · exact h1 z m
    · rw [if_neg c]
      have c' : lt y x = false := Bool.eq_false_iff.mpr c
      refine List.pairwise_cons.mpr ⟨fun z m => ?_, h⟩
      rcases List.mem_cons.mp m with e | m
      · rw [e]; exact c'
      · exact O.le_tr c' (h1 z m)
theorem Lin.srt_up (O : Lin lt) : ∀ l, Up lt (srt lt l)
  | [] => List.Pairwise.nil
  | x :: l => O.ins_up x (O.srt_up l)
theorem Lin.is_srt (O : Lin lt) {l m : List α} (h : Up lt l) (p : l.Perm m) : l = srt lt m := O.uniq h (O.srt_up m) (p.trans (srt_perm lt m).symm)
variable [DecidableEq α]
/-- each once, as it is first met -/
def once : List α → List α
  | l => l.foldl (fun acc x => if x ∈ acc then acc else acc ++ [x]) []
def onceGo (acc l : List α) : List α := l.foldl (fun acc x => if x ∈ acc then acc else acc ++ [x]) acc
theorem onceGo_spec : ∀ (l acc : List α), acc.Nodup → (onceGo acc l).Nodup ∧ ∀ x, x ∈ onceGo acc l ↔ x ∈ acc ∨ x ∈ l
  | [], acc, h => ⟨h, fun x => by simp [onceGo]⟩
  | y :: l, acc, h => by
    by_cases c : y ∈ acc
    · have e : onceGo acc (y :: l) = onceGo acc l := by unfold onceGo; rw [List.foldl_cons, if_pos c]
      obtain ⟨a, b⟩ := onceGo_spec l acc h
      rw [e]
      refine ⟨a, fun x => (b x).trans ?_⟩
      rw [List.mem_cons]
      constructor
      · rintro (z | z)
        · exact .inl z
        · exact .inr (.inr z)
      · rintro (z | z | z)
        · exact .inl z
        · rw [z]; exact .inl c
        · exact .inr z
    · have e : onceGo acc (y :: l) = onceGo (acc ++ [y]) l := by unfold onceGo; rw [List.foldl_cons, if_neg c]
      have nd : (acc ++ [y]).Nodup := (List.perm_append_singleton y acc).nodup_iff.mpr (List.nodup_cons.mpr ⟨c, h⟩)
      obtain ⟨a, b⟩ := onceGo_spec l (acc ++ [y]) nd
      rw [e]
      refine ⟨a, fun x => (b x).trans ?_⟩
      rw [List.mem_append, List.mem_singleton, List.mem_cons, or_assoc]
theorem once_nodup (l : List α) : (once l).Nodup := (onceGo_spec l [] List.nodup_nil).1
theorem once_mem (l : List α) (x : α) : x ∈ once l ↔ x ∈ l := ((onceGo_spec l [] List.nodup_nil).2 x).trans (by simp)
theorem once_snoc (l : List α) (x : α) : once (l ++ [x]) = if x ∈ once l then once l else once l ++ [x] := by
  unfold once
  rw [List.foldl_append] <;> rfl
/-- the rising list of what is in l -/
def asc (lt : α → α → Bool) (l : List α) : List α := srt lt (once l)
theorem perm_once {l m : List α} (h : l.Nodup) (e : ∀ x, x ∈ l ↔ x ∈ m) : l.Perm (once m) := (List.perm_ext_iff_of_nodup h (once_nodup m)).mpr fun x => (e x).trans (once_mem m x).symm
theorem Lin.is_asc (O : Lin lt) {l m : List α} (h : l.Nodup) (u : Up lt l) (e : ∀ x, x ∈ l ↔ x ∈ m) : l = asc lt m := O.is_srt u (perm_once h e)
theorem asc_mem (lt : α → α → Bool) (l : List α) (x : α) : x ∈ asc lt l ↔ x ∈ l := ((srt_perm lt (once l)).mem_iff).trans (once_mem l x)
theorem asc_nodup (lt : α → α → Bool) (l : List α) : (asc lt l).Nodup := (srt_perm lt (once l)).nodup_iff.mpr (once_nodup l)
theorem Lin.asc_up (O : Lin lt) (l : List α) : Up lt (asc lt l) := O.srt_up _
theorem once_len (l : List α) : (once l).length ≤ l.length := by
  have z := nd_len (once l) l (once_nodup l) fun x m => (once_mem l x).mp m
  exact z
theorem asc_len (lt : α → α → Bool) (l : List α) : (asc lt l).length ≤ l.length := by
  unfold asc
  rw [(srt_perm lt (once l)).length_eq]
  exact once_len l
end

/-! ### sorted of texts -/
def sv : Value → PySem.Str
  | .str x _ => x
  | _ => ⟨#[]⟩
section
variable {P : Program} {w : World} {A : Around} {E : Value → Shared → Prop} {s : Shared}
theorem strs_of_vals : ∀ {xs : List PySem.Str} {us : List Value}, Vals (xs.map V.str) us → us.map sv = xs ∧ ∀ u ∈ us, ∃ x t, u = Value.str x t
  | [], _, .nil => ⟨rfl, fun u m => absurd m List.not_mem_nil⟩
  | x :: xs, _, .cons r t => by
    obtain ⟨tk, rfl⟩ := r
    obtain ⟨a, b⟩ := strs_of_vals t
    refine ⟨by rw [List.map_cons, a] <;> rfl, fun u m => ?_⟩
    rcases List.mem_cons.mp m with rfl | m
    · exact ⟨x, tk, rfl⟩
    · exact b u m
theorem vals_of_strs : ∀ {us : List Value}, (∀ u ∈ us, ∃ x t, u = Value.str x t) → Vals ((us.map sv).map V.str) us
  | [], _ => .nil
  | u :: us, h => by
    obtain ⟨x, t, rfl⟩ := h u List.mem_cons_self
    exact .cons ⟨t, rfl⟩ (vals_of_strs fun v m => h v (List.mem_cons_of_mem _ m))
theorem strs_are : ∀ {vs : List Value}, (∀ u ∈ vs, ∃ x t, u = Value.str x t) → StrsAre vs (vs.map sv)
  | [], _ => .nil
  | v :: vs, h => by
    obtain ⟨x, t, rfl⟩ := h v List.mem_cons_self
    exact .cons x t (strs_are fun u m => h u (List.mem_cons_of_mem _ m))
theorem text_sortable {a : Addr} {vs : List Value} (h : ∀ u ∈ vs, ∃ x t, u = Value.str x t) (h2 : 2 ≤ vs.length) : SrtO.SortableO P w A s a vs fun v u => ltText (sv v) (sv u) := by
  intro h' _
  refine ⟨oneType', fun Q E hq => ?_, ?_⟩
  · match vs, h, h2 with
    | v1 :: v2 :: rest, h, _ =>
      rw [keyKind_strs (strs_are h)]
      exact wpAny_pure hq
    | [], _, h2 => exact absurd h2 (by decide)
    | [v], _, h2 => exact absurd h2 (by simp)
  · intro p q hp hq
    obtain ⟨x, t, e⟩ := h _ hp
    obtain ⟨y, u, e'⟩ := h _ hq
    show wpAny (model P w) A (keyLt' oneType' p.1 q.1) (fun r s' => s' = _ ∧ r = ltText (sv p.1) (sv q.1)) (fun _ _ => False) _
    rw [e, e', keyLt'_oneType]
    exact oneLt_str ⟨rfl, rfl⟩
end
section
variable {X : Cx}
/-- sorted(xs), texts, any number of them -/
def rSortS (K : PySem.W.Frag) : List V → Hp → VK → Prop := fun vs H Q => ∃ (a : Addr) (xs : List PySem.Str), vs = [V.ref a] ∧ SqL K H a (xs.map V.str) ∧
  ∀ p : Addr, H p = none → Q (.ref p) (upd H p (.lst ((srt ltText xs).map V.str)))
theorem cr_sortS : CallR X (.builtin "sorted") (rSortS X.K) := by
  intro pins s σ H vs us Q I r h
  obtain ⟨a, xs, rfl, hs, q⟩ := h
  obtain ⟨its, rv, hl, hz⟩ := I.list hs
  rw [Vals.ref1 r]
  obtain ⟨e1, e2⟩ := strs_of_vals rv
  refine SrtO.sorted_ord (ltv := fun v u => ltText (sv v) (sv u)) (lin_text.swo sv) hl.isList (by rw [← rv.length]; exact hz) (fun h2 h₁ a' _ _ => text_sortable e2 h2) fun out h1 h2 => ?_
  have all : ∀ u ∈ out, ∃ x t, u = Value.str x t := fun u m => e2 u (h2.perm.mem_iff.mp m)
  have pm : (out.map sv).Perm xs := by
    have z := h2.perm.map sv
    rw [e1] at z
    exact z
  have up : Up ltText (out.map sv) := List.pairwise_map.mpr h1
  have ex : out.map sv = srt ltText xs := lin_text.is_srt up pm
  obtain ⟨ep, he'⟩ := PyProof.Rows.sortedAll_at s.heap its out.toArray
  have rel := vals_of_strs all
  rw [ex] at rel
  have hlen : ((srt ltText xs).map V.str).length ≤ sizeLine := by
    rw [List.length_map, (srt_perm ltText xs).length_eq]
    rw [List.length_map] at hz
    exact hz
  exact ⟨.ref _, upd H (s.heap.objs.size + 1) (.lst ((srt ltText xs).map V.str)), I.laid (t' := s.toks) (fun _ _ => PyProof.Rows.sortedAll_old) (Nat.le_succ _) ⟨hlen, out, ep, rel, he'⟩, rfl, q _ (I.hok.fresh (Nat.le_succ _))⟩
end
end Sx

set_option linter.all false
set_option maxRecDepth 100000
set_option maxHeartbeats 2000000
/-! name = {k: v for ..}, the name a local -/
namespace Sx
open PySem PySem.Spec PyProof.Rows L2
section
variable {X : Cx}
theorem ps_setDc {i : Nat} {y : PySem.Str} {py : Pos} {kx vx tg iter : Expr} {ifs : List Expr} {scope : Scope} {own : List (PySem.Str × Nat)} {pos spos : Pos} {wi : TI} {g : TG} {tt : TT} {tk tv : TE} (hc : X.calm = true) (hN : X.N.Nodup) (hy : X.N[i]? = some y) (local_ : X.env.scope.names.lookup y = some .local)
    (sw : swapsWith (.DictComp kx vx [⟨tg, iter, ifs, 0⟩] scope pos) (some (.Name y py)) spos.line X.env = pure true) (hi : PI X tg iter wi) (ok : BlkOk X.N X.env.scope scope own)
    (hg : ∀ s H C cl fp, PG (X.blk s H scope (compEnvC scope cl C X.env) fp) tg g) (ht : ∀ s H C cl fp, PTs (X.blk s H scope (compEnvC scope cl C X.env) fp) ifs tt)
    (hk : ∀ s H C cl fp, PE (X.blk s H scope (compEnvC scope cl C X.env) fp) kx tk) (he : ∀ s H C cl fp, PE (X.blk s H scope (compEnvC scope cl C X.env) fp) vx tv) (hs : ∀ x, foldedSetIterable iter X.env x = pure x := by intro _; rfl) :
    PS X (.Assign [.Name y py] (.DictComp kx vx [⟨tg, iter, ifs, 0⟩] scope pos) spos) (tAsg (tDc wi g tt tk tv (own.map (·.2))) (gName i)) := by
  refine ⟨fun pins s σ H D I h => ?_⟩
  rw [exec_Assign_Name_used _ _ _ _ sw]
  refine wpAny_bind (wpAny_standAt (wpAny_bind ?_))
  show wpAny _ X.A (do let _ ← comprehension (.DictComp kx vx [⟨tg, iter, ifs, 0⟩] scope pos) scope X.env (firstIterPos [⟨tg, iter, ifs, 0⟩] pos) newDict false (eval iter X.env) (some (assign (.Name y py) X.env))) _ _ s
  have h : tDc wi g tt tk tv (own.map (·.2)) σ H (fun x H1 => gName i x σ H1 D.nx) := h
  refine wpAny_bind (thn (dc_core (Qf := fun _ s' => SP X pins D .next s') hc hN I hi ok hg ht hk he hs h fun L C s' m H' I' q hn f => ?_) fun _ s' hq => wpAny_pure (wpAny_pure hq))
  show wpAny _ _ (assign (.Name y py) X.env (.ref L)) _ _ _
  refine wpAny_assign_Name (store_ok2 (v := V.ref L) I' hN hy (.inl local_) rfl (fun s2 I2 ⟨a, sb, ha⟩ => ?_) (.inr local_))
  obtain ⟨f0, f1, f2, f3, f4, f5⟩ := f
  have apart : C ≠ a := ha.elim (fun z => by rw [z]; exact f1) fun z e => f4 y a z e.symm
  exact ⟨m, hn.sameBut sb apart, fun h3 sb3 => ⟨_, H', I2.turned (t' := s2.toks) (fun b o hb e => (sb3.2 b hb).trans e) f0 f1 f3 f4 f5, q⟩⟩
theorem ps_setDt {i : Nat} {y : PySem.Str} {py : Pos} {kx vx tg iter : Expr} {ifs : List Expr} {scope : Scope} {own : List (PySem.Str × Nat)} {pos spos : Pos} {wi : TI} {g : TG} {tt : TT} {tk tv : TE} (hu : X.A.units + 64 < cLine) (hc : X.calm = true) (hN : X.N.Nodup) (hy : X.N[i]? = some y) (local_ : X.env.scope.names.lookup y = some .local)
    (sw : swapsWith (.DictComp kx vx [⟨tg, iter, ifs, 0⟩] scope pos) (some (.Name y py)) spos.line X.env = pure true) (hi : PI X tg iter wi) (ok : BlkOk X.N X.env.scope scope own)
    (hg : ∀ s H C cl fp, PG (X.blk s H scope (compEnvC scope cl C X.env) fp) tg g) (ht : ∀ s H C cl fp, PTs (X.blk s H scope (compEnvC scope cl C X.env) fp) ifs tt)
    (hk : ∀ s H C cl fp, PE (X.blk s H scope (compEnvC scope cl C X.env) fp) kx tk) (he : ∀ s H C cl fp, PE (X.blk s H scope (compEnvC scope cl C X.env) fp) vx tv) (hs : ∀ x, foldedSetIterable iter X.env x = pure x := by intro _; rfl) :
    PS X (.Assign [.Name y py] (.DictComp kx vx [⟨tg, iter, ifs, 0⟩] scope pos) spos) (tAsg (tDt wi g tt tk tv (own.map (·.2))) (gName i)) := by
  refine ⟨fun pins s σ H D I h => ?_⟩
  rw [exec_Assign_Name_used _ _ _ _ sw]
  refine wpAny_bind (wpAny_standAt (wpAny_bind ?_))
  show wpAny _ X.A (do let _ ← comprehension (.DictComp kx vx [⟨tg, iter, ifs, 0⟩] scope pos) scope X.env (firstIterPos [⟨tg, iter, ifs, 0⟩] pos) newDict false (eval iter X.env) (some (assign (.Name y py) X.env))) _ _ s
  have h : tDt wi g tt tk tv (own.map (·.2)) σ H (fun x H1 => gName i x σ H1 D.nx) := h
  refine wpAny_bind (thn (dt_run (Qf := fun _ s' => SP X pins D .next s') hu hc hN I hi ok hg ht hk he hs h fun L C s' m H' I' q hn f => ?_) fun _ s' hq => wpAny_pure (wpAny_pure hq))
  show wpAny _ _ (assign (.Name y py) X.env (.ref L)) _ _ _
  refine wpAny_assign_Name (store_ok2 (v := V.ref L) I' hN hy (.inl local_) rfl (fun s2 I2 ⟨a, sb, ha⟩ => ?_) (.inr local_))
  obtain ⟨f0, f1, f2, f3, f4, f5⟩ := f
  have apart : C ≠ a := ha.elim (fun z => by rw [z]; exact f1) fun z e => f4 y a z e.symm
  exact ⟨m, hn.sameBut sb apart, fun h3 sb3 => ⟨_, H', I2.turned (t' := s2.toks) (fun b o hb e => (sb3.2 b hb).trans e) f0 f1 f3 f4 f5, q⟩⟩
theorem sw_dict {kx vx : Expr} {gs : List Comprehension} {scope : Scope} {pos py : Pos} {y : PySem.Str} {l : Nat} {env : Env} (hk : env.scope.kind = .function) (hy : env.scope.names.lookup y = some .local) (hl : (py.line == pos.line) = true)
    (no : (scope.names.any fun (n, k) => n == y && (k == .local || k == .cell)) = false) : swapsWith (.DictComp kx vx gs scope pos) (some (.Name y py)) l env = pure true := by
  have ky : env.kindOf y = some .local := hy
  have kb : env.blockKind = .function := by unfold Env.blockKind; rw [hk] <;> rfl
  unfold swapsWith
  simp only [kb, ky, no, Expr.pos, hl]
  rfl
end
end Sx

set_option Elab.async false
set_option maxRecDepth 100000
set_option maxHeartbeats 4000000
namespace Mk
open PySem L2 Pk
abbrev sSymbols : Stmt := top 34
abbrev sActs : Stmt := top 35
abbrev sGuess : Stmt := top 36
/-- the rules as they are kept: tuples -/
abbrev Kept := List (Addr × Rl)
def refsK (R : Kept) : List V := R.map fun p => .ref p.1
def KeptAt (H : Hp) (R : Kept) : Prop := ∀ p ∈ R, H p.1 = some (.tup p.2.vs)
theorem KeptAt.mono {H H' : Hp} {R : Kept} (h : KeptAt H R) (e : Same H H') : KeptAt H' R := fun p m => e _ _ (h p m)
/-- k is put to the others, once -/
def addK {κ : Type} [DecidableEq κ] (l : List κ) (k : κ) : List κ := if k ∈ l then l else l ++ [k]
theorem put_keys {κ : Type} [DecidableEq κ] (kvs : List (κ × V)) (k : κ) (v : V) : (putK kvs k v).map (·.1) = addK (kvs.map (·.1)) k := by
  unfold putK addK
  by_cases c : (kvs.any fun kv => decide (kv.1 = k)) = true
  · have m : k ∈ kvs.map (·.1) := by
      obtain ⟨p, hp, e⟩ := List.any_eq_true.mp c
      exact List.mem_map.mpr ⟨p, hp, of_decide_eq_true e⟩
    rw [if_pos c, if_pos m, List.map_map]
    refine List.map_congr_left fun p _ => ?_
    show (if p.1 = k then (p.1, v) else p).1 = p.1
    split <;> rfl
  · have m : k ∉ kvs.map (·.1) := fun h => by
      obtain ⟨p, hp, e⟩ := List.mem_map.mp h
      exact c (List.any_eq_true.mpr ⟨p, hp, decide_eq_true e⟩)
    rw [if_neg c, if_neg m, List.map_append] <;> rfl
theorem once_add {κ : Type} [DecidableEq κ] (l : List κ) (x : κ) : Sx.once (l ++ [x]) = addK (Sx.once l) x := Sx.once_snoc l x
theorem add_map {α β : Type} [DecidableEq α] [DecidableEq β] {f : α → β} (inj : ∀ x y, f x = f y → x = y) (l : List α) (x : α) : addK (l.map f) (f x) = (addK l x).map f := by
  unfold addK
  by_cases c : x ∈ l
  · rw [if_pos c, if_pos (List.mem_map.mpr ⟨x, c, rfl⟩)]
  · have m : f x ∉ l.map f := fun h => by
      obtain ⟨y, m, e⟩ := List.mem_map.mp h
      exact c (inj y x e ▸ m)
    rw [if_neg c, if_neg m, List.map_append] <;> rfl
abbrev kT (x : PySem.Str) : Key := Sum.inr x
theorem kT_inj (x y : PySem.Str) (e : kT x = kT y) : x = y := Sum.inr.inj e
/-- the symbols of rules, rising -/
def symsOf (rs : List Rl) : List PySem.Str := Sx.srt Sx.ltText ((Sx.once (rs.map Rl.tp ++ rs.map Rl.sy)).filter fun x => decide (x ≠ nil0))
section
variable {P : Program} {w : World} {K : PySem.W.Frag} {mg : PySem.Str → Option Value} {base : Heap}
def spSymbols (K : PySem.W.Frag) : Sp := fun vs H Q _ => ∃ (a : Addr) (R : Kept), vs = [.ref a] ∧ SqT K H a (refsK R) ∧ KeptAt H R ∧ R.length ≤ 20000 ∧
  ∀ (H' : Hp) (p : Addr), Same H H' → H p = none → H' p = some (.tup ((symsOf (R.map (·.2))).map V.str)) → Q (.ref p) H'
abbrev nSymbols : List PySem.Str := ["rules", "rule", "found", "symbol"]
theorem scSymbols : FnScope nSymbols ["rules"] (defScope sSymbols) := ⟨rfl, rfl, rfl, by decide +kernel, rfl, by decide +kernel, by decide +kernel⟩
theorem ok_symbols {f : Addr} {fd : FuncData} (F : Fun K "symbols_of" "symbols_of" sSymbols f fd) (T : TM mg) : FnOk P w K mg base CX0 1 f fd ["rules"] (spSymbols K) := by
  refine F.ok scSymbols (fun vs H Q E h => ?_) (fun cdv A outer s H vs Q E hr h => ?_)
  · obtain ⟨a, R, rfl, _⟩ := h
    rfl
  · obtain ⟨a, R, rfl, hS, hK, most, k⟩ := h
    have hu := hu_of hr
    refine ⟨_, pss_cons (Sx.ps_setDc (i := 2) (own := [("rule", 1)]) (g := gName 1) (tt := tYes) (by rfl) scSymbols.nd rfl rfl (Sx.sw_dict rfl rfl rfl (by decide +kernel)) (pi_tup (pv 0))
        (blkOk_by (own := [("rule", 1)]) (N := nSymbols) (sc := defScope sSymbols) (by decide +kernel))
        (fun _ _ _ _ _ => pg_name (i := 1) scSymbols.nd rfl (Or.inl rfl)) (fun _ _ _ _ _ => pts_nil) (fun _ _ _ _ _ => pe_ix (r := rIxT K) ix_tup (pv 1) pe_int fun _ _ => rfl) (fun _ _ _ _ _ => pe_bl))
      (pss_cons (ps_for PassesOwn.never rfl (pi_tup (pv 0)) (pg_name (i := 1) scSymbols.nd rfl (Or.inl rfl))
        (pss_one (ps_dput hu (pv 2) (pe_ix ix_tup (pv 1) pe_int fun _ _ => rfl) pe_bl rfl)))
      (pss_one (ps_ret (pe_callTy call_tuple_of (by rfl) T.tuple PyProof.Rows.Boot.tuple (pa_cons (pe_callB Sx.cr_sortS (by rfl) T.sorted (by decide +kernel) (pa_cons (pe_lock (pe_lc (own := [("symbol", 3)]) (g := gName 3) (by rfl) scSymbols.nd (pi_keys (pv 2))
        (blkOk_by (own := [("symbol", 3)]) (N := nSymbols) (sc := defScope sSymbols) (by decide +kernel))
        (fun _ _ _ _ _ => pg_name (i := 3) scSymbols.nd rfl (Or.inl rfl)) (fun _ _ _ _ _ => pts_one (pt_cmpR op_ne (pv 3) pe_str (nomark _))) (fun _ _ _ _ _ => pv 3))) pa_nil)) pa_nil))))), ?_⟩
    have lR : (refsK R).length = R.length := List.length_map ..
    have at_ : ∀ {i : Nat} {v : V}, (refsK R)[i]? = some v → ∃ p, R[i]? = some p ∧ v = .ref p.1 := fun {i v} e => by
      unfold refsK at e
      rw [List.getElem?_map] at e
      obtain ⟨p, e1, e2⟩ := Option.map_eq_some_iff.mp e
      exact ⟨p, e1, e2.symm⟩
    have few : ∀ {n : Nat}, n ≤ 40000 → n < sizeLine := fun h => Nat.lt_of_le_of_lt h (by decide)
    refine ⟨_, rfl, a, rfl, ⟨_, hS⟩, fun D hD => dc_tup (fun i H' => Same H H' ∧ ∃ kvs : List (Key × V), H' D = some (.dK kvs) ∧ kvs.map (·.1) = (Sx.once ((R.take i).map fun p => p.2.tp)).map kT)
      ⟨same_new hD, [], upd_same, rfl⟩ (fun i H' _ h => Same.tup h.1 hS) ?_ ?_⟩
    · rintro i x H1 hi ⟨s1, kvs, hD1, hk⟩
      obtain ⟨p, ep, rfl⟩ := at_ hi
      have m := List.mem_of_getElem? ep
      refine ⟨rfl, ?_⟩
      refine ⟨_, rfl, p.1, p.2.vs, 2, .str p.2.tp, rfl, rfl, .inl (.inl (s1 _ _ (hK p m))), rfl, kvs, kT p.2.tp, rfl, hD1, ?_, same_mut s1 hD, _, upd_same, ?_⟩
      · refine few ?_
        have z := congrArg List.length hk
        rw [List.length_map, List.length_map] at z
        have y := Sx.once_len ((R.take i).map fun p => p.2.tp)
        rw [List.length_map, List.length_take] at y
        omega
      · rw [put_keys, hk, add_map kT_inj, ← once_add, take_at ep, List.map_append] <;> rfl
    · rintro H1 ⟨s1, kvs, hD1, hk⟩
      rw [lR, List.take_of_length_le (Nat.le_refl _)] at hk
      refine ⟨_, rfl, a, rfl, ⟨_, Same.tup s1 hS⟩, for_tup (K := K) (a := a) (xs := refsK R) (fun i σ H' => Same H H' ∧ ∃ (v : Option V) (kvs : List (Key × V)), σ = [some (.ref a), v, some (.ref D), none] ∧ H' D = some (.dK kvs) ∧ kvs.map (·.1) = (Sx.once (R.map (fun p => p.2.tp) ++ (R.take i).map fun p => p.2.sy)).map kT)
        ⟨s1, none, kvs, rfl, hD1, by rw [hk]; simp⟩ (fun i σ H' _ h => Same.tup h.1 hS) ?_ ?_⟩
      · rintro i x σ H2 hi ⟨s2, v, kv2, rfl, hD2, hk2⟩
        obtain ⟨p, ep, rfl⟩ := at_ hi
        have m := List.mem_of_getElem? ep
        refine ⟨_, rfl, _, rfl, p.1, p.2.vs, 6, .str p.2.sy, rfl, rfl, .inl (.inl (s2 _ _ (hK p m))), rfl, D, _, rfl, DPut.k (k := kT p.2.sy) hD2 ?_, same_mut s2 hD, _, _, rfl, upd_same, ?_⟩
        · refine few ?_
          have z := congrArg List.length hk2
          rw [List.length_map, List.length_map] at z
          have y := Sx.once_len (R.map (fun p => p.2.tp) ++ (R.take i).map fun p => p.2.sy)
          rw [List.length_append, List.length_map, List.length_map, List.length_take] at y
          omega
        · rw [put_keys, hk2, add_map kT_inj, ← once_add, take_at ep, List.map_append, List.append_assoc] <;> rfl
      · rintro σ H2 ⟨s2, v, kv2, rfl, hD2, hk2⟩
        rw [lR, List.take_of_length_le (Nat.le_refl _)] at hk2
        generalize hks : Sx.once (R.map (fun p => p.2.tp) ++ R.map fun p => p.2.sy) = ks at hk2
        have lk : kv2.length = ks.length := by
          have z := congrArg List.length hk2
          rwa [List.length_map, List.length_map] at z
        have lks : ks.length ≤ 40000 := by
          have y := Sx.once_len (R.map (fun p => p.2.tp) ++ R.map fun p => p.2.sy)
          rw [hks, List.length_append, List.length_map, List.length_map] at y
          omega
        have key : ∀ {i : Nat} {c : Key} {u : V}, kv2[i]? = some (c, u) → ∃ x, ks[i]? = some x ∧ c = kT x := fun {i c u} e => by
          have z := congrArg (fun l => l[i]?) hk2
          simp only [List.getElem?_map, e] at z
          rcases q : ks[i]? with _ | x
          · rw [q] at z; cases z
          · rw [q] at z; exact ⟨x, rfl, Option.some.inj z⟩
        refine ⟨D, _, hD2, trivial, fun od => ?_⟩
        refine ⟨_, rfl, D, od, rfl, .inl ⟨kv2, upd_same, fun L hL => ?_⟩⟩
        have LD : L ≠ D := fun e => by rw [e, upd_same] at hL; cases hL
        have hL2 : H2 L = none := by rw [upd_ne LD] at hL; exact hL
        have hL0 : H L = none := s2.free hL2
        refine lc_it walk_keys (fun i H' => H' = upd (upd H2 D (.frz od (.dK kv2))) L (.lst (((ks.take i).filter fun x => decide (x ≠ nil0)).map V.str))) rfl ?_ ?_ ?_
        · rintro i H' _ rfl
          rw [upd_ne LD.symm, upd_same]
        · rintro i y H3 H4 hi rfl ⟨rfl, c, u, e, rfl⟩
          obtain ⟨x, ex, rfl⟩ := key e
          refine ⟨rfl, ?_⟩
          refine ⟨_, rfl, rfl, _, rfl, ?_⟩
          rw [take_at ex, List.filter_append, List.map_append]
          rw [show decide (kV (kT x) = V.str (PySem.Str.ofString "")) = decide (x = nil0) from dec_str x nil0]
          by_cases n : x = nil0
          · rw [decide_eq_true n, List.filter_cons_of_neg (by simp [n])]
            refine iteF ?_
            simp
          · rw [decide_eq_false n, List.filter_cons_of_pos (by simp [n])]
            refine iteT ?_
            refine ⟨_, rfl, _, upd_same, ?_, ?_⟩
            · rw [List.length_map]
              refine few (Nat.le_trans (List.length_filter_le _ _) ?_)
              rw [List.length_take]
              omega
            · rw [upd_upd] <;> rfl
        · rintro H3 rfl
          rw [lk, List.take_of_length_le (Nat.le_refl _)]
          refine ⟨by rw [upd_ne LD.symm, upd_same], ?_⟩
          refine ⟨L, _, rfl, SqL.of (by rw [upd_ne LD, upd_same]), fun p hp => ?_⟩
          refine ⟨p, _, rfl, .inl ⟨SqL.of upd_same, fun q hq => ?_⟩⟩
          have s3 : Same H (upd (upd (upd H2 D (.frz od (.dK kv2))) L (.lst ((ks.filter fun x => decide (x ≠ nil0)).map V.str))) D (.dK kv2)) := same_mut (same_mut (same_mut s2 hD) hL0) hD
          refine k _ q ((s3.trans (same_new hp)).trans (same_new hq)) ((s3.trans (same_new hp)).free hq) ?_
          rw [upd_same]
          unfold symsOf
          rw [List.map_map, List.map_map, ← hks] <;> rfl
end
end Mk

set_option Elab.async false
set_option maxRecDepth 100000
set_option maxHeartbeats 4000000
namespace Mk
open PySem L2 Pk
/-- a key with its acts -/
abbrev Grp := List Key × List (List Key)
def TupAt (H : Hp) (a : Addr) (k : List Key) : Prop := H a = some (.tup (k.map kV))
/-- one entry of the table under work: a list of acts -/
def Ent (H : Hp) (p : List Key × V) (q : Grp) : Prop := p.1 = q.1 ∧ ∃ (la : Addr) (as : List Addr), p.2 = .ref la ∧ H la = some (.lst (as.map V.ref)) ∧ Paired (TupAt H) as q.2
def gAdd {κ α : Type} [DecidableEq κ] (G : List (κ × List α)) (k : κ) (a : α) : List (κ × List α) := if k ∈ G.map (·.1) then G.map (fun g => if g.1 = k then (g.1, g.2 ++ [a]) else g) else G ++ [(k, [a])]
theorem gAdd_keys {κ α : Type} [DecidableEq κ] (G : List (κ × List α)) (k : κ) (a : α) : (gAdd G k a).map (·.1) = addK (G.map (·.1)) k := by
  unfold gAdd addK
  by_cases c : k ∈ G.map (·.1)
  · rw [if_pos c, if_pos c, List.map_map]
    refine List.map_congr_left fun g _ => ?_
    show (if g.1 = k then (g.1, g.2 ++ [a]) else g).1 = g.1
    split <;> rfl
  · rw [if_neg c, if_neg c, List.map_append] <;> rfl
theorem ent_keys {H : Hp} : ∀ {kvs : List (List Key × V)} {G : List Grp}, Paired (Ent H) kvs G → kvs.map (·.1) = G.map (·.1)
  | _, _, .nil => rfl
  | _, _, .cons h t => by rw [List.map_cons, List.map_cons, h.1, ent_keys t]
/-- an entry stays where its list is another one -/
theorem Ent.other {H H' : Hp} {l : Addr} {p : List Key × V} {q : Grp} (e : Ent H p q) (ne : p.2 ≠ .ref l) (keep : ∀ b o, b ≠ l → H b = some o → H' b = some o) (isl : ∀ xs, H l ≠ some (.tup xs)) : Ent H' p q := by
  obtain ⟨e1, la, as, e2, e3, e4⟩ := e
  refine ⟨e1, la, as, e2, keep la _ (fun z => ne (by rw [e2, z])) e3, Paired.mapP e4 fun a k t => ?_⟩
  exact keep a _ (fun z => isl (k.map kV) (by rw [← z]; exact t)) t
theorem ent_all_other {H H' : Hp} {l : Addr} : ∀ {kvs : List (List Key × V)} {G : List Grp}, Paired (Ent H) kvs G → (V.ref l) ∉ kvs.map (·.2) → (∀ b o, b ≠ l → H b = some o → H' b = some o) → (∀ xs, H l ≠ some (.tup xs)) → Paired (Ent H') kvs G
  | _, _, .nil, _, _, _ => .nil
  | p :: _, _, .cons h t, no, keep, isl => .cons (h.other (fun e => no (by rw [List.map_cons, e]; exact List.mem_cons_self)) keep isl) (ent_all_other t (fun m => no (List.mem_cons_of_mem _ m)) keep isl)
/-- one act more in the list that stands -/
theorem ent_more {H H' : Hp} {l q5 : Addr} {k act : List Key} : ∀ {kvs : List (List Key × V)} {G : List Grp}, Paired (Ent H) kvs G → (kvs.map (·.1)).Nodup → (kvs.map (·.2)).Nodup → valV kvs k = some (.ref l) →
    (∀ b o, b ≠ l → H b = some o → H' b = some o) → (∀ xs, H l ≠ some (.tup xs)) → (∀ as : List Addr, H l = some (.lst (as.map V.ref)) → H' l = some (.lst ((as ++ [q5]).map V.ref))) → TupAt H' q5 act →
    Paired (Ent H') kvs (G.map fun g => if g.1 = k then (g.1, g.2 ++ [act]) else g)
  | _, _, .nil, _, _, v, _, _, _, _ => by cases v
  | p :: ps, _, .cons (b := q) (l₂ := qs) h t, n1, n2, v, keep, isl, app, ta => by
    obtain ⟨a1, a2⟩ := List.nodup_cons.mp n1
    obtain ⟨b1, b2⟩ := List.nodup_cons.mp n2
    rw [List.map_cons]
    by_cases c : p.1 = k
    · rw [valV_pos c] at v
      have v2 := Option.some.inj v
      have c2 : q.1 = k := h.1.symm.trans c
      rw [if_pos c2]
      have rest : (qs.map fun g : Grp => if g.1 = k then (g.1, g.2 ++ [act]) else g) = qs := by
        have no : k ∉ qs.map (·.1) := by rw [← ent_keys t, ← c]; exact a1
        conv => rhs; rw [← List.map_id qs]
        refine List.map_congr_left fun g m => ?_
        rw [if_neg fun e => no (List.mem_map.mpr ⟨g, m, e⟩)] <;> rfl
      rw [rest]
      refine .cons ?_ (ent_all_other t (by rw [← v2]; exact b1) keep isl)
      obtain ⟨e1, la, as, e2, e3, e4⟩ := h
      have el : la = l := by
        rw [e2] at v2
        exact V.ref.inj v2
      subst el
      refine ⟨e1, la, as ++ [q5], e2, app as e3, Paired.snoc (Paired.mapP e4 fun a k t => ?_) ta⟩
      exact keep a _ (fun z => isl (k.map kV) (by rw [← z]; exact t)) t
    · rw [valV_neg c] at v
      have c2 : ¬ q.1 = k := fun e => c (h.1.trans e)
      rw [if_neg c2]
      have mem : V.ref l ∈ ps.map (·.2) := by
        unfold valV at v
        obtain ⟨x, hx, ex⟩ := Option.map_eq_some_iff.mp v
        exact List.mem_map.mpr ⟨x, List.mem_of_find?_eq_some hx, ex⟩
      exact .cons (h.other (fun e => b1 (show p.2 ∈ _ by rw [e]; exact mem)) keep isl) (ent_more t a2 b2 v keep isl app ta)
def Rl.k3 (r : Rl) : List Key := [.inl r.st, .inr r.sg, .inr r.tp]
def Rl.a5 (r : Rl) : List Key := [.inl r.af, .inl r.mv, .inr r.de, .inr r.sy, .inr r.sa]
def grps (rs : List Rl) : List Grp := rs.foldl (fun G r => gAdd G r.k3 r.a5) []
theorem grps_snoc (rs : List Rl) (r : Rl) : grps (rs ++ [r]) = gAdd (grps rs) r.k3 r.a5 := by
  unfold grps
  rw [List.foldl_append] <;> rfl
theorem grps_keys (rs : List Rl) : (grps rs).map (·.1) = Sx.once (rs.map Rl.k3) := by
  have gen : ∀ (l pre : List Rl), (grps pre).map (·.1) = Sx.once (pre.map Rl.k3) → (grps (pre ++ l)).map (·.1) = Sx.once ((pre ++ l).map Rl.k3) := by
    intro l
    induction l with
    | nil => intro pre h; simpa using h
    | cons r l ih =>
      intro pre h
      have e : pre ++ r :: l = (pre ++ [r]) ++ l := by simp
      rw [e]
      refine ih (pre ++ [r]) ?_
      rw [grps_snoc, gAdd_keys, h, List.map_append]
      exact (once_add (pre.map Rl.k3) r.k3).symm
  simpa using gen rs [] rfl
/-- the acts' table as it is kept -/
def EntT (H : Hp) (p : List Key × V) (q : Grp) : Prop := p.1 = q.1 ∧ ∃ (t : Addr) (as : List Addr), p.2 = .ref t ∧ H t = some (.tup (as.map V.ref)) ∧ Paired (TupAt H) as q.2
def ActsAt (H : Hp) (p : Addr) (G : List Grp) : Prop := ∃ kvs, H p = some (.dT kvs) ∧ Paired (EntT H) kvs G
theorem EntT.mono {H H' : Hp} {p : List Key × V} {q : Grp} (s : ∀ b xs, H b = some (.tup xs) → H' b = some (.tup xs)) (e : EntT H p q) : EntT H' p q := by
  obtain ⟨e1, t, as, e2, e3, e4⟩ := e
  exact ⟨e1, t, as, e2, s _ _ e3, Paired.mapP e4 fun a k t => s _ _ t⟩
theorem entT_keys {H : Hp} : ∀ {kvs : List (List Key × V)} {G : List Grp}, Paired (EntT H) kvs G → kvs.map (·.1) = G.map (·.1)
  | _, _, .nil => rfl
  | _, _, .cons h t => by rw [List.map_cons, List.map_cons, h.1, entT_keys t]
theorem ActsAt.mono {H H' : Hp} {p : Addr} {G : List Grp} (h : ActsAt H p G) (e : Same H H') : ActsAt H' p G := by
  obtain ⟨kvs, h1, h2⟩ := h
  exact ⟨kvs, e _ _ h1, Paired.mapP h2 fun a b z => z.mono fun c xs y => e _ _ y⟩
end Mk

set_option linter.all false
set_option maxRecDepth 100000
set_option maxHeartbeats 2000000
/-! the comprehensions over a walk -/
namespace Sx
open PySem PySem.Spec PyProof.Rows L2
section
variable {J : It} {n : Nat} {G : Hp → Prop} {Y : Nat → Hp → V → Hp → Prop}
theorem dt_it (wk : Walk J n G Y) {g : TG} {tt : TT} {tk tv : TE} {vs : List Nat} {σ : L2.St} {H1 : Hp} {D : Addr} {Qd : Hp → Prop} (Pv : Nat → Hp → Prop) (h0 : Pv 0 (upd H1 D (.dT []))) (hG : ∀ i H, i ≤ n → Pv i H → G H)
    (hs : ∀ i x H H', i < n → Pv i H → Y i H x H' → g x (wipe σ vs) H' fun σ2 H2 => wipe σ2 vs = wipe σ vs ∧ tt σ2 H2 fun b H3 =>
      if b = true then tk σ2 H3 fun y H4 => tv σ2 H4 fun z H5 => ∃ (kvs : List (List Key × V)) (k : List Key) (p : Addr), y = .ref p ∧ H5 p = some (.tup (k.map kV)) ∧ H5 D = some (.dT kvs) ∧ kvs.length < sizeLine ∧ Pv (i + 1) (upd H5 D (.dT (putK kvs k z))) else Pv (i + 1) H3)
    (hd : ∀ H, Pv n H → Qd H) :
    ∃ W : Nat → Nat → Hp → Prop, (∃ m, W 0 m (upd H1 D (.dT []))) ∧ ∀ i m H, W i m H →
      (J.stop i H ∧ Qd H) ∨ (J.go i H ∧ ∃ Nx : Hp → Prop, (∀ H', Nx H' → ∃ m', m' < m ∧ W (i + 1) m' H') ∧ ∀ x H', J.yld i H x H' → g x (wipe σ vs) H' fun σ2 H2 => wipe σ2 vs = wipe σ vs ∧ tt σ2 H2 fun b H3 =>
        if b = true then tk σ2 H3 fun y H4 => tv σ2 H4 fun z H5 => ∃ (kvs : List (List Key × V)) (k : List Key) (p : Addr), y = .ref p ∧ H5 p = some (.tup (k.map kV)) ∧ H5 D = some (.dT kvs) ∧ kvs.length < sizeLine ∧ Nx (upd H5 D (.dT (putK kvs k z))) else Nx H3) := by
  refine ⟨fun i m H => m = n - i ∧ i ≤ n ∧ Pv i H, ⟨n, rfl, Nat.zero_le _, h0⟩, ?_⟩
  rintro i m H ⟨rfl, le, pv⟩
  have gH := hG i H le pv
  rcases Nat.lt_or_ge i n with lt | ge
  · exact .inr ⟨wk.goes i H lt gH, Pv (i + 1), fun H' q => ⟨n - (i + 1), by omega, rfl, lt, q⟩, fun x H' y => hs i x H H' lt pv (wk.yields i H x H' lt gH y)⟩
  · have e : i = n := by omega
    subst e
    exact .inl ⟨wk.stops H gH, hd H pv⟩
theorem sm_it {P : Program} {w : World} (wk : Walk J n G Y) {g : TG} {tt : TT} {te : TE} {vs : List Nat} {σ : L2.St} {H1 : Hp} {D : Addr} {Qd : Hp → Prop} (Pv : Nat → Hp → Prop) (h0 : Pv 0 (upd H1 D (MSetO P w D []))) (hG : ∀ i H, i ≤ n → Pv i H → G H)
    (hs : ∀ i x H H', i < n → Pv i H → Y i H x H' → g x (wipe σ vs) H' fun σ2 H2 => wipe σ2 vs = wipe σ vs ∧ tt σ2 H2 fun b H3 =>
      if b = true then te σ2 H3 fun y H4 => ∃ (x : Addr) (k : List Key) (L : Rows), y = .ref x ∧ H4 x = some (.tup (k.map kV)) ∧ H4 D = some (MSetO P w D L) ∧ TupsIn H4 L ∧ L.length + 1 ≤ 2000 ∧
        ∀ L2, (k ∈ L.map (·.2) → L2 = L) → (k ∉ L.map (·.2) → L2.Perm ((x, k) :: L)) → Pv (i + 1) (upd H4 D (MSetO P w D L2)) else Pv (i + 1) H3)
    (hd : ∀ H, Pv n H → Qd H) :
    ∃ W : Nat → Nat → Hp → Prop, (∃ m, W 0 m (upd H1 D (MSetO P w D []))) ∧ ∀ i m H, W i m H →
      (J.stop i H ∧ Qd H) ∨ (J.go i H ∧ ∃ Nx : Hp → Prop, (∀ H', Nx H' → ∃ m', m' < m ∧ W (i + 1) m' H') ∧ ∀ x H', J.yld i H x H' → g x (wipe σ vs) H' fun σ2 H2 => wipe σ2 vs = wipe σ vs ∧ tt σ2 H2 fun b H3 =>
        if b = true then te σ2 H3 fun y H4 => ∃ (x : Addr) (k : List Key) (L : Rows), y = .ref x ∧ H4 x = some (.tup (k.map kV)) ∧ H4 D = some (MSetO P w D L) ∧ TupsIn H4 L ∧ L.length + 1 ≤ 2000 ∧
          ∀ L2, (k ∈ L.map (·.2) → L2 = L) → (k ∉ L.map (·.2) → L2.Perm ((x, k) :: L)) → Nx (upd H4 D (MSetO P w D L2)) else Nx H3) := by
  refine ⟨fun i m H => m = n - i ∧ i ≤ n ∧ Pv i H, ⟨n, rfl, Nat.zero_le _, h0⟩, ?_⟩
  rintro i m H ⟨rfl, le, pv⟩
  have gH := hG i H le pv
  rcases Nat.lt_or_ge i n with lt | ge
  · exact .inr ⟨wk.goes i H lt gH, Pv (i + 1), fun H' q => ⟨n - (i + 1), by omega, rfl, lt, q⟩, fun x H' y => hs i x H H' lt pv (wk.yields i H x H' lt gH y)⟩
  · have e : i = n := by omega
    subst e
    exact .inl ⟨wk.stops H gH, hd H pv⟩
end
theorem paired_left {α β : Type} {F : α → β → Prop} : ∀ {l : List α} {m : List β}, Paired F l m → ∀ a ∈ l, ∃ b ∈ m, F a b
  | _, _, .nil, a, h => absurd h List.not_mem_nil
  | _, _, .cons r t, a, h => by
    rcases List.mem_cons.mp h with rfl | h
    · exact ⟨_, List.mem_cons_self, r⟩
    · obtain ⟨b, m, q⟩ := paired_left t a h
      exact ⟨b, List.mem_cons_of_mem _ m, q⟩
theorem paired_at {α β : Type} {F : α → β → Prop} : ∀ {l : List α} {m : List β} {i : Nat} {a : α}, Paired F l m → l[i]? = some a → ∃ b, m[i]? = some b ∧ F a b
  | _, _, _, _, .nil, e => by simp at e
  | _, _, 0, _, .cons r t, e => by simp at e; subst e; exact ⟨_, rfl, r⟩
  | _, _, i + 1, a, .cons r t, e => by
    obtain ⟨b, e1, e2⟩ := paired_at (i := i) (a := a) t (by simpa using e)
    exact ⟨b, by simpa using e1, e2⟩
theorem val_mem {κ : Type} [DecidableEq κ] {k : κ} {v : V} : ∀ {kvs : List (κ × V)}, (kvs.map (·.1)).Nodup → (k, v) ∈ kvs → valV kvs k = some v
  | [], _, m => absurd m List.not_mem_nil
  | p :: ps, nd, m => by
    obtain ⟨a, b⟩ := List.nodup_cons.mp nd
    rcases List.mem_cons.mp m with e | m
    · rw [← e]; exact valV_pos rfl
    · rw [valV_neg fun e => a (show p.1 ∈ _ by rw [e]; exact List.mem_map.mpr ⟨_, m, rfl⟩)]
      exact val_mem b m
end Sx

set_option Elab.async false
set_option maxRecDepth 100000
set_option maxHeartbeats 4000000
namespace Mk
open PySem L2 Pk
theorem Ent.keepL {H H' : Hp} {p : List Key × V} {q : Grp} (e : Ent H p q) (k1 : ∀ b xs, H b = some (.lst xs) → H' b = some (.lst xs)) (k2 : ∀ b xs, H b = some (.tup xs) → H' b = some (.tup xs)) : Ent H' p q := by
  obtain ⟨e1, la, as, e2, e3, e4⟩ := e
  exact ⟨e1, la, as, e2, k1 _ _ e3, Paired.mapP e4 fun a k t => k2 _ _ t⟩
theorem ent_get {H : Hp} {k : List Key} {v : V} : ∀ {kvs : List (List Key × V)} {G : List Grp}, Paired (Ent H) kvs G → valV kvs k = some v → ∃ (la : Addr) (as : List Addr) (g : Grp), v = .ref la ∧ H la = some (.lst (as.map V.ref)) ∧ (k, v) ∈ kvs ∧ g ∈ G ∧ as.length = g.2.length
  | _, _, .nil, e => by cases e
  | p :: ps, _, .cons h t, e => by
    by_cases c : p.1 = k
    · rw [valV_pos c] at e
      obtain ⟨_, la, as, e2, e3, e4⟩ := h
      have e' := Option.some.inj e
      exact ⟨la, as, _, by rw [← e', e2], e3, by rw [← e', ← c]; exact List.mem_cons_self, List.mem_cons_self, Paired.length e4⟩
    · rw [valV_neg c] at e
      obtain ⟨la, as, g, e2, e3, e4, e5, e6⟩ := ent_get t e
      exact ⟨la, as, g, e2, e3, List.mem_cons_of_mem _ e4, List.mem_cons_of_mem _ e5, e6⟩
theorem gAdd_len {G : List Grp} {k a : List Key} {n : Nat} (h : ∀ g ∈ G, g.2.length ≤ n) : ∀ g ∈ gAdd G k a, g.2.length ≤ n + 1 := by
  intro g m
  unfold gAdd at m
  split at m
  · obtain ⟨g0, m0, rfl⟩ := List.mem_map.mp m
    have z := h g0 m0
    split
    · rw [List.length_append]
      exact Nat.add_le_add_right z 1
    · omega
  · rcases List.mem_append.mp m with m | m
    · have z := h g m
      omega
    · rw [List.mem_singleton.mp m]
      exact Nat.le_add_left 1 n
theorem grps_len (rs : List Rl) : ∀ g ∈ grps rs, g.2.length ≤ rs.length := by
  have gen : ∀ (l pre : List Rl), (∀ g ∈ grps pre, g.2.length ≤ pre.length) → ∀ g ∈ grps (pre ++ l), g.2.length ≤ (pre ++ l).length := by
    intro l
    induction l with
    | nil => intro pre h; simpa using h
    | cons r l ih =>
      intro pre h
      have e : pre ++ r :: l = (pre ++ [r]) ++ l := by simp
      rw [e]
      refine ih (pre ++ [r]) ?_
      rw [grps_snoc, List.length_append]
      exact gAdd_len h
  exact gen rs [] fun g m => absurd m List.not_mem_nil
theorem put_none {κ : Type} [DecidableEq κ] {kvs : List (κ × V)} {k : κ} {v : V} (h : valV kvs k = none) : putK kvs k v = kvs ++ [(k, v)] := by
  unfold putK
  rw [if_neg]
  intro c
  rw [valV_any, h] at c
  cases c
def rTupOf (K : PySem.W.Frag) : List V → Hp → VK → Prop := fun xs H Q => ∃ p ys, xs = [V.ref p] ∧ ((SqL K H p ys ∧ ∀ l : Addr, H l = none → Q (V.ref l) (upd H l (HO.tup ys))) ∨ SqT K H p ys ∧ Q (V.ref p) H)
section
variable {P : Program} {w : World} {K : PySem.W.Frag} {mg : PySem.Str → Option Value} {base : Heap}
def spActs (K : PySem.W.Frag) : Sp := fun vs H Q _ => ∃ (a : Addr) (R : Kept), vs = [.ref a] ∧ SqT K H a (refsK R) ∧ KeptAt H R ∧ R.length ≤ 20000 ∧
  ∀ (H' : Hp) (p : Addr), Same H H' → H p = none → ActsAt H' p (grps (R.map (·.2))) → Q (.ref p) H'
abbrev nActs : List PySem.Str := ["rules", "found", "rule", "key"]
theorem scActs : FnScope nActs ["rules"] (defScope sActs) := ⟨rfl, rfl, rfl, by decide +kernel, rfl, by decide +kernel, by decide +kernel⟩
theorem at_refs {R : Kept} {i : Nat} {v : V} (e : (refsK R)[i]? = some v) : ∃ p, R[i]? = some p ∧ v = .ref p.1 := by
  unfold refsK at e
  rw [List.getElem?_map] at e
  obtain ⟨p, e1, e2⟩ := Option.map_eq_some_iff.mp e
  exact ⟨p, e1, e2.symm⟩
theorem ok_acts {f : Addr} {fd : FuncData} (F : Fun K "acts_by_key" "acts_by_key" sActs f fd) (T : TM mg) : FnOk P w K mg base CX0 1 f fd ["rules"] (spActs K) := by
  refine F.ok scActs (fun vs H Q E h => ?_) (fun cdv A outer s H vs Q E hr h => ?_)
  · obtain ⟨a, R, rfl, _⟩ := h
    rfl
  · obtain ⟨a, R, rfl, hS, hK, most, k⟩ := h
    have hu := hu_of hr
    have hu64 := hr.units
    refine ⟨_, pss_cons (ps_set (i := 1) scActs.nd rfl (Or.inr rfl) pe_dnewT)
      (pss_cons (ps_for PassesOwn.never rfl (pi_tup (pv 0)) (pg_name (i := 2) scActs.nd rfl (Or.inl rfl))
        (pss_one (ps_expr (pe_bm PySem.F.plainAttrs_list PySem.F.slot_list_append PySem.F.type_list_append mt_append (Sx.pe_setdT hu (pv 1) (pe_slice sl_tup (pv 2) po_none (po_some pe_int)) (pe_lst pa_nil) ⟨rfl, rfl, rfl, rfl⟩)
          (pa_cons (pe_slice sl_tup (pv 2) (po_some pe_int) po_none) pa_nil)))))
      (pss_one (ps_ret (pe_lock (Sx.pe_dt (own := [("key", 3)]) (g := gName 3) (tt := tYes) hu64 (by rfl) scActs.nd (pi_keys (pv 1))
        (blkOk_by (own := [("key", 3)]) (N := nActs) (sc := defScope sActs) (by decide +kernel))
        (fun _ _ _ _ _ => pg_name (i := 3) scActs.nd rfl (Or.inl rfl)) (fun _ _ _ _ _ => pts_nil) (fun _ _ _ _ _ => pv 3)
        (fun _ _ _ _ _ => pe_callTy (r := rTupOf K) call_tuple_of (by rfl) T.tuple PyProof.Rows.Boot.tuple (pa_cons (pe_dget hu (pv 1) (pv 3) fun _ _ => rfl) pa_nil))))))), ?_⟩
    intro D hD
    refine ⟨_, rfl, a, rfl, ⟨_, Same.tup (same_new hD) hS⟩, for_tup (K := K) (a := a) (xs := refsK R) (fun i σ H' => Same H H' ∧ ∃ (v : Option V) (kvs : List (List Key × V)), σ = [some (.ref a), some (.ref D), v, none] ∧ H' D = some (.dT kvs) ∧
        Paired (Ent H') kvs (grps ((R.take i).map (·.2))) ∧ (kvs.map (·.2)).Nodup ∧ ∀ p ∈ kvs, ∃ la, p.2 = .ref la ∧ H la = none)
      ⟨same_new hD, none, [], rfl, upd_same, .nil, List.nodup_nil, fun p m => absurd m List.not_mem_nil⟩ (fun i σ H' _ h => Same.tup h.1 hS) ?_ ?_⟩
    · rintro i x σ H2 hi ⟨s2, v, kvs, rfl, hD2, hE, nd2, news⟩
      obtain ⟨p, ep, rfl⟩ := at_refs hi
      have m := List.mem_of_getElem? ep
      refine ⟨_, rfl, D, rfl, .inr ⟨kvs, .inl hD2⟩, _, rfl, 3, rfl, p.1, p.2.vs, rfl, .inl (.inl (s2 _ _ (hK p m))), (show ¬ (HT.sIx 8 0 none = 0 ∧ HT.sIx 8 8 (some 3) = 8) by decide), fun q3 h3 => ?_⟩
      have cut3 : cutV p.2.vs none (some 3) = p.2.k3.map kV := rfl
      have cut5 : cutV p.2.vs (some 3) none = p.2.a5.map kV := rfl
      have c5 : ¬ (HT.sIx 8 0 (some 3) = 0 ∧ HT.sIx 8 8 none = 8) := by decide
      rw [cut3] at *
      have sA : Same H2 (upd H2 q3 (.tup (p.2.k3.map kV))) := same_new h3
      refine ⟨Nat.zero_le _, fun l0 h0 => ?_⟩
      have sB : Same H2 (upd (upd H2 q3 (.tup (p.2.k3.map kV))) l0 (.lst [])) := sA.trans (same_new h0)
      have n0 : H2 l0 = none := sA.free h0
      have lG : kvs.length ≤ 20000 := by
        have z := congrArg List.length (ent_keys hE)
        rw [grps_keys, List.length_map] at z
        have y := Sx.once_len (((R.take i).map (·.2)).map Rl.k3)
        rw [List.length_map, List.length_map, List.length_take] at y
        omega
      have few : ∀ {n : Nat}, n ≤ 40000 → n < sizeLine := fun h => Nat.lt_of_le_of_lt h (by decide)
      have next : grps ((R.take (i + 1)).map (·.2)) = gAdd (grps ((R.take i).map (·.2))) p.2.k3 p.2.a5 := by
        rw [take_at ep, List.map_append]
        exact grps_snoc _ _
      refine ⟨kvs, p.2.k3, q3, sB _ _ hD2, rfl, same_new h0 _ _ upd_same, few (by omega), fun v1 hv => ?_, fun hn => ?_⟩
      · obtain ⟨la, as, g, rfl, hla, mem, gm, gl⟩ := ent_get hE hv
        obtain ⟨la', e', nla⟩ := news _ mem
        cases e'
        have inG : p.2.k3 ∈ (grps ((R.take i).map (·.2))).map (·.1) := by
          rw [← ent_keys hE]
          exact valV_in hv
        refine ⟨.inl ⟨rfl, _, .inl (.inl (sB _ _ hla))⟩, _, rfl, 3, rfl, p.1, p.2.vs, rfl, .inl (.inl (sB _ _ (s2 _ _ (hK p m)))), c5, fun q5 h5 => ?_⟩
        have sC := sB.trans (same_new (o := .tup (cutV p.2.vs (some 3) none)) h5)
        have h5l : q5 ≠ la := fun e => by
          rw [e] at h5
          rw [sB _ _ hla] at h5
          cases h5
        have lA : as.length < sizeLine := by
          have z := grps_len _ g gm
          rw [List.length_map, List.length_take] at z
          exact few (by omega)
        refine ⟨la, _, _, rfl, rfl, sC _ _ hla, by rw [List.length_map]; exact lA, ?_⟩
        refine ⟨same_mut (s2.trans sC) nla, some (.ref p.1), kvs, rfl, ?_, ?_, nd2, news⟩
        · rw [upd_ne (ne_of hD2 hla (fun z => nomatch z))]
          exact sC _ _ hD2
        · rw [next]
          unfold gAdd
          rw [if_pos inG]
          refine ent_more (l := la) (q5 := q5) hE (by rw [ent_keys hE, grps_keys]; exact Sx.once_nodup _) nd2 hv (fun b o nb e => by rw [upd_ne nb]; exact sC _ _ e) (fun xs z => by rw [hla] at z; cases z) (fun bs z => ?_) ?_
          · rw [hla] at z
            injection z with z
            injection z with z
            rw [upd_same, z, List.map_append] <;> rfl
          · show (upd _ _ _) q5 = _
            rw [upd_ne h5l, upd_same, cut5]
      · have notG : p.2.k3 ∉ (grps ((R.take i).map (·.2))).map (·.1) := by
          rw [← ent_keys hE]
          exact valV_not hn
        have qD : q3 ≠ D := fun e => by rw [e, hD2] at h3; cases h3
        have lD : l0 ≠ D := fun e => by rw [e, hD2] at n0; cases n0
        have lq : l0 ≠ q3 := fun e => by rw [e, upd_same] at h0; cases h0
        generalize hX : upd (upd (upd H2 q3 (.tup (p.2.k3.map kV))) l0 (.lst [])) D (.dT (putK kvs p.2.k3 (.ref l0))) = X2
        have xl0 : X2 l0 = some (.lst []) := by rw [← hX, upd_ne lD, upd_same]
        have xo : ∀ b o, b ≠ D → H2 b = some o → X2 b = some o := fun b o ne e => by
          rw [← hX, upd_ne ne]
          exact sB _ _ e
        have pD : p.1 ≠ D := fun e => by
          have z := s2 _ _ (hK p m)
          rw [e, hD2] at z
          cases z
        refine ⟨.inl ⟨rfl, _, .inl (.inl xl0)⟩, _, rfl, 3, rfl, p.1, p.2.vs, rfl, .inl (.inl (xo _ _ pD (s2 _ _ (hK p m)))), c5, fun q5 h5 => ?_⟩
        have q5l : q5 ≠ l0 := fun e => by rw [e, xl0] at h5; cases h5
        have q5D : q5 ≠ D := fun e => by
          rw [e, ← hX, upd_same] at h5
          cases h5
        have lq5 : l0 ≠ q5 := q5l.symm
        refine ⟨l0, _, _, rfl, rfl, by rw [upd_ne lq5]; exact xl0, few (by show 0 ≤ 40000; omega), ?_⟩
        have nl0 : H l0 = none := s2.free n0
        have sX : Same H X2 := by
          rw [← hX]
          exact same_mut (s2.trans sB) hD
        have fin : ∀ b o, b ≠ D → H2 b = some o → (upd (upd X2 q5 (.tup (cutV p.2.vs (some 3) none))) l0 (.lst ([] ++ [V.ref q5]))) b = some o := fun b o ne e => by
          rw [upd_ne (ne_of_none e n0), upd_ne (fun z => by rw [← z] at h5; rw [xo b o ne e] at h5; cases h5)]
          exact xo b o ne e
        refine ⟨same_mut (same_mut sX (sX.free h5)) nl0, some (.ref p.1), kvs ++ [(p.2.k3, .ref l0)], rfl, ?_, ?_, ?_, ?_⟩
        · rw [upd_ne lD.symm, upd_ne q5D.symm, ← hX, upd_same, put_none hn]
        · rw [next]
          unfold gAdd
          rw [if_neg notG]
          refine Paired.snoc (Paired.mapP hE fun x y z => z.keepL (fun b xs e => fin b _ (fun ed => by rw [ed, hD2] at e; cases e) e) fun b xs e => fin b _ (fun ed => by rw [ed, hD2] at e; cases e) e) ?_
          refine ⟨rfl, l0, [q5], rfl, upd_same, .cons ?_ .nil⟩
          show (upd _ _ _) q5 = _
          rw [upd_ne q5l, upd_same, cut5]
        · rw [List.map_append]
          refine (List.perm_append_singleton _ _).nodup_iff.mpr (List.nodup_cons.mpr ⟨fun mm => ?_, nd2⟩)
          obtain ⟨x, hx, ex⟩ := List.mem_map.mp mm
          obtain ⟨g, _, _, la, as, e1, e2, _⟩ := Sx.paired_left hE x hx
          have ex' : x.2 = V.ref l0 := ex
          rw [ex'] at e1
          injection e1 with e1
          rw [← e1, n0] at e2
          cases e2
        · intro x hx
          rcases List.mem_append.mp hx with hx | hx
          · exact news x hx
          · rw [List.mem_singleton.mp hx]
            exact ⟨l0, rfl, nl0⟩
    · rintro σ H2 ⟨s2, v, kvs, rfl, hD2, hE, nd2, news⟩
      have lR : (refsK R).length = R.length := List.length_map ..
      rw [lR, List.take_of_length_le (Nat.le_refl _)] at hE
      generalize hG : grps (R.map (·.2)) = G at hE
      have keysG : kvs.map (·.1) = G.map (·.1) := ent_keys hE
      have ndG : (G.map (·.1)).Nodup := by rw [← hG, grps_keys]; exact Sx.once_nodup _
      have lk : kvs.length = G.length := Paired.length hE
      have lG : G.length ≤ 20000 := by
        have y := Sx.once_len ((R.map (·.2)).map Rl.k3)
        rw [← grps_keys, hG, List.length_map, List.length_map, List.length_map] at y
        omega
      refine ⟨D, _, hD2, trivial, fun od => ?_⟩
      refine ⟨_, rfl, D, od, rfl, .inr ⟨kvs, upd_same, fun N hN => ?_⟩⟩
      have ND : N ≠ D := fun e => by rw [e, upd_same] at hN; cases hN
      have hN2 : H2 N = none := by rw [upd_ne ND] at hN; exact hN
      refine Sx.dt_it walk_keysT (fun i H' => H' D = some (.frz od (.dT kvs)) ∧ (∀ b o, b ≠ D → H2 b = some o → H' b = some o) ∧ ∃ kv', H' N = some (.dT kv') ∧ Paired (EntT H') kv' (G.take i))
        ⟨by rw [upd_ne ND.symm, upd_same], fun b o ne e => by rw [upd_ne (ne_of_none e hN2), upd_ne ne]; exact e, [], upd_same, .nil⟩ (fun i H' _ h => h.1) ?_ ?_
      · rintro i y H3 H4 hi ⟨hf, old, kv', hN3, hP⟩ ⟨rfl, c, u, q, ec, rfl, hq⟩
        obtain ⟨g, eg, hent⟩ := Sx.paired_at hE ec
        obtain ⟨e1, la, as, e2, e3, e4⟩ := hent
        have e1' : c = g.1 := e1
        have e2' : u = .ref la := e2
        subst e2'
        have mem := List.mem_of_getElem? ec
        have laD : la ≠ D := fun e => by rw [e, hD2] at e3; cases e3
        have vq : valV kvs c = some (.ref la) := Sx.val_mem (by rw [keysG]; exact ndG) mem
        refine ⟨rfl, ?_⟩
        refine ⟨_, rfl, _, rfl, _, rfl, D, _, rfl, .inr ⟨kvs, c, q, .inr ⟨od, hf⟩, rfl, hq, vq.symm⟩, la, _, rfl, .inl ⟨.inl (.inl (old _ _ laD e3)), fun t ht => ?_⟩⟩
        have tN : N ≠ t := fun e => by rw [← e, hN3] at ht; cases ht
        have qt : q ≠ t := fun e => by rw [← e, hq] at ht; cases ht
        have keys' : kv'.map (·.1) = (G.take i).map (·.1) := entT_keys hP
        have new : c ∉ kv'.map (·.1) := by
          rw [keys', e1', List.map_take]
          intro mm
          obtain ⟨j, hj, ej⟩ := List.getElem_of_mem mm
          rw [List.length_take] at hj
          rw [List.getElem_take] at ej
          have hi' : i < (G.map (·.1)).length := by rw [List.length_map]; exact (List.getElem?_eq_some_iff.mp eg).1
          have z : (G.map (·.1))[i] = g.1 := by
            rw [List.getElem_map]
            exact congrArg Prod.fst (List.getElem?_eq_some_iff.mp eg).2
          exact List.pairwise_iff_getElem.mp ndG j i (by omega) hi' (by omega) (by rw [ej, z])
        have pn : valV kv' c = none := by
          rcases z : valV kv' c with _ | z1
          · rfl
          · exact absurd (valV_in z) new
        have tups : ∀ b xs, H4 b = some (.tup xs) → (upd (upd H4 t (.tup (as.map V.ref))) N (.dT (putK kv' c (.ref t)))) b = some (.tup xs) := fun b xs e => by
          rw [upd_ne (ne_of e hN3 (fun z => nomatch z)), upd_ne (ne_of_none e ht)]
          exact e
        refine ⟨kv', c, q, rfl, by rw [upd_ne qt]; exact hq, by rw [upd_ne tN]; exact hN3, ?_, ?_, ?_, _, upd_same, ?_⟩
        · have z := Paired.length hP
          rw [List.length_take] at z
          exact Nat.lt_of_le_of_lt (show kv'.length ≤ 20000 by omega) (by decide)
        · have tD : D ≠ t := fun e => by rw [← e, hf] at ht; cases ht
          rw [upd_ne ND.symm, upd_ne tD]
          exact hf
        · intro b o ne e
          have z := old b o ne e
          rw [upd_ne (ne_of_none e hN2), upd_ne (ne_of_none z ht)]
          exact z
        · rw [put_none pn] at tups ⊢
          rw [take_at eg]
          refine Paired.snoc (Paired.mapP hP fun x y z => z.mono tups) ⟨e1', t, as, rfl, by rw [upd_ne tN.symm, upd_same], Paired.mapP e4 fun a k z => tups _ _ (old _ _ (fun ed => ?_) z)⟩
          have z' : H2 a = some (.tup (k.map kV)) := z
          rw [ed, hD2] at z'
          cases z'
      · rintro H3 ⟨hf, old, kv', hN3, hP⟩
        rw [lk, List.take_of_length_le (Nat.le_refl _)] at hP
        refine ⟨hf, k _ N (fun b o e => ?_) (s2.free hN2) ⟨kv', by rw [upd_ne ND]; exact hN3, ?_⟩⟩
        · have bD : b ≠ D := ne_of_none e hD
          rw [upd_ne bD]
          exact old b o bD (s2 b o e)
        · rw [hG]
          exact Paired.mapP hP fun x y z => z.mono fun b xs e => by
            rw [upd_ne (ne_of e hf (fun z => nomatch z))]
            exact e
end
end Mk

set_option Elab.async false
set_option maxRecDepth 100000
set_option maxHeartbeats 4000000
namespace Mk
open PySem L2 Pk
theorem upd_id {H : Hp} {a : Addr} {o : HO} (h : H a = some o) : upd H a o = H := by
  funext b
  by_cases e : b = a
  · rw [e, upd_same, h]
  · rw [upd_ne e]
def guessOf (G : List Grp) : Option (List Key) := (G.find? fun g => decide (1 < g.2.length)).map (·.1)
def GuessV (H : Hp) (v : V) : Option (List Key) → Prop
  | none => v = .non
  | some k => ∃ q, v = .ref q ∧ TupAt H q k
theorem find_at {α : Type} {p : α → Bool} : ∀ {l : List α} {i : Nat} {x : α}, l[i]? = some x → p x = true → (∀ y ∈ l.take i, p y = false) → l.find? p = some x
  | [], i, x, e, _, _ => by simp at e
  | y :: l, 0, x, e, h, _ => by
    simp at e
    subst e
    rw [List.find?_cons_of_pos h]
  | y :: l, i + 1, x, e, h, b => by
    have n : p y = false := b y (by rw [List.take_succ_cons]; exact List.mem_cons_self)
    rw [List.find?_cons_of_neg (by rw [n]; decide)]
    exact find_at (by simpa using e) h fun z m => b z (by rw [List.take_succ_cons]; exact List.mem_cons_of_mem _ m)
section
variable {P : Program} {w : World} {K : PySem.W.Frag} {mg : PySem.Str → Option Value} {base : Heap}
def spGuess : Sp := fun vs H Q _ => ∃ (d : Addr) (G : List Grp), vs = [.ref d] ∧ ActsAt H d G ∧ (G.map (·.1)).Nodup ∧ (∀ g ∈ G, g.2.length ≤ 20000) ∧ ∀ v, GuessV H v (guessOf G) → Q v H
theorem scGuess : FnScope ["acts", "key"] ["acts"] (defScope sGuess) := ⟨rfl, rfl, rfl, by decide +kernel, rfl, by decide +kernel, by decide +kernel⟩
theorem ok_guess {f : Addr} {fd : FuncData} (F : Fun K "first_guess" "first_guess" sGuess f fd) (T : TM mg) : FnOk P w K mg base CX0 1 f fd ["acts"] spGuess := by
  refine F.ok scGuess (fun vs H Q E h => ?_) (fun cdv A outer s H vs Q E hr h => ?_)
  · obtain ⟨a, G, rfl, _⟩ := h
    rfl
  · obtain ⟨d, G, rfl, ⟨kvs, hd, hP⟩, nd, few, k⟩ := h
    have hu := hu_of hr
    refine ⟨_, pss_cons (ps_lock (ps_for PassesOwn.never rfl (pi_keys (pv 0)) (pg_name (i := 1) scGuess.nd rfl (Or.inl rfl))
        (pss_one (ps_if (pt_cmpR op_gt (pe_callB call_len_seq (by rfl) T.len PySem.boot_len (pa_cons (pe_dget hu (pv 0) (pv 1) fun _ _ => rfl) pa_nil)) pe_int (nomark _)) (pss_one (ps_ret (pv 1))) pss_nil))))
      (pss_one (ps_ret pe_non)), ?_⟩
    have back : ∀ od, upd (upd H d (.frz od (.dT kvs))) d (.dT kvs) = H := fun od => by rw [upd_upd, upd_id hd]
    have keysG : kvs.map (·.1) = G.map (·.1) := entT_keys hP
    refine ⟨d, _, hd, trivial, fun od => ?_⟩
    refine ⟨_, rfl, d, od, rfl, .inr ⟨kvs, upd_same, for_it walk_keysT (fun i σ H' => H' = upd H d (.frz od (.dT kvs)) ∧ (∃ v : Option V, σ = [some (.ref d), v]) ∧ ∀ g ∈ G.take i, decide (1 < g.2.length) = false)
      ⟨rfl, ⟨none, rfl⟩, fun g m => absurd m (by simp)⟩ (fun i σ H' _ h => by rw [h.1, upd_same]) ?_ ?_⟩⟩
    · rintro i y σ H3 H4 hi ⟨rfl, ⟨v, rfl⟩, before⟩ ⟨rfl, c, u, q, ec, rfl, hq⟩
      obtain ⟨g, eg, e1, t, as, e2, e3, e4⟩ := Sx.paired_at hP ec
      have e1' : c = g.1 := e1
      have e2' : u = .ref t := e2
      subst e2'
      have mem := List.mem_of_getElem? ec
      have gm := List.mem_of_getElem? eg
      have vq : valV kvs c = some (.ref t) := Sx.val_mem (by rw [keysG]; exact nd) mem
      have td : t ≠ d := fun e => by rw [e, hd] at e3; cases e3
      have la : as.length = g.2.length := Paired.length e4
      refine ⟨_, rfl, _, rfl, d, _, rfl, .inr ⟨kvs, c, q, .inr ⟨od, upd_same⟩, rfl, hq, vq.symm⟩, t, _, rfl, .inr (.inl (.inl (by rw [upd_ne td]; exact e3))), _, _, rfl, rfl, _, rfl, ?_⟩
      rw [List.length_map, la]
      refine ite2 (fun big => ?_) (fun small => ?_)
      · have big' : 1 < g.2.length := by
          have z := of_decide_eq_true big
          omega
        refine ⟨_, rfl, upd_same, ?_⟩
        rw [back]
        refine k _ ?_
        have ff : G.find? (fun g => decide (1 < g.2.length)) = some g := find_at eg (decide_eq_true big') before
        unfold guessOf
        rw [ff]
        have qd : q ≠ d := fun e => by
          rw [e, upd_same] at hq
          cases hq
        rw [upd_ne qd] at hq
        exact ⟨q, rfl, by show TupAt H q g.1; rw [← e1']; exact hq⟩
      · have small' : ¬ 1 < g.2.length := fun z => small (decide_eq_true (by omega))
        refine ⟨rfl, ⟨_, rfl⟩, fun x m => ?_⟩
        rw [take_at eg] at m
        rcases List.mem_append.mp m with m | m
        · exact before x m
        · rw [List.mem_singleton.mp m]
          exact decide_eq_false small'
    · rintro σ H3 ⟨rfl, ⟨v, rfl⟩, before⟩
      refine ⟨upd_same, ?_⟩
      show Q .non _
      rw [back]
      refine k _ ?_
      have lk : kvs.length = G.length := Paired.length hP
      rw [lk, List.take_of_length_le (Nat.le_refl _)] at before
      unfold guessOf
      rw [List.find?_eq_none.mpr fun g m z => by rw [before g m] at z; cases z]
      rfl
end
end Mk

set_option linter.all false
set_option maxRecDepth 100000
set_option maxHeartbeats 3200000
/-! set(ints), sorted(set of ints), more than 64 of them, too -/
namespace Sx
open PySem PySem.Spec PyProof.Rows L2
section
variable {P : Program} {w : World} {A : Around} {E : Value → Shared → Prop} {s : Shared}
abbrev bareSet (w : World) : Obj := { cls := .type "set", dict := none, data := .set #[] 0 (.fresh 0 0 (!w.params.followText "set-order")) }
theorem set_ints_list {l : Addr} {items : Array Value} (ns : List Int) {Q : Value → Shared → Prop} (hh : A.handled = none) (hl : s.heap.IsList l items) (hit : IntsAre items.toList ns) (hb : ns.length + 1 < scanBound)
    (h : ∀ (h' : Heap) (tk c : Nat), SetR w h' s.heap.objs.size (fun j => decide (j ∈ ns)) c → c ≤ ns.length → (∀ b o, s.heap.get? b = some o → h'.get? b = some o) → Q (.ref s.heap.objs.size) { s with heap := h', toks := tk }) :
    wpAny (model P w) A (call (.type "set") [.ref l]) Q E s := by
  have isz : items.size = ns.length := by
    have q := IntsAre.length hit
    rwa [Array.length_toList] at q
  obtain ⟨c, tl, hmro⟩ := F.called_set.mro
  have hmade := F.called_set.made
  have hsub := F.called_set.sub
  refine wpAny_call (codeAny_of_tree ?_)
  show wpAny _ _ (callAny (.type "set") _) _ _ _
  refine wpAny_pure ⟨Code.quiet_builtin _ (by decide +kernel), codeAny_builtin F.entry_type_call ?_⟩
  rw [Around.under_plain (weight_type_call_type "set" [.ref l] []) rfl]
  have h1 := F.called_set.notType
  have h2 := F.called_set.canCreate
  have hct := F.typeCall_set_1 (.ref l)
  repeat (any_goals (first | assumption | wp_step))
  refine codeAny_mono (code_set_led1 (.ref l) (E := E) (Q₁ := fun obj s₁ => obj = .ref s.heap.objs.size ∧ s₁ = { s with heap := s.heap.push (bareSet w) }) ⟨rfl, rfl⟩) fun r s₁ hr => ?_
  rcases r with e | fl
  · exact hr
  · cases fl with
    | ret obj =>
      obtain ⟨rfl, rfl⟩ := hr
      have at_ : (s.heap.push (bareSet w)).get? s.heap.objs.size = some (bareSet w) := Heap.get?_push_size _ rfl
      have hT : Shared.TypeIs { s with heap := s.heap.push (bareSet w) } (.ref s.heap.objs.size) "set" := ⟨_, at_, rfl⟩
      have hli := F.called_set.init.lookup
      have hbi := F.called_set.init.bind (.ref s.heap.objs.size)
      repeat (any_goals (first | assumption | wp_step))
      refine codeAny_mono (codeAny_call_builtin (R := wants (fun r s₂ => r = .none ∧ ∃ h' tk c, s₂ = { s with heap := h', toks := tk } ∧ SetR w h' s.heap.objs.size (fun j => decide (j ∈ ns)) c ∧ c ≤ ns.length ∧
          (∀ b o, s.heap.get? b = some o → h'.get? b = some o)) E) F.called_set.init.plain F.entry_set_init (check_set_init_1 hT ?_)) fun r₂ s₂ hr₂ => ?_
      · obtain ⟨ol, hol, hcl, nl, hdl⟩ := hl
        obtain ⟨ocls, odict, odata, oslots⟩ := ol
        simp only at hcl hdl
        subst hcl; subst hdl
        have hol' : (s.heap.push (bareSet w)).get? l = some { cls := .type "list", dict := odict, data := .seq items nl, slots := oslots } := Heap.get?_push_of_some _ hol
        have hsls := F.sub_list_set
        have hslf := F.sub_list_frozenset
        have hne : (Value.type "list" == Value.type "dict") = false := by decide
        have hl1 : (s.heap.push (bareSet w)).IsList l items := ⟨_, hol', rfl, nl, rfl⟩
        unfold Builtin.«set.__init__» noKeywords Builtin.Frozenset.updateFrom
        generalize hPI : pyIter = PI
        wp_walk
        subst hPI
        refine wpAny_pyIter_list hl1 ?_
        refine wpAny_bind (wpAny_runValue ?_)
        have lt : l < s.heap.objs.size := Heap.lt_size hol
        have hh3 : A.in1.in1.in1.handled = none := by simp [hh]
        have neI : l ≠ (s.heap.push (bareSet w)).objs.size := by
          rw [Heap.size_push]; exact Nat.ne_of_lt (Nat.lt_succ_of_lt lt)
        have out : s.heap.objs.size ∉ [(s.heap.push (bareSet w)).objs.size, l] := by
          rw [Heap.size_push]; simp only [List.mem_cons, List.mem_singleton, List.not_mem_nil, or_false, not_or]
          exact ⟨Nat.ne_of_lt (Nat.lt_succ_self _), Nat.ne_of_gt lt⟩
        have hval : ∀ (i : Nat) (v : Value), items[i]? = some v → ∃ k t, ns[i]? = some k ∧ v = .int k t := fun i v hv => by
          have hi : i < ns.length := by rw [← isz]; exact (Array.getElem?_eq_some_iff.mp hv).1
          obtain ⟨t, e⟩ := PyProof.Rows.IntsAre.int_at hit i v (by rw [Array.getElem?_toList]; exact hv)
          refine ⟨ns[i], t, List.getElem?_eq_getElem hi, ?_⟩
          rw [e, List.getD_eq_getElem?_getD, List.getElem?_eq_getElem hi] <;> rfl
        refine set_update_ints ((Walks.list hh3 _ l neI items).toS) s.heap.objs.size out ns isz hb hval (items.size - 0) 0 _ (by omega) (Nat.zero_le _) ⟨⟨_, Heap.get?_push_size _ rfl, rfl, rfl⟩, (hl1.push _)⟩ ?_ ?_
        · have got : ((s.heap.push (bareSet w)).push { cls := .type "list_iterator", data := .fields #[.ref l, .int 0 0] }).get? s.heap.objs.size = some (bareSet w) := Heap.get?_push_of_some _ at_
          exact ⟨0, Nat.le_refl 0, setR_new_at got⟩
        · intro s' c' hm hc' hS'
          obtain ⟨h', g2, d', tk', os'⟩ := s'
          cases (show g2 = s.gens from hm.gens)
          cases (show d' = s.drawn from hm.drawn)
          cases (show os' = s.os from hm.os)
          show wpAny _ _ _ _ _ _
          refine wpAny_pure ?_
          show wpAny _ _ (ret Value.none) _ _ _
          rw [isz] at hc'
          refine wpAny_pure ⟨rfl, h', tk', c', rfl, hS', hc', fun b o e => ?_⟩
          have b0 : b < s.heap.objs.size := Heap.lt_size e
          refine hm.heap b o ?_ (Heap.get?_push_of_some _ (Heap.get?_push_of_some _ e))
          rw [Heap.size_push]
          simp only [List.mem_cons, List.mem_singleton, List.not_mem_nil, or_false, not_or]
          exact ⟨Nat.ne_of_lt b0, Nat.ne_of_lt (Nat.lt_succ_of_lt b0)⟩
      · rcases r₂ with e | fl₂
        · exact hr₂
        · cases fl₂ with
          | ret r =>
            obtain ⟨rfl, h', tk, c', rfl, hS', hc', hk'⟩ := hr₂
            repeat (any_goals (first | assumption | wp_step))
            exact h _ _ _ hS' hc' hk'
          | _ => exact hr₂.elim
    | _ => exact hr.elim
theorem sorted_ints {a : Addr} {S : Int → Bool} {n : Nat} {Q : Value → Shared → Prop} (R : SetR w s.heap a S n) (hh : A.handled = none)
    (hQ : ∀ s' p (out : List Value) (c : Nat) (ns : List Int), (∀ b o, s.heap.get? b = some o → s'.heap.get? b = some o) → s'.gens = s.gens → s'.os = s.os → s.heap.objs.size ≤ p →
      s'.heap.get? p = some (seqObj "list" out.toArray c) → IntsAre out ns → ns.Pairwise (· < ·) → (∀ k, k ∈ ns ↔ S k = true) → ns.length = n → Q (.ref p) s') :
    wpAny (model P w) A (call (.builtin "sorted") [.ref a]) Q E s := by
  obtain ⟨o, es, ep, t, ho, hex, hd, g, nd, hm, hb, hf, hn, hr, hl⟩ := R
  refine Calls.call_function_entry kind_sorted plain_sorted entry_sorted (args_sorted1 _) ?_
  unfold Builtin.«sorted»
  refine wpAny_bind (m := checkCount "sorted" 1 1 _) (wpAny_pure ?_)
  refine wpAny_bind (collect_set (A := A.in1) hh ⟨o, ho, hex.1, hd⟩ hf hb hr hl fun s1 vs k1 hz g1 o1 pm => ?_)
  have lv : vs.length = n := by rw [pm.length_eq, List.length_map, Array.length_toList]; exact hn
  have hI : IntsAre vs (vs.map SrtO.iv) := SrtO.ints_iv fun v hv => by
    obtain ⟨e, he, q⟩ := List.mem_map.mp (pm.mem_iff.mp hv)
    obtain ⟨k, tk, h1, _⟩ := g e he
    exact ⟨k, tk, by rw [← q]; exact h1⟩
  have keys : es.toList.map (fun e => SrtO.iv e.2) = es.toList.map keyOf := List.map_congr_left fun e he => by
    obtain ⟨k, tk, h1, _⟩ := g e he
    have z : keyOf e = Builtin.Re.reRawOf e.2 := rfl
    rw [z, h1] <;> rfl
  have pk : (vs.map SrtO.iv).Perm (es.toList.map keyOf) := by
    have q := pm.map SrtO.iv
    rw [List.map_map] at q
    rw [← keys]
    exact q
  have zz : vs.length ≤ sizeLine := by rw [lv, ← hn, sizeLine_eq]; unfold scanBound at hb; omega
  refine wpAny_bind (wpAny_newList ?_ zz)
  have hoL : (s1.heap.push (seqObj "list" vs.toArray 0)).get? s1.heap.objs.size = some (seqObj "list" vs.toArray 0) := Heap.get?_push_size _ rfl
  refine wpAny_bind (wpAny_holding (wpAny_call_entry PyProof.Rows.slot_list_sort ⟨_, hoL, rfl⟩ PyProof.Rows.entry_list_sort
    (SrtO.list_sort_ord (s := { s1 with heap := s1.heap.push (seqObj "list" vs.toArray 0) }) SrtO.swo_int hoL zz (fun h2 => SrtO.ints_sortable hI h2) fun out h1 h2 => ⟨_, rfl, ?_⟩) (PyProof.Rows.args_list_sort _)))
  obtain ⟨a1, a2, a3⟩ := SrtO.ints_out hI h1 h2
  obtain ⟨c, hc⟩ := PyProof.Rows.sortedHeap_at (vs := vs) (out := out.toArray) hoL
  have pn : (out.map SrtO.iv).Perm (es.toList.map keyOf) := a2.trans pk
  refine wpAny_pure ⟨_, rfl, hQ _ s1.heap.objs.size out c _ (fun b u e => ?_) g1 o1 hz hc a1 (lt_of_le_nodup _ a3 (pn.nodup_iff.mpr nd)) (fun k => by rw [pn.mem_iff, ← hm k]) ?_⟩
  · have lt := Heap.lt_size (k1 b u e)
    show (sortedHeap (s1.heap.push (seqObj "list" vs.toArray 0)) s1.heap.objs.size vs _).get? b = some u
    rw [sortedHeap_old (Nat.ne_of_lt lt) (by rw [size_push']; exact Nat.lt_succ_of_lt lt)]
    exact Heap.get?_push_of_some _ (k1 b u e)
  · rw [pn.length_eq, List.length_map, Array.length_toList]; exact hn
end
section
variable {X : Cx}
/-- set(ints), of a list or a tuple -/
def rSetI (K : PySem.W.Frag) (w : World) : List V → Hp → VK → Prop := fun xs H Q => ∃ (l : Addr) (ns : List Int), xs = [V.ref l] ∧ (SqL K H l (ns.map V.int) ∨ SqT K H l (ns.map V.int)) ∧ ns.length < 4000 ∧
  ∀ (a : Addr) (n : Nat), n ≤ ns.length → H a = none → Q (.ref a) (upd H a (SetO w a (fun j => decide (j ∈ ns)) n))
theorem cr_setI (hc : X.calm = true) : CallR X (.type "set") (rSetI X.K X.w) := by
  intro pins s σ H xs us Q I r h
  obtain ⟨l, ns, rfl, hs, few, q⟩ := h
  rw [Vals.ref1 r]
  have hn : H s.heap.objs.size = none := I.hok.fresh (Nat.le_refl _)
  have fin : ∀ (h' : Heap) (tk c : Nat), SetR X.w h' s.heap.objs.size (fun j => decide (j ∈ ns)) c → c ≤ ns.length → (∀ b o, s.heap.get? b = some o → h'.get? b = some o) →
      EP X pins σ Q (.ref s.heap.objs.size) { s with heap := h', toks := tk } := fun h' tk c R le k =>
    ⟨.ref _, _, I.laid (t' := tk) k (Nat.le_refl _) (setO_new R), rfl, q _ c le hn⟩
  rcases hs with hs | hs
  · obtain ⟨its, rv, hl, hz⟩ := I.list hs
    exact set_ints_list ns (I.ok.hd hc) hl.isList (by simpa using rv.ints) (by unfold scanBound; omega) fin
  · obtain ⟨its, rv, hl, hz⟩ := I.tuple hs
    exact call_set_tupI ns (I.ok.hd hc) hl (by simpa using rv.ints) (by unfold scanBound; omega) fin
/-- sorted(set of ints) -/
def rSortI (w : World) : List V → Hp → VK → Prop := fun vs H Q => ∃ (a : Addr) (S : Int → Bool) (n : Nat), vs = [V.ref a] ∧ H a = some (SetO w a S n) ∧ n ≤ 4096 ∧
  ∀ (ns : List Int) (p : Addr), ns.Pairwise (· < ·) → (∀ k : Int, k ∈ ns ↔ S k = true) → ns.length = n → H p = none → Q (.ref p) (upd H p (.lst (ns.map V.int)))
theorem cr_sortI (hc : X.calm = true) : CallR X (.builtin "sorted") (rSortI X.w) := by
  intro pins s σ H vs us Q I r h
  obtain ⟨a, S, n, rfl, ha, few, q⟩ := h
  rw [Vals.ref1 r]
  refine sorted_ints (setO_get I ha) (I.ok.hd hc) fun s' p out c ns k g o hp hg hi hs hm hl => ?_
  have hlen : (ns.map V.int).length ≤ sizeLine := by rw [List.length_map, hl, sizeLine_eq]; omega
  have hn : H p = none := I.hok.fresh hp
  have J : Inv X pins σ (upd H p (.lst (ns.map V.int))) { s with heap := s'.heap, gens := s'.gens, drawn := s'.drawn, toks := s'.toks } :=
    I.call (ch := []) (Un.laid k hp hn) (I.hok.laid k hp ⟨hlen, out, c, vals_of_ints hi, hg⟩) (by rw [g]; exact I.bare) (fun _ z => nomatch z)
  have e : s' = { s with heap := s'.heap, gens := s'.gens, drawn := s'.drawn, toks := s'.toks } := by
    cases s'; cases s; cases o; rfl
  rw [e]
  exact ⟨.ref p, _, J, rfl, q ns p hs hm hl hn⟩
end
end Sx

set_option Elab.async false
set_option maxRecDepth 100000
set_option maxHeartbeats 4000000
namespace Mk
open PySem L2 Pk
def Rl.key (r : Rl) : List Key := [.inl r.st, .inr r.sg, .inr r.tp, .inl r.af, .inl r.mv, .inr r.de, .inr r.sy, .inr r.sa]
theorem key_vs (r : Rl) : r.key.map kV = r.vs := rfl
def unkey : List Key → Rl
  | [.inl st, .inr sg, .inr tp, .inl af, .inl mv, .inr de, .inr sy, .inr sa] => ⟨st, sg, tp, af, mv, de, sy, sa⟩
  | _ => ⟨0, nil0, nil0, 0, 0, nil0, nil0, nil0⟩
theorem unkey_key (r : Rl) : unkey r.key = r := rfl
theorem key_inj {r q : Rl} (h : r.key = q.key) : r = q := by rw [← unkey_key r, h, unkey_key]
abbrev sh8 : List Bool := [false, false, true, true, false, false, false]
theorem shp_key (r : Rl) : Sx.shp r.key = true :: sh8 := rfl
def ltI (a b : Int) : Bool := decide (a < b)
theorem lin_int : Sx.Lin ltI where
  irr := fun x => decide_eq_false (Int.lt_irrefl x)
  tr := fun x y z h1 h2 => decide_eq_true (Int.lt_trans (of_decide_eq_true h1) (of_decide_eq_true h2))
  tot := fun x y ne => by
    rcases Int.lt_trichotomy x y with c | c | c
    · exact .inl (decide_eq_true c)
    · exact absurd c ne
    · exact .inr (decide_eq_true c)
/-- the rules, rising, each once -/
def rulesOf (rs : List Rl) : List Rl := (Sx.asc Sx.ltT (rs.map Rl.key)).map unkey
theorem rulesOf_keys (rs : List Rl) : (rulesOf rs).map Rl.key = Sx.asc Sx.ltT (rs.map Rl.key) := by
  unfold rulesOf
  rw [List.map_map]
  have e : ∀ k ∈ Sx.asc Sx.ltT (rs.map Rl.key), (Rl.key ∘ unkey) k = k := fun k m => by
    obtain ⟨r, _, rfl⟩ := List.mem_map.mp ((Sx.asc_mem Sx.ltT (rs.map Rl.key) k).mp m)
    rfl
  conv => rhs; rw [← List.map_id (Sx.asc Sx.ltT (rs.map Rl.key))]
  exact List.map_congr_left e
def intsOf (ys : List Int) : List Int := Sx.asc ltI ys
theorem ints_are {ns ys : List Int} (h : ns.Pairwise (· < ·)) (e : ∀ k, k ∈ ns ↔ k ∈ ys) : ns = intsOf ys :=
  lin_int.is_asc (h.imp fun lt => Int.ne_of_lt lt) (h.imp fun {x y} lt => decide_eq_false (by omega)) e
/-- a machine as it is kept -/
structure MachAt (K : PySem.W.Frag) (H : Hp) (C x : Addr) (l : PySem.Str) (n : Int) (rs : List Rl) (ys : List Int) : Prop where
  ex : ∃ (dx aR aY aS aA : Addr) (g : V) (R : Kept), H x = some (.ins C dx [("letters", .str l), ("states", .int n), ("rules", .ref aR), ("yes", .ref aY), ("symbols", .ref aS), ("_acts", .ref aA), ("guess", g)]) ∧
    H aR = some (.tup (refsK R)) ∧ KeptAt H R ∧ R.map (·.2) = rulesOf rs ∧ H aY = some (.tup ((intsOf ys).map V.int)) ∧ H aS = some (.tup ((symsOf (rulesOf rs)).map V.str)) ∧ ActsAt H aA (grps (rulesOf rs)) ∧ GuessV H g (guessOf (grps (rulesOf rs)))
theorem ltI_up {l : List Int} : True := trivial
abbrev sInit : Stmt := inClass (top 37) 0
abbrev nInit : List PySem.Str := ["self", "letters", "states", "rules", "yes", "rule"]
theorem scInit : FnScope nInit ["self", "letters", "states", "rules", "yes"] (defScope sInit) := ⟨rfl, rfl, rfl, by decide +kernel, rfl, by decide +kernel, by decide +kernel⟩
end Mk

set_option Elab.async false
set_option maxRecDepth 100000
set_option maxHeartbeats 4000000
namespace Mk
open PySem L2 Pk
/-- all but what stands at x is as it was -/
def Off (x : Addr) (H H' : Hp) : Prop := ∀ b o, b ≠ x → H b = some o → H' b = some o
theorem Off.refl (x : Addr) (H : Hp) : Off x H H := fun _ _ _ e => e
theorem Off.trans {x : Addr} {H H' H'' : Hp} (a : Off x H H') (b : Off x H' H'') : Off x H H'' := fun c o n e => b c o n (a c o n e)
theorem Off.same {x : Addr} {H H' : Hp} (s : Same H H') : Off x H H' := fun b o _ e => s b o e
theorem Off.put {x : Addr} {H : Hp} {o : HO} : Off x H (upd H x o) := fun b _ n e => by rw [upd_ne n]; exact e
theorem Off.new {x p : Addr} {H : Hp} {o : HO} (h : H p = none) : Off x H (upd H p o) := Off.same (same_new h)
def isIns : HO → Bool
  | .ins _ _ _ => true
  | _ => false
theorem off_ne {x b C dx : Addr} {H : Hp} {fs : List (PySem.Str × V)} {o : HO} (hx : H x = some (.ins C dx fs)) (hb : H b = some o) (n : isIns o = false) : b ≠ x := fun e => by
  rw [e, hx] at hb
  cases hb
  cases n
theorem SqB.off {b : Bool} {K : PySem.W.Frag} {H H' : Hp} {x a C dx : Addr} {fs : List (PySem.Str × V)} {xs : List V} (h : SqB b K H a xs) (hx : H x = some (.ins C dx fs)) (o : Off x H H') : SqB b K H' a xs := by
  cases b with
  | false =>
    rcases (show SqT K H a xs from h) with (h | ⟨ob, h⟩) | h
    · exact .inl (.inl (o _ _ (off_ne hx h rfl) h))
    · exact .inl (.inr ⟨ob, o _ _ (off_ne hx h rfl) h⟩)
    · exact .inr h
  | true =>
    rcases (show SqL K H a xs from h) with (h | ⟨ob, h⟩) | h
    · exact .inl (.inl (o _ _ (off_ne hx h rfl) h))
    · exact .inl (.inr ⟨ob, o _ _ (off_ne hx h rfl) h⟩)
    · exact .inr h
theorem KeptAt.off {H H' : Hp} {x C dx : Addr} {fs : List (PySem.Str × V)} {R : Kept} (h : KeptAt H R) (hx : H x = some (.ins C dx fs)) (o : Off x H H') : KeptAt H' R := fun p m => o _ _ (off_ne hx (h p m) rfl) (h p m)
theorem ActsAt.off {H H' : Hp} {x p C dx : Addr} {fs : List (PySem.Str × V)} {G : List Grp} (h : ActsAt H p G) (hx : H x = some (.ins C dx fs)) (o : Off x H H') : ActsAt H' p G := by
  obtain ⟨kvs, h1, h2⟩ := h
  exact ⟨kvs, o _ _ (off_ne hx h1 rfl) h1, Paired.mapP h2 fun a b z => z.mono fun c xs y => o _ _ (off_ne hx y rfl) y⟩
theorem GuessV.off {H H' : Hp} {x C dx : Addr} {fs : List (PySem.Str × V)} {v : V} {g : Option (List Key)} (h : GuessV H v g) (hx : H x = some (.ins C dx fs)) (o : Off x H H') : GuessV H' v g := by
  cases g with
  | none => exact h
  | some k =>
    obtain ⟨q, e, t⟩ := h
    exact ⟨q, e, o _ _ (off_ne hx t rfl) t⟩
/-- the class Machine -/
structure MCls (K : PySem.W.Frag) (C : Addr) : Prop where
  cls : Cls K C
  letters : NoAttr K C "letters"
  states : NoAttr K C "states"
  rules : NoAttr K C "rules"
  yes : NoAttr K C "yes"
  symbols : NoAttr K C "symbols"
  acts : NoAttr K C "_acts"
  guess : NoAttr K C "guess"
section
variable {P : Program} {w : World} {K : PySem.W.Frag} {mg : PySem.Str → Option Value} {base : Heap}
structure InitDefs (P : Program) (w : World) (K : PySem.W.Frag) (mg : PySem.Str → Option Value) (base : Heap) : Prop where
  check : Got P w K mg base "check_arguments" 5 ["letters", "states", "rules", "yes"] (spCheck K)
  symbols : Got P w K mg base "symbols_of" 1 ["rules"] (spSymbols K)
  acts : Got P w K mg base "acts_by_key" 1 ["rules"] (spActs K)
  guess : Got P w K mg base "first_guess" 1 ["acts"] spGuess
/-- what the arguments are, the tuples among the rules being such -/
structure Right (K : PySem.W.Frag) (H : Hp) (l : PySem.Str) (n : Int) (aR aY : Addr) (bR bY : Bool) (R : Hand) (ys : List Int) : Prop where
  args : ArgsOk K H l n aR aY bR bY R ys
  raw : ∀ p ∈ R, p.2.1 = false → H p.1 = some (.tup p.2.2.vs)
  few : R.length ≤ 1900
  fewY : ys.length < 4000
def rsOf (R : Hand) : List Rl := R.map fun p => p.2.2
def spInit (K : PySem.W.Frag) (C : Addr) : Sp := fun vs H Q _ => ∃ (x dx : Addr) (l : PySem.Str) (n : Int) (aR aY : Addr) (bR bY : Bool) (R : Hand) (ys : List Int), vs = [.ref x, .str l, .int n, .ref aR, .ref aY] ∧ H x = some (.ins C dx []) ∧ Right K H l n aR aY bR bY R ys ∧
  ∀ H', Off x H H' → MachAt K H' C x l n (rsOf R) ys → Q .non H'
theorem ok_init {f C : Addr} {fd : FuncData} {params : Arguments} {dvs : List V} {kws : List (PySem.Str × V)} (F : FunD K "__init__" "Machine.__init__" params (defBody sInit) (defScope sInit) dvs kws f fd) (T : TM mg) (G : InitDefs P w K mg base) (M : MCls K C) :
    FnOk P w K mg base CX0 6 f fd ["self", "letters", "states", "rules", "yes"] (spInit K C) := by
  refine F.ok scInit (fun vs H Q E h => ?_) (fun cdv A outer s H vs Q E hr h => ?_)
  · obtain ⟨x, dx, l, n, aR, aY, bR, bY, R, ys, rfl, _⟩ := h
    rfl
  · obtain ⟨x, dx, l, n, aR, aY, bR, bY, R, ys, rfl, hx, a, k⟩ := h
    have h1 := hr.mono (show 1 ≤ 5 by decide)
    have hu64 := hr.units
    refine ⟨_, pss_cons (ps_expr (pe_got G.check hr (by rfl) (pa_cons (pv 1) (pa_cons (pv 2) (pa_cons (pv 3) (pa_cons (pv 4) pa_nil))))))
      (pss_cons (ps_fld (pv 0) (pv 1) rfl)
      (pss_cons (ps_fld (pv 0) (pv 2) rfl)
      (pss_cons (ps_fld (pv 0) (pe_callTy call_tuple_of (by rfl) T.tuple PyProof.Rows.Boot.tuple (pa_cons (pe_callB (Sx.cr_sortMS rfl) (by rfl) T.sorted (by decide +kernel) (pa_cons (Sx.pe_sm (own := [("rule", 5)]) (g := gName 5) (tt := tYes) hu64 (by rfl) scInit.nd (pi_sq bR (pv 3))
          (blkOk_by (own := [("rule", 5)]) (N := nInit) (sc := defScope sInit) (by decide +kernel))
          (fun _ _ _ _ _ => pg_name (i := 5) scInit.nd rfl (Or.inl rfl)) (fun _ _ _ _ _ => pts_nil)
          (fun _ _ _ _ _ => pe_callTy (r := rTupOf K) call_tuple_of (by rfl) T.tuple PyProof.Rows.Boot.tuple (pa_cons (pv 5) pa_nil))) pa_nil)) pa_nil)) rfl)
      (pss_cons (ps_fld (pv 0) (pe_callTy call_tuple_of (by rfl) T.tuple PyProof.Rows.Boot.tuple (pa_cons (pe_callB (Sx.cr_sortI rfl) (by rfl) T.sorted (by decide +kernel) (pa_cons (pe_callTy (Sx.cr_setI rfl) (by rfl) T.set PyProof.Rows.Boot.set (pa_cons (pv 4) pa_nil)) pa_nil)) pa_nil)) rfl)
      (pss_cons (ps_fld (pv 0) (pe_got G.symbols h1 (by rfl) (pa_cons (pe_fld (pv 0) rfl) pa_nil)) rfl)
      (pss_cons (ps_fld (pv 0) (pe_got G.acts h1 (by rfl) (pa_cons (pe_fld (pv 0) rfl) pa_nil)) rfl)
      (pss_one (ps_fld (pv 0) (pe_got G.guess h1 (by rfl) (pa_cons (pe_fld (pv 0) rfl) pa_nil)) rfl)))))))), ?_⟩
    refine ⟨_, rfl, _, rfl, _, rfl, _, rfl, l, n, aR, aY, bR, bY, R, ys, rfl, a.args, fun H1 s1 => ?_⟩
    have hx1 := s1 _ _ hx
    refine ⟨_, rfl, _, rfl, x, C, dx, _, rfl, hx1, M.cls, M.letters, by decide, ?_⟩
    refine ⟨_, rfl, _, rfl, x, C, dx, _, rfl, upd_same, M.cls, M.states, (show 1 < 1000 by decide), ?_⟩
    have o3 : Off x H (upd (upd H1 x (.ins C dx [("letters", .str l)])) x (.ins C dx [("letters", .str l), ("states", .int n)])) := ((Off.same s1).trans Off.put).trans Off.put
    have hx3 : (upd (upd H1 x (.ins C dx [("letters", .str l)])) x (.ins C dx [("letters", .str l), ("states", .int n)])) x = some (.ins C dx [("letters", .str l), ("states", .int n)]) := upd_same
    show (tSeq _ _) _ _ (upd (upd H1 x (.ins C dx [("letters", .str l)])) x (.ins C dx [("letters", .str l), ("states", .int n)]))
    generalize upd (upd H1 x (.ins C dx [("letters", .str l)])) x (.ins C dx [("letters", .str l), ("states", .int n)]) = H3 at o3 hx3 ⊢
    have rs3 : SqB bR K H3 aR (refsH R) := a.args.rs.off hx o3
    have lR : (refsH R).length = R.length := List.length_map ..
    refine isq_of ⟨_, rfl, aR, rfl, ⟨_, rs3⟩, fun D hD => Sx.sm_it (walk_sq (b := bR) (K := K) (a := aR) (xs := refsH R)) (fun i H' => Same H3 H' ∧ ∃ L : Sx.Rows, H' D = some (Sx.MSetO P w D L) ∧ Sx.TupsIn H' L ∧ L.length ≤ i ∧
        (L.map (·.2)).Nodup ∧ ∀ c, c ∈ L.map (·.2) ↔ c ∈ (R.take i).map fun p => p.2.2.key)
      ⟨same_new hD, [], upd_same, fun p m => absurd m List.not_mem_nil, Nat.le_refl _, List.nodup_nil, fun c => by simp⟩ (fun i H' _ h => rs3.mono h.1) ?_ ?_⟩
    · rintro i y H4 H5 hi ⟨s4, L, hL, tL, lL, ndL, mL⟩ ⟨rfl, ey⟩
      rw [lR] at hi
      have hp : R[i]? = some R[i] := List.getElem?_eq_getElem hi
      have ey' : y = .ref R[i].1 := by
        unfold refsH at ey
        rw [List.getElem?_map, hp] at ey
        exact (Option.some.inj ey).symm
      subst ey'
      have m : R[i] ∈ R := List.getElem_mem hi
      have few := a.few
      have o4 : Off x H H5 := o3.trans (Off.same s4)
      have sq := (a.args.hand.at_ _ m).off hx o4
      -- the turn's end, the tuple at t
      have fin : ∀ (H6 : Hp) (t : Addr), Same H5 H6 → H6 t = some (.tup (R[i].2.2.key.map kV)) → ∃ (x : Addr) (k : List Key) (L : Sx.Rows), V.ref t = .ref x ∧ H6 x = some (.tup (k.map kV)) ∧ H6 D = some (Sx.MSetO P w D L) ∧ Sx.TupsIn H6 L ∧ L.length + 1 ≤ 2000 ∧
          ∀ L2 : Sx.Rows, (k ∈ L.map (·.2) → L2 = L) → (k ∉ L.map (·.2) → L2.Perm ((x, k) :: L)) → Same H3 (upd H6 D (Sx.MSetO P w D L2)) ∧ ∃ L' : Sx.Rows, (upd H6 D (Sx.MSetO P w D L2)) D = some (Sx.MSetO P w D L') ∧ Sx.TupsIn (upd H6 D (Sx.MSetO P w D L2)) L' ∧ L'.length ≤ i + 1 ∧
            (L'.map (·.2)).Nodup ∧ ∀ c, c ∈ L'.map (·.2) ↔ c ∈ (R.take (i + 1)).map fun p => p.2.2.key := fun H6 t s6 ht => by
        refine ⟨t, R[i].2.2.key, L, rfl, ht, s6 _ _ hL, fun p mp => s6 _ _ (tL p mp), by omega, fun L2 c1 c2 => ⟨same_mut (s4.trans s6) hD, L2, upd_same, ?_, ?_, ?_, ?_⟩⟩
        · intro p mp
          have tup : H6 p.1 = some (.tup (p.2.map kV)) := by
            rcases Classical.em (R[i].2.2.key ∈ L.map (·.2)) with c | c
            · rw [c1 c] at mp
              exact s6 _ _ (tL p mp)
            · rcases List.mem_cons.mp ((c2 c).mem_iff.mp mp) with e | mp
              · rw [e]; exact ht
              · exact s6 _ _ (tL p mp)
          rw [upd_ne (ne_of tup (s6 _ _ hL) (fun z => nomatch z))]
          exact tup
        · rcases Classical.em (R[i].2.2.key ∈ L.map (·.2)) with c | c
          · rw [c1 c]; omega
          · rw [(c2 c).length_eq, List.length_cons]; omega
        · rcases Classical.em (R[i].2.2.key ∈ L.map (·.2)) with c | c
          · rw [c1 c]; exact ndL
          · exact ((c2 c).map (·.2)).nodup_iff.mpr (List.nodup_cons.mpr ⟨c, ndL⟩)
        · intro c0
          rw [take_at hp, List.map_append, List.mem_append, ← mL c0]
          rcases Classical.em (R[i].2.2.key ∈ L.map (·.2)) with c | c
          · rw [c1 c]
            constructor
            · exact .inl
            · rintro (z | z)
              · exact z
              · rw [List.mem_singleton.mp z]; exact c
          · rw [((c2 c).map (·.2)).mem_iff, List.map_cons, List.mem_cons, List.map_cons, List.map_nil, List.mem_singleton]
            exact Or.comm
      refine ⟨rfl, ?_⟩
      refine ⟨_, rfl, R[i].1, R[i].2.2.vs, rfl, ?_⟩
      rcases eb : R[i].2.1 with _ | _
      · rw [eb] at sq
        exact .inr ⟨sq, fin H5 _ (fun _ _ z => z) (o4 _ _ (off_ne hx (a.raw _ m eb) rfl) (a.raw _ m eb))⟩
      · rw [eb] at sq
        exact .inl ⟨sq, fun t ht => fin _ t (same_new ht) upd_same⟩
    · rintro H4 ⟨s4, L, hL, tL, lL, ndL, mL⟩
      rw [lR, List.take_of_length_le (Nat.le_refl _)] at mL
      have keyOfRule : ∀ p ∈ L, ∃ r : Rl, p.2 = r.key := fun p mp => by
        obtain ⟨q, _, e⟩ := List.mem_map.mp ((mL p.2).mp (List.mem_map.mpr ⟨p, mp, rfl⟩))
        exact ⟨q.2.2, e.symm⟩
      refine ⟨D, L, true, sh8, rfl, hL, tL, fun p mp => by obtain ⟨r, e⟩ := keyOfRule p mp; rw [e]; exact shp_key r, fun L2 p5 pm nd2 up hp5 => ?_⟩
      refine ⟨p5, _, rfl, .inl ⟨SqL.of upd_same, fun q5 hq5 => ?_⟩⟩
      -- the kept rules
      have keys2 : L2.map (·.2) = (rulesOf (rsOf R)).map Rl.key := by
        rw [rulesOf_keys]
        refine Sx.lin_tup.is_asc nd2 (List.pairwise_map.mpr up) fun c => ?_
        rw [(pm.map (·.2)).mem_iff, mL c]
        unfold rsOf
        rw [List.map_map] <;> rfl
      have key2 : ∀ p ∈ L2, (unkey p.2).key = p.2 := fun p mp => by
        obtain ⟨r, e⟩ := keyOfRule p (pm.mem_iff.mp mp)
        rw [e, unkey_key]
      let K2 : Kept := L2.map fun p => (p.1, unkey p.2)
      have refs2 : refsK K2 = Sx.refsOf L2 := by
        show (L2.map _).map _ = L2.map _
        rw [List.map_map] <;> rfl
      have rules2 : K2.map (·.2) = rulesOf (rsOf R) := by
        have z := congrArg (List.map unkey) keys2
        rw [List.map_map, List.map_map] at z
        have e1 : (unkey ∘ Rl.key) = id := by funext r; rfl
        rw [e1, List.map_id] at z
        show (L2.map _).map _ = _
        rw [List.map_map]
        exact z
      have s6 : Same H3 (upd (upd H4 p5 (.lst (Sx.refsOf L2))) q5 (.tup (Sx.refsOf L2))) := (s4.trans (same_new hp5)).trans (same_new hq5)
      have kept6 : KeptAt (upd (upd H4 p5 (.lst (Sx.refsOf L2))) q5 (.tup (Sx.refsOf L2))) K2 := fun p mp => by
        obtain ⟨p0, m0, rfl⟩ := List.mem_map.mp mp
        have z := ((same_new hp5).trans (same_new (o := .tup (Sx.refsOf L2)) hq5)) _ _ (tL p0 (pm.mem_iff.mp m0))
        show _ = some (HO.tup ((unkey p0.2).vs))
        rw [← key_vs, key2 p0 m0]
        exact z
      have at6 : (upd (upd H4 p5 (.lst (Sx.refsOf L2))) q5 (.tup (Sx.refsOf L2))) q5 = some (.tup (refsK K2)) := by rw [upd_same, refs2]
      have most2 : (rulesOf (rsOf R)).length ≤ 20000 := by
        unfold rulesOf
        rw [List.length_map]
        refine Nat.le_trans (Sx.asc_len _ _) ?_
        rw [List.length_map]
        unfold rsOf
        rw [List.length_map]
        have := a.few
        omega
      have lK2 : K2.length ≤ 20000 := by
        have z := congrArg List.length rules2
        rw [List.length_map] at z
        omega
      generalize upd (upd H4 p5 (.lst (Sx.refsOf L2))) q5 (.tup (Sx.refsOf L2)) = H6 at s6 kept6 at6 ⊢
      clear_value K2
      have hx6 := s6 _ _ hx3
      refine ⟨_, rfl, x, C, dx, _, rfl, hx6, M.cls, M.rules, (show 2 < 1000 by decide), ?_⟩
      have o7 : Off x H6 (upd H6 x (.ins C dx [("letters", .str l), ("states", .int n), ("rules", .ref q5)])) := Off.put
      have hx7 : (upd H6 x (.ins C dx [("letters", .str l), ("states", .int n), ("rules", .ref q5)])) x = some (.ins C dx [("letters", .str l), ("states", .int n), ("rules", .ref q5)]) := upd_same
      show (tSeq _ _) _ _ (upd H6 x (.ins C dx [("letters", .str l), ("states", .int n), ("rules", .ref q5)]))
      generalize upd H6 x (.ins C dx [("letters", .str l), ("states", .int n), ("rules", .ref q5)]) = H7 at o7 hx7 ⊢
      have oH7 : Off x H H7 := (o3.trans (Off.same s6)).trans o7
      have kept7 := kept6.off hx6 o7
      have at7 := o7 _ _ (off_ne hx6 at6 rfl) at6
      have yes7 := a.args.yes.off hx oH7
      refine ⟨_, rfl, aY, ys, rfl, yes7.any, a.fewY, fun aS c le hn => ⟨aS, _, c, rfl, upd_same, by have := a.fewY; omega, fun ns p8 upn mem len hp8 => ?_⟩⟩
      refine ⟨p8, _, rfl, .inl ⟨SqL.of upd_same, fun q8 hq8 => ?_⟩⟩
      have ens : ns = intsOf ys := ints_are upn fun k => by rw [mem k, decide_eq_true_eq]
      subst ens
      have s8 : Same H7 (upd (upd (upd H7 aS (SetO w aS (fun j => decide (j ∈ ys)) c)) p8 (.lst ((intsOf ys).map V.int))) q8 (.tup ((intsOf ys).map V.int))) := ((same_new hn).trans (same_new hp8)).trans (same_new hq8)
      have at8 : (upd (upd (upd H7 aS (SetO w aS (fun j => decide (j ∈ ys)) c)) p8 (.lst ((intsOf ys).map V.int))) q8 (.tup ((intsOf ys).map V.int))) q8 = some (.tup ((intsOf ys).map V.int)) := upd_same
      show (tVar 0) _ (upd (upd (upd H7 aS (SetO w aS (fun j => decide (j ∈ ys)) c)) p8 (.lst ((intsOf ys).map V.int))) q8 (.tup ((intsOf ys).map V.int))) _
      generalize upd (upd (upd H7 aS (SetO w aS (fun j => decide (j ∈ ys)) c)) p8 (.lst ((intsOf ys).map V.int))) q8 (.tup ((intsOf ys).map V.int)) = H8 at s8 at8 ⊢
      have hx8 := s8 _ _ hx7
      refine ⟨_, rfl, x, C, dx, _, rfl, hx8, M.cls, M.yes, (show 3 < 1000 by decide), ?_⟩
      have o9 : Off x H8 (upd H8 x (.ins C dx [("letters", .str l), ("states", .int n), ("rules", .ref q5), ("yes", .ref q8)])) := Off.put
      have hx9 : (upd H8 x (.ins C dx [("letters", .str l), ("states", .int n), ("rules", .ref q5), ("yes", .ref q8)])) x = some (.ins C dx [("letters", .str l), ("states", .int n), ("rules", .ref q5), ("yes", .ref q8)]) := upd_same
      show (tSeq _ _) _ _ (upd H8 x (.ins C dx [("letters", .str l), ("states", .int n), ("rules", .ref q5), ("yes", .ref q8)]))
      generalize upd H8 x (.ins C dx [("letters", .str l), ("states", .int n), ("rules", .ref q5), ("yes", .ref q8)]) = H9 at o9 hx9 ⊢
      have o79 : Off x H7 H9 := (Off.same s8).trans o9
      have kept9 := kept7.off hx7 o79
      have at9 := o79 _ _ (off_ne hx7 at7 rfl) at7
      have atY9 := o9 _ _ (off_ne hx8 at8 rfl) at8
      -- symbols
      refine ⟨_, rfl, x, C, dx, _, .ref q5, rfl, hx9, M.cls, M.rules, rfl, q5, K2, rfl, .inl (.inl at9), kept9, lK2, fun H10 pS s10 hpS hS10 => ?_⟩
      have hx10 := s10 _ _ hx9
      refine ⟨_, rfl, x, C, dx, _, rfl, hx10, M.cls, M.symbols, (show 4 < 1000 by decide), ?_⟩
      have o11 : Off x H10 (upd H10 x (.ins C dx [("letters", .str l), ("states", .int n), ("rules", .ref q5), ("yes", .ref q8), ("symbols", .ref pS)])) := Off.put
      have hx11 : (upd H10 x (.ins C dx [("letters", .str l), ("states", .int n), ("rules", .ref q5), ("yes", .ref q8), ("symbols", .ref pS)])) x = some (.ins C dx [("letters", .str l), ("states", .int n), ("rules", .ref q5), ("yes", .ref q8), ("symbols", .ref pS)]) := upd_same
      show (tSeq _ _) _ _ (upd H10 x (.ins C dx [("letters", .str l), ("states", .int n), ("rules", .ref q5), ("yes", .ref q8), ("symbols", .ref pS)]))
      generalize upd H10 x (.ins C dx [("letters", .str l), ("states", .int n), ("rules", .ref q5), ("yes", .ref q8), ("symbols", .ref pS)]) = H11 at o11 hx11 ⊢
      have o911 : Off x H9 H11 := (Off.same s10).trans o11
      have kept11 := kept9.off hx9 o911
      have at11 := o911 _ _ (off_ne hx9 at9 rfl) at9
      have atY11 := o911 _ _ (off_ne hx9 atY9 rfl) atY9
      have atS11 := o11 _ _ (off_ne hx10 hS10 rfl) hS10
      -- acts
      refine ⟨_, rfl, x, C, dx, _, .ref q5, rfl, hx11, M.cls, M.rules, rfl, q5, K2, rfl, .inl (.inl at11), kept11, lK2, fun H12 pA s12 hpA hA12 => ?_⟩
      have hx12 := s12 _ _ hx11
      refine ⟨_, rfl, x, C, dx, _, rfl, hx12, M.cls, M.acts, (show 5 < 1000 by decide), ?_⟩
      have o13 : Off x H12 (upd H12 x (.ins C dx (putF "_acts" (.ref pA) [("letters", .str l), ("states", .int n), ("rules", .ref q5), ("yes", .ref q8), ("symbols", .ref pS)]))) := Off.put
      have hx13 : (upd H12 x (.ins C dx (putF "_acts" (.ref pA) [("letters", .str l), ("states", .int n), ("rules", .ref q5), ("yes", .ref q8), ("symbols", .ref pS)]))) x = some (.ins C dx [("letters", .str l), ("states", .int n), ("rules", .ref q5), ("yes", .ref q8), ("symbols", .ref pS), ("_acts", .ref pA)]) := upd_same
      generalize upd H12 x (.ins C dx (putF "_acts" (.ref pA) [("letters", .str l), ("states", .int n), ("rules", .ref q5), ("yes", .ref q8), ("symbols", .ref pS)])) = H13 at o13 hx13 ⊢
      have o1113 : Off x H11 H13 := (Off.same s12).trans o13
      have acts13 := hA12.off hx12 o13
      rw [rules2] at hS10 hA12 acts13 atS11
      -- guess
      refine ⟨_, rfl, x, C, dx, _, .ref pA, rfl, hx13, M.cls, M.acts, rfl, pA, _, rfl, acts13, by rw [grps_keys]; exact Sx.once_nodup _, fun g gm => Nat.le_trans (grps_len _ g gm) most2, fun gv hg => ?_⟩
      refine ⟨_, rfl, x, C, dx, _, rfl, hx13, M.cls, M.guess, (show 6 < 1000 by decide), ?_⟩
      have o14 : Off x H13 (upd H13 x (.ins C dx [("letters", .str l), ("states", .int n), ("rules", .ref q5), ("yes", .ref q8), ("symbols", .ref pS), ("_acts", .ref pA), ("guess", gv)])) := Off.put
      have o1114 := o1113.trans o14
      show Q .non (upd H13 x (.ins C dx [("letters", .str l), ("states", .int n), ("rules", .ref q5), ("yes", .ref q8), ("symbols", .ref pS), ("_acts", .ref pA), ("guess", gv)]))
      refine k _ ((oH7.trans o79).trans (o911.trans o1114)) ⟨dx, q5, q8, pS, pA, gv, K2, upd_same, ?_, kept11.off hx11 o1114, rules2, ?_, ?_, acts13.off hx13 o14, hg.off hx13 o14⟩
      · exact o1114 _ _ (off_ne hx11 at11 rfl) at11
      · exact o1114 _ _ (off_ne hx11 atY11 rfl) atY11
      · exact o1114 _ _ (off_ne hx11 atS11 rfl) atS11
end
end Mk

set_option Elab.async false
set_option maxRecDepth 100000
set_option maxHeartbeats 4000000
namespace Mk
open PySem L2 Pk
abbrev sWhole : Stmt := top 44
abbrev sSame : Stmt := top 45
abbrev sCell : Stmt := top 46
abbrev sDigits : Stmt := top 47
abbrev sAlpha : Stmt := top 48
abbrev sSyms : Stmt := top 49
abbrev sAct : Stmt := top 50
abbrev sCaller : Stmt := top 51
abbrev sScanner : Stmt := top 52
abbrev sRestorer : Stmt := top 53
abbrev sClimber : Stmt := top 54
abbrev sMachine : Stmt := top 55
abbrev sByState : Stmt := top 39
abbrev sLook : Stmt := top 40
abbrev sLike : Stmt := top 42
abbrev sAscend : Stmt := top 57
abbrev sFound : Stmt := top 58
abbrev sGuessL : Stmt := top 59
abbrev sIs : Stmt := top 60
abbrev sHand : Stmt := top 61
abbrev sSmall : Stmt := top 62
abbrev sMore : Stmt := top 63
abbrev sCopies : Stmt := top 64
abbrev sRing : Stmt := top 65
abbrev sDoes : Stmt := top 66
abbrev sJudge : Stmt := top 67
abbrev sCoarse : Stmt := top 68
abbrev sTries : Stmt := top 69
abbrev sLaw : Stmt := top 70
section
variable {P : Program} {w : World} {K : PySem.W.Frag} {mg : PySem.Str → Option Value} {base : Heap}
/-! _law_cell: some int -/
theorem small100k {n : Nat} (h : n ≤ 100000) : n < sizeLine := Nat.lt_of_le_of_lt h (by decide)
def spCellA (K : PySem.W.Frag) : Sp := fun vs H Q _ => ∃ (l : Addr) (ns : List Int) (j : Nat), vs = [.ref l, .int (j : Int)] ∧ SqL K H l (ns.map V.int) ∧ ∀ z, Q (.int z) H
theorem scCell : FnScope ["script", "k", "seed", "cell"] ["script", "k"] (defScope sCell) := ⟨rfl, rfl, rfl, by decide +kernel, rfl, by decide +kernel, by decide +kernel⟩
theorem ok_cell {f : Addr} {fd : FuncData} (F : Fun K "_law_cell" "_law_cell" sCell f fd) (T : TM mg) : FnOk P w K mg base CX0 1 f fd ["script", "k"] (spCellA K) := by
  refine F.ok scCell (fun vs H Q E h => ?_) (fun cdv A outer s H vs Q E hr h => ?_)
  · obtain ⟨l, ns, j, rfl, _⟩ := h
    rfl
  · obtain ⟨l, ns, j, rfl, hS, k⟩ := h
    refine ⟨_, pss_cons (ps_if (pt_cmp (pc_lt (pv 1) (pe_callB call_len_seq (by rfl) T.len PySem.boot_len (pa_cons (pv 0) pa_nil)))) (pss_one (ps_ret (pe_ix ix_list (pv 0) (pv 1) fun _ _ => rfl))) pss_nil)
      (pss_cons (ps_set (i := 2) scCell.nd rfl (Or.inl rfl) pe_int)
      (pss_cons (ps_for PassesOwn.never rfl (pi_list (pv 0)) (pg_name (i := 3) scCell.nd rfl (Or.inl rfl))
        (pss_one (ps_set (i := 2) scCell.nd rfl (Or.inl rfl) (pe_op op_mod (pe_callTy call_int1 (by rfl) T.int PyProof.Rows.Boot.int (pa_cons (pe_op op_add (pe_op op_mul (pv 2) pe_int)
          (pe_op op_mod (pe_callTy call_int1 (by rfl) T.int PyProof.Rows.Boot.int (pa_cons (pv 3) pa_nil)) pe_int)) pa_nil)) pe_int))))
      (pss_one (ps_ret (pe_op op_mod (pe_callTy call_int1 (by rfl) T.int PyProof.Rows.Boot.int (pa_cons (pe_op op_mul (pe_op op_mul (pe_op op_add (pv 2) pe_int) (pe_op op_add (pv 1) pe_int)) pe_int) pa_nil)) pe_int))))), ?_⟩
    refine ⟨_, rfl, _, rfl, l, _, rfl, .inl hS, _, _, rfl, rfl, _, rfl, ?_⟩
    refine ite2 (fun c => ?_) (fun c => ?_)
    · have c' := of_decide_eq_true c
      rw [List.length_map] at c'
      have ej : (ns.map V.int)[j]? = some (V.int ns[j]) := by rw [List.getElem?_map, List.getElem?_eq_getElem (by omega)]; rfl
      exact ⟨_, rfl, _, rfl, l, _, _, _, rfl, rfl, hS, atI_nat ej, k _⟩
    · refine ⟨_, rfl, l, rfl, ⟨_, hS⟩, for_list (K := K) (a := l) (xs := ns.map V.int) (fun i σ H' => H' = H ∧ ∃ (z : Int) (v : Option V), σ = [some (.ref l), some (.int j), some (.int z), v] ∧ 0 ≤ z ∧ z < 1000003)
        ⟨rfl, 17, none, rfl, by decide, by decide⟩ (fun i σ H' _ h => by rw [h.1]; exact hS) ?_ ?_⟩
      · rintro i y σ H' hi ⟨rfl, z, v, rfl, hz0, hz1⟩
        obtain ⟨u, _, rfl⟩ := mapInt hi
        refine ⟨_, rfl, _, _, rfl, rfl, .inl (by omega), _, rfl, .inl ⟨_, rfl, _, _, rfl, rfl, (by show (0 : Int) < 1000003; decide), _, _, rfl, rfl, .inl ⟨_, rfl, _, _, rfl, rfl, (by show (0 : Int) < 1000003; decide), ?_⟩⟩⟩
        exact ⟨rfl, _, _, rfl, Int.emod_nonneg _ (by decide), Int.emod_lt_of_pos _ (by decide)⟩
      · rintro σ H' ⟨rfl, z, v, rfl, hz0, hz1⟩
        refine ⟨_, rfl, _, _, rfl, rfl, _, rfl, _, _, rfl, rfl, _, _, rfl, rfl, .inl (by omega), _, _, rfl, rfl, .inr (by decide), .inl ⟨_, rfl, _, _, rfl, rfl, (by show (0 : Int) < 2147483647; decide), ?_⟩⟩
        exact k _
end
end Mk

set_option Elab.async false
set_option maxRecDepth 100000
set_option maxHeartbeats 4000000
namespace Mk
open PySem L2 Pk
section
variable {P : Program} {w : World} {K : PySem.W.Frag} {mg : PySem.Str → Option Value} {base : Heap}
/-! _law_digits: so many digits, each below its size -/
def Digs (sizes row : List Int) : Prop := row.length = sizes.length ∧ ∀ (i : Nat) (s : Int), sizes[i]? = some s → ∃ d, row[i]? = some d ∧ 0 ≤ d ∧ d < s
def spDigits (K : PySem.W.Frag) : Sp := fun vs H Q _ => ∃ (c : Int) (l : Addr) (sizes : List Int), vs = [.int c, .ref l] ∧ SqL K H l (sizes.map V.int) ∧ sizes.length ≤ 10000 ∧ (∀ s ∈ sizes, 0 < s ∧ s < 2 ^ 200) ∧
  ∀ (row : List Int) (p : Addr) (H' : Hp), Digs sizes row → H p = none → Same H H' → H' p = some (.lst (row.map V.int)) → Q (.ref p) H'
theorem map_snoc (row : List Int) (d : Int) : row.map V.int ++ [V.int d] = (row ++ [d]).map V.int := by rw [List.map_append]; rfl
theorem digs_nil : Digs [] [] := ⟨rfl, fun i s e => by simp at e⟩
theorem take_succ_of {α : Type} {l : List α} {i : Nat} {x : α} (h : l[i]? = some x) : l.take (i + 1) = l.take i ++ [x] := by
  rw [List.take_add_one, h]
  rfl
theorem digs_snoc {sizes row : List Int} {i : Nat} {s d : Int} (h : Digs (sizes.take i) row) (e : sizes[i]? = some s) (h0 : 0 ≤ d) (h1 : d < s) : Digs (sizes.take (i + 1)) (row ++ [d]) := by
  rw [take_succ_of e]
  obtain ⟨hl, hd⟩ := h
  refine ⟨by rw [List.length_append, List.length_append, hl]; rfl, fun j t ej => ?_⟩
  by_cases c : j < (sizes.take i).length
  · rw [List.getElem?_append_left c] at ej
    obtain ⟨x, e1, e2⟩ := hd j t ej
    exact ⟨x, by rw [List.getElem?_append_left (by omega)]; exact e1, e2⟩
  · have cj : j = (sizes.take i).length := by
      have q := (List.getElem?_eq_some_iff.mp ej).1
      rw [List.length_append, List.length_singleton] at q
      omega
    rw [cj, List.getElem?_append_right (Nat.le_refl _), Nat.sub_self] at ej
    cases ej
    exact ⟨d, by rw [cj, List.getElem?_append_right (by omega), hl, Nat.sub_self]; rfl, h0, h1⟩
theorem scDigits : FnScope ["cell", "sizes", "row", "rest", "size", "seed", "k", "twice"] ["cell", "sizes"] (defScope sDigits) := ⟨rfl, rfl, rfl, by decide +kernel, rfl, by decide +kernel, by decide +kernel⟩
theorem ok_digits {f : Addr} {fd : FuncData} (F : Fun K "_law_digits" "_law_digits" sDigits f fd) (T : TM mg) : FnOk P w K mg base CX0 1 f fd ["cell", "sizes"] (spDigits K) := by
  refine F.ok scDigits (fun vs H Q E h => ?_) (fun cdv A outer s H vs Q E hr h => ?_)
  · obtain ⟨c, l, sizes, rfl, _⟩ := h
    rfl
  · obtain ⟨c, l, sizes, rfl, hS, hl, hz, k⟩ := h
    refine ⟨_, pss_cons (ps_set (i := 2) scDigits.nd rfl (Or.inl rfl) (pe_lst pa_nil))
      (pss_cons (ps_set (i := 3) scDigits.nd rfl (Or.inl rfl) (pe_callTy call_int1 (by rfl) T.int PyProof.Rows.Boot.int (pa_cons (pv 0) pa_nil)))
      (pss_cons (ps_if (pt_cmp (pc_ge (pv 3) (pe_op op_pow pe_int pe_int)))
        (pss_cons (ps_set (i := 3) scDigits.nd rfl (Or.inl rfl) (pe_op op_sub (pv 3) (pe_op op_pow pe_int pe_int)))
        (pss_cons (ps_for PassesOwn.never rfl (pi_list (pv 1)) (pg_name (i := 4) scDigits.nd rfl (Or.inl rfl))
          (pss_cons (ps_expr (pe_bm PySem.F.plainAttrs_list PySem.F.slot_list_append PySem.F.type_list_append mt_append (pv 2) (pa_cons (pe_op op_mod (pe_callTy call_int1 (by rfl) T.int PyProof.Rows.Boot.int (pa_cons (pv 3) pa_nil)) (pv 4)) pa_nil)))
          (pss_one (ps_set (i := 3) scDigits.nd rfl (Or.inl rfl) (pe_op op_fdivW (pe_callTy call_int1 (by rfl) T.int PyProof.Rows.Boot.int (pa_cons (pv 3) pa_nil)) (pv 4))))))
        (pss_one (ps_ret (pv 2))))) pss_nil)
      (pss_cons (ps_set (i := 5) scDigits.nd rfl (Or.inl rfl) (pe_op op_mod (pe_callTy call_int1 (by rfl) T.int PyProof.Rows.Boot.int (pa_cons (pv 3) pa_nil)) pe_int))
      (pss_cons (ps_for PassesOwn.never rfl (pi_range1 (by rfl) T.range (pa_cons (pe_callB call_len_seq (by rfl) T.len PySem.boot_len (pa_cons (pv 1) pa_nil)) pa_nil)) (pg_name (i := 6) scDigits.nd rfl (Or.inl rfl))
        (pss_cons (ps_set (i := 5) scDigits.nd rfl (Or.inl rfl) (pe_op op_mod (pe_callTy call_int1 (by rfl) T.int PyProof.Rows.Boot.int (pa_cons (pe_op op_add (pe_op op_add (pe_op op_mul (pv 5) pe_int) (pe_op op_mul pe_int (pv 6))) pe_int) pa_nil)) pe_int))
        (pss_cons (ps_set (i := 7) scDigits.nd rfl (Or.inl rfl) (pe_op op_mod (pe_callTy call_int1 (by rfl) T.int PyProof.Rows.Boot.int (pa_cons (pe_op op_mul (pv 5) (pe_op op_add (pe_op op_fdiv (pv 5) pe_int) pe_int)) pa_nil)) pe_int))
        (pss_one (ps_expr (pe_bm PySem.F.plainAttrs_list PySem.F.slot_list_append PySem.F.type_list_append mt_append (pv 2) (pa_cons (pe_op op_mod (pe_op op_fdiv (pv 7) pe_int) (pe_ix ix_list (pv 1) (pv 6) fun _ _ => rfl)) pa_nil)))))))
      (pss_one (ps_ret (pv 2))))))), ?_⟩
    refine ⟨Nat.zero_le _, fun p hp => ?_⟩
    have s0 : Same H (upd H p (.lst [])) := same_new hp
    refine ⟨_, rfl, .inl ⟨c, rfl, ?_⟩⟩
    refine ⟨_, rfl, _, _, rfl, rfl, ⟨by decide, by decide, by decide⟩, _, _, rfl, rfl, _, rfl, ?_⟩
    refine ite2 (fun cc => ?_) (fun cc => ?_)
    · refine ⟨_, rfl, _, _, rfl, rfl, ⟨by decide, by decide, by decide⟩, _, _, rfl, rfl, ?_⟩
      refine ⟨_, rfl, l, rfl, ⟨_, s0.seq hS⟩, for_list (K := K) (a := l) (xs := sizes.map V.int) (fun i σ H' => Same H H' ∧ ∃ (r : Int) (row : List Int) (v : Option V), σ = [some (.int c), some (.ref l), some (.ref p), some (.int r), v, none, none, none] ∧ H' p = some (.lst (row.map V.int)) ∧ Digs (sizes.take i) row)
        ⟨s0, _, [], none, rfl, upd_same, digs_nil⟩ (fun i σ H' _ h => h.1.seq hS) ?_ ?_⟩
      · rintro i y σ H' hi ⟨s1, r, row, v, rfl, hrow, dg⟩
        obtain ⟨u, eu, rfl⟩ := mapInt hi
        obtain ⟨u0, u1⟩ := hz u (List.mem_of_getElem? eu)
        have hi2 : i < sizes.length := (List.getElem?_eq_some_iff.mp eu).1
        have lr : row.length ≤ i := by rw [dg.1, List.length_take]; omega
        refine ⟨_, rfl, .inl ⟨rfl, _, SqL.of hrow⟩, _, rfl, .inl ⟨_, rfl, _, rfl, _, _, rfl, rfl, u0, p, _, _, rfl, rfl, hrow, ?_, ?_⟩⟩
        · rw [List.length_map]
          exact small100k (by omega)
        refine ⟨_, rfl, .inl ⟨_, rfl, _, rfl, _, _, rfl, rfl, ⟨u0, ?_⟩, ?_⟩⟩
        · exact (wide_div (i := r) (b := 200) u0 (by omega) (by decide) (by decide)).2
        refine ⟨same_mut s1 hp, _, row ++ [r % u], _, rfl, ?_, digs_snoc dg eu (Int.emod_nonneg _ (by omega)) (Int.emod_lt_of_pos _ u0)⟩
        rw [upd_same, List.map_append]
        rfl
      · rintro σ H' ⟨s1, r, row, v, rfl, hrow, dg⟩
        rw [List.length_map, List.take_length] at dg
        exact ⟨_, rfl, k row p H' dg hp s1 hrow⟩
    · refine ⟨_, rfl, .inl ⟨_, rfl, _, _, rfl, rfl, (by show (0 : Int) < 2147483629; decide), ?_⟩⟩
      refine ⟨_, rfl, l, _, rfl, .inl (s0.seq hS), ?_⟩
      rw [List.length_map]
      refine ⟨_, rfl, by omega, by omega, for_range (lo := 0) (n := ((sizes.length : Int)).toNat) (fun i σ H' => Same H H' ∧ ∃ (sd : Int) (row : List Int) (v v2 : Option V), σ = [some (.int c), some (.ref l), some (.ref p), some (.int c), none, some (.int sd), v, v2] ∧ 0 ≤ sd ∧ sd < 2 ^ 40 ∧ H' p = some (.lst (row.map V.int)) ∧ Digs (sizes.take i) row)
        ⟨s0, _, [], none, none, rfl, Int.emod_nonneg _ (by decide), Int.lt_trans (Int.emod_lt_of_pos _ (by decide)) (by decide), upd_same, digs_nil⟩ ?_ ?_⟩
      · rintro i σ H' hi ⟨s1, sd, row, v, v2, rfl, h0, h1, hrow, dg⟩
        have hi2 : i < sizes.length := by omega
        have eu : sizes[i]? = some sizes[i] := List.getElem?_eq_getElem hi2
        obtain ⟨u0, u1⟩ := hz _ (List.mem_of_getElem? eu)
        have lr : row.length ≤ i := by rw [dg.1, List.length_take]; omega
        have ei : (0 : Int) + (i : Int) = (i : Int) := by omega
        refine ⟨_, rfl, _, _, rfl, rfl, .inl (by omega), _, rfl, _, _, rfl, rfl, .inl (by decide), _, _, rfl, rfl, _, _, rfl, rfl, .inl ⟨_, rfl, _, _, rfl, rfl, (by show (0 : Int) < 2147483647; decide), ?_⟩⟩
        have b0 := Int.emod_nonneg (sd * 48271 + 974711 * (0 + (i : Int)) + 12345) (show (2147483647 : Int) ≠ 0 by decide)
        have b1 := Int.emod_lt_of_pos (sd * 48271 + 974711 * (0 + (i : Int)) + 12345) (show (0 : Int) < 2147483647 by decide)
        refine ⟨_, rfl, _, rfl, _, _, rfl, rfl, ⟨by decide, by decide⟩, _, _, rfl, rfl, _, _, rfl, rfl, .inl (by omega), .inl ⟨_, rfl, _, _, rfl, rfl, (by show (0 : Int) < 2147483629; decide), ?_⟩⟩
        refine ⟨_, rfl, .inl ⟨rfl, _, SqL.of hrow⟩, _, rfl, _, _, rfl, rfl, ⟨by decide, by decide⟩, _, rfl, _, rfl, l, _, (i : Int), _, rfl, by rw [ei], s1.seq hS, atI_nat (by rw [List.getElem?_map, eu]; rfl), _, _, rfl, rfl, u0, p, _, _, rfl, rfl, hrow, ?_, ?_⟩
        · rw [List.length_map]
          exact small100k (by omega)
        exact ⟨same_mut s1 hp, _, row ++ [_], _, _, rfl, b0, Int.lt_trans b1 (by decide), upd_same.trans (congrArg (fun l => some (HO.lst l)) (map_snoc row _)), digs_snoc dg eu (Int.emod_nonneg _ (by omega)) (Int.emod_lt_of_pos _ u0)⟩
      · rintro σ H' ⟨s1, sd, row, v, v2, rfl, h0, h1, hrow, dg⟩
        rw [Int.toNat_natCast, List.take_length] at dg
        exact ⟨_, rfl, k row p H' dg hp s1 hrow⟩
end
end Mk

set_option Elab.async false
set_option maxRecDepth 100000
set_option maxHeartbeats 4000000
namespace Mk
open PySem L2 Pk
section
variable {P : Program} {w : World} {K : PySem.W.Frag} {mg : PySem.Str → Option Value} {base : Heap}
/-! _law_whole -/
def spWhole : Sp := fun vs H Q _ => ∃ n : Int, vs = [.int n] ∧ Q (.bl true) H
theorem scWhole : FnScope ["value"] ["value"] (defScope sWhole) := ⟨rfl, rfl, rfl, by decide +kernel, rfl, by decide +kernel, by decide +kernel⟩
theorem ok_whole {f : Addr} {fd : FuncData} (F : Fun K "_law_whole" "_law_whole" sWhole f fd) (T : TM mg) : FnOk P w K mg base CX0 1 f fd ["value"] spWhole := by
  refine F.ok scWhole (fun vs H Q E h => ?_) (fun cdv A outer s H vs Q E hr h => ?_)
  · obtain ⟨n, rfl, _⟩ := h
    rfl
  · obtain ⟨n, rfl, k⟩ := h
    refine ⟨_, pss_one (ps_ret (pe_and (pe_callB call_isi (by rfl) T.isi (by decide +kernel) (pa_cons (pv 0) (pa_cons (pe_bltn (v := .ty "int") (by rfl) T.int PyProof.Rows.Boot.int rfl) pa_nil)))
      (pe_one (pe_not (pe_callB call_isi (by rfl) T.isi (by decide +kernel) (pa_cons (pv 0) (pa_cons (pe_bltn (v := .ty "bool") (by rfl) T.bool PyProof.Rows.Boot.bool rfl) pa_nil))))))), ?_⟩
    refine ⟨_, rfl, _, _, _, _, true, rfl, .ty _, .base (.int _), kit_ty (by decide +kernel), _, rfl, ?_⟩
    refine iteT ?_
    refine ⟨_, rfl, _, _, _, _, false, rfl, .ty _, .base (.int _), kit_ty (by decide +kernel), _, rfl, k⟩
/-! _law_same -/
def depthOk : Nat → PyData → Prop
  | _, .none => True
  | _, .bool _ => True
  | _, .int _ => True
  | _, .str _ => True
  | 0, .tuple _ => False
  | n + 1, .tuple ds => ds.length ≤ 100000 ∧ ∀ d ∈ ds, depthOk n d
  | _, .list _ => False
  | _, .dict _ => False
def spSame (K : PySem.W.Frag) (n : Nat) : Sp := fun vs H Q _ => ∃ (x y : V) (d : PyData), vs = [x, y] ∧ Dp K H x d ∧ Dp K H y d ∧ depthOk n d ∧ Q (.bl true) H
theorem scSame : FnScope ["told", "due", "k"] ["told", "due"] (defScope sSame) := ⟨rfl, rfl, rfl, by decide +kernel, rfl, by decide +kernel, by decide +kernel⟩
theorem tyx_tup {H : Hp} {a : Addr} {xs : List V} (h : SqT K H a xs) : TyX K H (.ref a) (.type "tuple") := by
  rcases h with (h | ⟨o, h⟩) | ⟨o, its, n, h, hc, _⟩
  · exact .base (.tup h)
  · exact .fTuple h
  · exact .kTuple h hc
theorem depthOk_list {n : Nat} {ds : List PyData} (h : depthOk n (.list ds)) : False := by cases n <;> exact h
theorem depthOk_dict {n : Nat} {ds : List (PyData × PyData)} (h : depthOk n (.dict ds)) : False := by cases n <;> exact h
def ifThen (s : Stmt) : List Stmt := match s with
  | .If _ b _ _ => b
  | _ => []
theorem same_of {f fW : Addr} {fd fdW : FuncData} (F : Fun K "_law_same" "_law_same" sSame f fd) (T : TM mg) (GW : FnOk P w K mg base CX0 1 fW fdW ["value"] spWhole) (kW : PySem.W.keepIn K (.ref fW) = true) (bW : Binds K fdW ["value"] []) (gW : mg "_law_whole" = some (.ref fW)) (n : Nat)
    (loop : ∀ (cdv : Value) (A : Around) (outer : List Env) (s : Shared) (H : Hp) (E : XK), Room (n + 1) (A.deeper (PyProof.Rows.envOfC "_law_same" (defScope sSame) s.heap.objs.size f cdv)) →
      ∃ tb : TS, PSs (cxOf CX0 P w K mg base ["told", "due", "k"] "_law_same" (defScope sSame) f cdv A outer s H E).nox (ifThen ((defBody sSame).getD 0 (.Pass ⟨0, 0, 0, 0⟩))) tb ∧
        ∀ (ds : List PyData) (D : Ends), depthOk n (.tuple ds) → ∀ (x y : V), Dp K H x (.tuple ds) → Dp K H y (.tuple ds) → D.rt (.bl true) H → tb D [some x, some y, none] H) :
    FnOk P w K mg base CX0 (n + 2) f fd ["told", "due"] (spSame K n) := by
  refine F.ok scSame (fun vs H Q E h => ?_) (fun cdv A outer s H vs Q E hr h => ?_)
  · obtain ⟨x, y, d, rfl, _⟩ := h
    rfl
  · obtain ⟨x, y, d, rfl, hx, hy, hd, k⟩ := h
    have hr1 : Room 1 _ := hr.mono (by omega)
    obtain ⟨tb, hb, hbt⟩ := loop cdv A outer s H E hr
    refine ⟨_, pss_cons (ps_if (pt_val (pe_callB call_isi (by rfl) T.isi (by decide +kernel) (pa_cons (pv 1) (pa_cons (pe_bltn (v := .ty "tuple") (by rfl) T.tuple PyProof.Rows.Boot.tuple rfl) pa_nil)))) hb pss_nil)
      (pss_cons (ps_if (pt_cmp (pc_isN (pv 1))) (pss_one (ps_ret (pe_cmp (pc_isN (pv 0)) rfl))) pss_nil)
      (pss_cons (ps_if (pt_val (pe_callB call_isi (by rfl) T.isi (by decide +kernel) (pa_cons (pv 1) (pa_cons (pe_bltn (v := .ty "bool") (by rfl) T.bool PyProof.Rows.Boot.bool rfl) pa_nil))))
        (pss_one (ps_ret (pe_and (pe_callB call_isi (by rfl) T.isi (by decide +kernel) (pa_cons (pv 0) (pa_cons (pe_bltn (v := .ty "bool") (by rfl) T.bool PyProof.Rows.Boot.bool rfl) pa_nil))) (pe_one (pe_cmpR op_eq (pv 0) (pv 1) (nomark _)))))) pss_nil)
      (pss_cons (ps_if (pt_val (pe_callB call_isi (by rfl) T.isi (by decide +kernel) (pa_cons (pv 1) (pa_cons (pe_bltn (v := .ty "int") (by rfl) T.int PyProof.Rows.Boot.int rfl) pa_nil))))
        (pss_one (ps_ret (pe_and (pe_call GW hr1 (by rfl) gW kW bW .nil pass0 (pa_cons (pv 0) pa_nil)) (pe_one (pe_cmpR op_eq (pv 0) (pv 1) (nomark _)))))) pss_nil)
      (pss_one (ps_ret (pe_and (pe_callB call_isi (by rfl) T.isi (by decide +kernel) (pa_cons (pv 0) (pa_cons (pe_bltn (v := .ty "str") (by rfl) T.str PyProof.Rows.Boot.str rfl) pa_nil))) (pe_one (pe_cmpR op_eq (pv 0) (pv 1) (nomark _))))))))), ?_⟩
    cases d with
    | none =>
      cases hx
      cases hy
      refine ⟨_, rfl, _, _, _, _, false, rfl, .ty _, .base .non, kit_ty (by decide +kernel), _, rfl, ?_⟩
      refine iteF ?_
      refine ⟨_, rfl, _, rfl, ?_⟩
      refine iteT ?_
      exact ⟨_, rfl, k⟩
    | bool b =>
      cases hx
      cases hy
      refine ⟨_, rfl, _, _, _, _, false, rfl, .ty _, .base (.bl _), kit_ty (by decide +kernel), _, rfl, ?_⟩
      refine iteF ?_
      refine ⟨_, rfl, _, rfl, ?_⟩
      refine iteF ?_
      refine ⟨_, rfl, _, _, _, _, true, rfl, .ty _, .base (.bl _), kit_ty (by decide +kernel), _, rfl, ?_⟩
      refine iteT ?_
      refine ⟨_, rfl, _, _, _, _, true, rfl, .ty _, .base (.bl _), kit_ty (by decide +kernel), _, rfl, ?_⟩
      refine iteT ?_
      refine ⟨_, rfl, _, rfl, rfl, ?_⟩
      rw [decide_eq_true rfl]
      exact k
    | int i =>
      cases hx
      cases hy
      refine ⟨_, rfl, _, _, _, _, false, rfl, .ty _, .base (.int _), kit_ty (by decide +kernel), _, rfl, ?_⟩
      refine iteF ?_
      refine ⟨_, rfl, _, rfl, ?_⟩
      refine iteF ?_
      refine ⟨_, rfl, _, _, _, _, false, rfl, .ty _, .base (.int _), kit_ty (by decide +kernel), _, rfl, ?_⟩
      refine iteF ?_
      refine ⟨_, rfl, _, _, _, _, true, rfl, .ty _, .base (.int _), kit_ty (by decide +kernel), _, rfl, ?_⟩
      refine iteT ?_
      refine ⟨_, rfl, _, rfl, _, rfl, ?_⟩
      refine iteT ?_
      refine ⟨_, rfl, _, rfl, rfl, ?_⟩
      rw [decide_eq_true rfl]
      exact k
    | str z =>
      cases hx
      cases hy
      refine ⟨_, rfl, _, _, _, _, false, rfl, .ty _, .base (.str _), kit_ty (by decide +kernel), _, rfl, ?_⟩
      refine iteF ?_
      refine ⟨_, rfl, _, rfl, ?_⟩
      refine iteF ?_
      refine ⟨_, rfl, _, _, _, _, false, rfl, .ty _, .base (.str _), kit_ty (by decide +kernel), _, rfl, ?_⟩
      refine iteF ?_
      refine ⟨_, rfl, _, _, _, _, false, rfl, .ty _, .base (.str _), kit_ty (by decide +kernel), _, rfl, ?_⟩
      refine iteF ?_
      refine ⟨_, rfl, _, _, _, _, true, rfl, .ty _, .base (.str _), kit_ty (by decide +kernel), _, rfl, ?_⟩
      refine iteT ?_
      refine ⟨_, rfl, _, rfl, rfl, ?_⟩
      rw [decide_eq_true rfl]
      exact k
    | list ds => exact (depthOk_list hd).elim
    | tuple ds =>
      have hx' := hx
      have hy' := hy
      cases hx with
      | tup hsx hax =>
        cases hy with
        | tup hsy hay =>
          refine ⟨_, rfl, _, _, _, _, true, rfl, .ty _, tyx_tup hsy, kit_ty (by decide +kernel), _, rfl, ?_⟩
          refine iteT ?_
          exact hbt ds _ hd _ _ hx' hy' k
    | dict ds => exact (depthOk_dict hd).elim
theorem ok_same {f fW : Addr} {fd fdW : FuncData} (F : Fun K "_law_same" "_law_same" sSame f fd) (T : TM mg) (FW : Fun K "_law_whole" "_law_whole" sWhole fW fdW) (bW : Binds K fdW ["value"] []) (gW : mg "_law_whole" = some (.ref fW))
    (bS : Binds K fd ["told", "due"] []) (gS : mg "_law_same" = some (.ref f)) : ∀ n : Nat, FnOk P w K mg base CX0 (n + 2) f fd ["told", "due"] (spSame K n) := by
  have GW : FnOk P w K mg base CX0 1 fW fdW ["value"] spWhole := ok_whole FW T
  intro n
  induction n with
  | zero => exact same_of F T GW FW.kp bW gW 0 fun cdv A outer s H E hr => ⟨_, pss_never, fun ds D hd => hd.elim⟩
  | succ n ih =>
    refine same_of F T GW FW.kp bW gW (n + 1) fun cdv A outer s H E hr => ?_
    refine ⟨_, pss_cons (ps_if (PW.pt (pw_or (pt_not (pt_val (pe_callB call_isi (by rfl) T.isi (by decide +kernel) (pa_cons (pv 0) (pa_cons (pe_bltn (v := .ty "tuple") (by rfl) T.tuple PyProof.Rows.Boot.tuple rfl) pa_nil)))))
        (pw_or1 (pt_cmpR op_ne (pe_callB call_len_seq (by rfl) T.len PySem.boot_len (pa_cons (pv 0) pa_nil)) (pe_callB call_len_seq (by rfl) T.len PySem.boot_len (pa_cons (pv 1) pa_nil)) (nomark _))))) (pss_one (ps_ret pe_bl)) pss_nil)
      (pss_cons (ps_for PassesOwn.never rfl (pi_range1 (by rfl) T.range (pa_cons (pe_callB call_len_seq (by rfl) T.len PySem.boot_len (pa_cons (pv 1) pa_nil)) pa_nil)) (pg_name (i := 2) scSame.nd rfl (Or.inl rfl))
        (pss_one (ps_if (pt_not (pt_val (pe_call ih hr (by rfl) gS F.kp bS .nil pass0 (pa_cons (pe_ix ix_seq (pv 0) (pv 2) fun _ _ => rfl) (pa_cons (pe_ix ix_seq (pv 1) (pv 2) fun _ _ => rfl) pa_nil))))) (pss_one (ps_ret pe_bl)) pss_nil)))
      (pss_one (ps_ret pe_bl))), fun ds D hd x y hx hy k => ?_⟩
    cases hx with
    | @tup a xs _ hsx hax =>
    cases hy with
    | @tup b ys _ hsy hay =>
    have lx := dpa_len hax
    have ly := dpa_len hay
    refine ⟨_, rfl, _, _, _, _, true, rfl, .ty _, tyx_tup hsx, kit_ty (by decide +kernel), _, rfl, ?_⟩
    refine iteF ?_
    refine ⟨_, rfl, a, xs, rfl, .inr hsx, _, rfl, b, ys, rfl, .inr hsy, rfl, _, rfl, ?_⟩
    refine iteNS (by rw [lx, ly]) ?_
    have hl : ys.length ≤ 100000 := by rw [ly]; exact hd.1
    refine ⟨_, rfl, b, ys, rfl, .inr hsy, _, rfl, by omega, by omega, for_range (lo := 0) (n := ((ys.length : Int)).toNat) (fun i σ H' => H' = H ∧ ∃ v : Option V, σ = [some (.ref a), some (.ref b), v])
      ⟨rfl, none, rfl⟩ ?_ ?_⟩
    · rintro i σ H' hi ⟨rfl, v, rfl⟩
      have hi' : i < ys.length := by omega
      have ex : xs[i]? = some xs[i] := List.getElem?_eq_getElem (by omega)
      have ey : ys[i]? = some ys[i] := List.getElem?_eq_getElem hi'
      obtain ⟨d1, e1, q1⟩ := dpa_get hax ex
      obtain ⟨d2, e2, q2⟩ := dpa_get hay ey
      rw [e1] at e2
      cases e2
      have ei : (0 : Int) + (i : Int) = (i : Int) := by omega
      refine ⟨_, rfl, _, rfl, .inr (.inl ⟨a, xs, (i : Int), _, rfl, by rw [ei], hsx, atI_nat ex, _, rfl, _, rfl, .inr (.inl ⟨b, ys, (i : Int), _, rfl, by rw [ei], hsy, atI_nat ey, ?_⟩)⟩)⟩
      refine ⟨_, _, d1, rfl, q1, q2, hd.2 d1 (List.mem_of_getElem? e1), _, rfl, ?_⟩
      refine iteF ?_
      exact ⟨rfl, _, rfl⟩
    · rintro σ H' ⟨rfl, v, rfl⟩
      exact k
end
end Mk

set_option Elab.async false
set_option maxRecDepth 100000
set_option maxHeartbeats 4000000
namespace Mk
open PySem L2 Pk
/-! texts of signs -/
abbrev sgn1 (c : Nat) : PySem.Str := ⟨#[c]⟩
theorem joinL_one : ∀ cs : List Nat, TL.joinL [] (cs.map fun c => [c]) = cs
  | [] => rfl
  | [c] => rfl
  | c :: d :: r => by
    show [c] ++ ([] ++ TL.joinL [] ((d :: r).map fun c => [c])) = c :: d :: r
    rw [joinL_one (d :: r)] <;> rfl
theorem join_signs (cs : List Nat) : Txt.join (PySem.Str.ofString "") (cs.map sgn1) = ⟨cs.toArray⟩ := by
  have e : cs.map sgn1 = (cs.map fun c => [c]).map SX.S := by
    rw [List.map_map]
    exact List.map_congr_left fun c _ => rfl
  have z : PySem.Str.ofString "" = SX.S [] := by decide +kernel
  rw [e, z, SX.join_S, joinL_one] <;> rfl
def abc (p : Nat → Bool) : List Nat := ((List.range 26).filter p).map (97 + ·)
theorem abc_low {p : Nat → Bool} {c : Nat} (h : c ∈ abc p) : 97 ≤ c ∧ c ≤ 122 := by
  obtain ⟨k, m, rfl⟩ := List.mem_map.mp h
  have z := List.mem_range.mp (List.mem_filter.mp m).1
  omega
theorem alpha_of {cs : List Nat} (low : ∀ c ∈ cs, 97 ≤ c ∧ c ≤ 122) (pos : 1 ≤ cs.length) (most : cs.length ≤ 26) (up : cs.Pairwise (· < ·)) : Alpha ⟨cs.toArray⟩ where
  low := by
    show cs.all lowC = true
    rw [List.all_eq_true]
    intro c m
    unfold lowC
    rw [decide_eq_true (low c m).1, decide_eq_true (low c m).2] <;> rfl
  pos := pos
  most := most
  up := fun i c d e1 e2 => by
    have e1' : cs[i]? = some c := e1
    have e2' : cs[i + 1]? = some d := e2
    obtain ⟨h1, rfl⟩ := List.getElem?_eq_some_iff.mp e1'
    obtain ⟨h2, rfl⟩ := List.getElem?_eq_some_iff.mp e2'
    exact List.pairwise_iff_getElem.mp up i (i + 1) h1 h2 (Nat.lt_succ_self i)
theorem alpha_abc {p : Nat → Bool} (h : ∃ k, k < 26 ∧ p k = true) : Alpha ⟨(abc p).toArray⟩ := by
  refine alpha_of (fun c m => abc_low m) ?_ ?_ ?_
  · obtain ⟨k, lt, e⟩ := h
    have m : k ∈ (List.range 26).filter p := List.mem_filter.mpr ⟨List.mem_range.mpr lt, e⟩
    unfold abc
    rw [List.length_map]
    exact List.length_pos_of_mem m
  · unfold abc
    rw [List.length_map]
    exact Nat.le_trans (List.length_filter_le _ _) (by rw [List.length_range]; exact Nat.le_refl _)
  · unfold abc
    rw [List.pairwise_map]
    exact (List.pairwise_lt_range (n := 26)).filter p |>.imp fun h => by omega
theorem alpha_one {c : Nat} (h : 97 ≤ c ∧ c ≤ 122) : Alpha (sgn1 c) := alpha_of (cs := [c]) (fun d m => by rw [List.mem_singleton.mp m]; exact h) (Nat.le_refl _) (show 1 ≤ 26 by decide) (List.pairwise_singleton _ _)
abbrev abc26 : PySem.Str := PySem.Str.ofString "abcdefghijklmnopqrstuvwxyz"
theorem abc26_eq : abc26 = ⟨(abc fun _ => true).toArray⟩ := by decide +kernel
theorem abc26_at {k : Nat} (h : k < 26) : abc26.cps.toList[k]? = some (97 + k) := by
  have all : ∀ k, k < 26 → abc26.cps.toList[k]? = some (97 + k) := by decide +kernel
  exact all k h
theorem abc_snoc (p : Nat → Bool) (i : Nat) : (((List.range (i + 1)).filter p).map (97 + ·)) = (((List.range i).filter p).map (97 + ·)) ++ (if p i = true then [97 + i] else []) := by
  rw [List.range_succ, List.filter_append, List.map_append]
  by_cases c : p i = true
  · rw [List.filter_cons_of_pos c, if_pos c] <;> rfl
  · rw [List.filter_cons_of_neg c, if_neg c] <;> rfl
end Mk

set_option maxRecDepth 100000
set_option linter.all false
/-! the law's guess and the program's -/
namespace Mk
open PySem L2 Pk Sx
def adjK {κ : Type} [DecidableEq κ] : List κ → Option κ
  | a :: b :: r => if a = b then some a else adjK (b :: r)
  | _ => none
section
variable {κ α : Type} [DecidableEq κ]
def cnt (k : κ) (l : List κ) : Nat := l.count k
theorem cnt_append (k : κ) (l m : List κ) : cnt k (l ++ m) = cnt k l + cnt k m := List.count_append ..
theorem cnt_one (k : κ) : cnt k [k] = 1 := List.count_singleton_self ..
theorem cnt_zero {k : κ} {l : List κ} (h : k ∉ l) : cnt k l = 0 := List.count_eq_zero.mpr h
theorem cnt_self (k : κ) (l : List κ) : cnt k (k :: l) = cnt k l + 1 := List.count_cons_self ..
theorem cnt_ne {a k : κ} (h : a ≠ k) (l : List κ) : cnt k (a :: l) = cnt k l := List.count_cons_of_ne h
theorem go_more : ∀ (l acc : List κ), ∃ t, onceGo acc l = acc ++ t
  | [], acc => ⟨[], by simp [onceGo]⟩
  | y :: l, acc => by
    by_cases c : y ∈ acc
    · have e : onceGo acc (y :: l) = onceGo acc l := by unfold onceGo; rw [List.foldl_cons, if_pos c]
      rw [e]
      exact go_more l acc
    · have e : onceGo acc (y :: l) = onceGo (acc ++ [y]) l := by unfold onceGo; rw [List.foldl_cons, if_neg c]
      obtain ⟨t, et⟩ := go_more l (acc ++ [y])
      exact ⟨y :: t, by rw [e, et, List.append_assoc] <;> rfl⟩
theorem go_cons {a : κ} : ∀ (l acc : List κ), a ∉ l → onceGo (a :: acc) l = a :: onceGo acc l
  | [], acc, _ => rfl
  | y :: l, acc, h => by
    have ya : y ≠ a := fun e => h (by rw [e]; exact List.mem_cons_self)
    have hl : a ∉ l := fun m => h (List.mem_cons_of_mem _ m)
    by_cases c : y ∈ acc
    · have e1 : onceGo (a :: acc) (y :: l) = onceGo (a :: acc) l := by unfold onceGo; rw [List.foldl_cons, if_pos (List.mem_cons_of_mem _ c)]
      have e2 : onceGo acc (y :: l) = onceGo acc l := by unfold onceGo; rw [List.foldl_cons, if_pos c]
      rw [e1, e2]
      exact go_cons l acc hl
    · have c2 : y ∉ a :: acc := fun m => by
        rcases List.mem_cons.mp m with e | m
        · exact ya e
        · exact c m
      have e1 : onceGo (a :: acc) (y :: l) = onceGo (a :: (acc ++ [y])) l := by unfold onceGo; rw [List.foldl_cons, if_neg c2] <;> rfl
      have e2 : onceGo acc (y :: l) = onceGo (acc ++ [y]) l := by unfold onceGo; rw [List.foldl_cons, if_neg c]
      rw [e1, e2]
      exact go_cons l (acc ++ [y]) hl
theorem once_cons (a : κ) (l : List κ) : once (a :: l) = onceGo [a] l := rfl
theorem once_cons_new {a : κ} {l : List κ} (h : a ∉ l) : once (a :: l) = a :: once l := (once_cons a l).trans (go_cons l [] h)
/-- in a rising list what comes twice comes twice at once -/
theorem find_adj {lt : κ → κ → Bool} (O : Lin lt) : ∀ ks : List κ, Up lt ks → (once ks).find? (fun k => decide (1 < cnt k ks)) = adjK ks
  | [], _ => rfl
  | [a], _ => by
    have e : once [a] = [a] := rfl
    have z : decide (1 < cnt a [a]) = false := by rw [cnt_one]; rfl
    rw [e, List.find?_cons, z] <;> rfl
  | a :: b :: r, h => by
    obtain ⟨h1, h2⟩ := List.pairwise_cons.mp h
    by_cases c : a = b
    · subst c
      obtain ⟨t, et⟩ := go_more (a :: r) [a]
      have e : once (a :: a :: r) = a :: t := (once_cons a (a :: r)).trans et
      have big : decide (1 < cnt a (a :: a :: r)) = true := decide_eq_true (by rw [cnt_self, cnt_self]; omega)
      rw [e, List.find?_cons, big]
      unfold adjK
      rw [if_pos rfl]
    · have new : a ∉ b :: r := fun m => by
        rcases List.mem_cons.mp m with e | m
        · exact c e
        · have z1 := h1 b List.mem_cons_self
          have z2 := (List.pairwise_cons.mp h2).1 a m
          exact c (O.anti z2 z1)
      have n0 : cnt a (b :: r) = 0 := cnt_zero new
      have small : decide (1 < cnt a (a :: b :: r)) = false := by
        rw [cnt_self, n0]
        rfl
      rw [once_cons_new new, List.find?_cons, small]
      unfold adjK
      rw [if_neg c, ← find_adj O (b :: r) h2]
      have cong : ∀ k ∈ once (b :: r), decide (1 < cnt k (a :: b :: r)) = decide (1 < cnt k (b :: r)) := fun k m => by
        have ka : a ≠ k := fun e => new (by rw [e]; exact (once_mem _ _).mp m)
        rw [cnt_ne ka]
      show List.find? _ _ = List.find? _ _
      revert cong
      generalize once (b :: r) = l
      intro cong
      induction l with
      | nil => rfl
      | cons x l ih =>
        have ex := cong x List.mem_cons_self
        have ih2 : List.find? (fun k => decide (1 < cnt k (a :: b :: r))) l = List.find? (fun k => decide (1 < cnt k (b :: r))) l := ih fun k m => cong k (List.mem_cons_of_mem _ m)
        show List.find? (fun k => decide (1 < cnt k (a :: b :: r))) (x :: l) = List.find? (fun k => decide (1 < cnt k (b :: r))) (x :: l)
        rw [List.find?_cons, List.find?_cons, ex, ih2]
end
theorem grps_count (rs : List Rl) : ∀ g ∈ grps rs, g.2.length = cnt g.1 (rs.map Rl.k3) := by
  have gen : ∀ (l pre : List Rl), (∀ g ∈ grps pre, g.2.length = cnt g.1 (pre.map Rl.k3)) → ∀ g ∈ grps (pre ++ l), g.2.length = cnt g.1 ((pre ++ l).map Rl.k3) := by
    intro l
    induction l with
    | nil => intro pre h; simpa using h
    | cons r l ih =>
      intro pre h
      have e : pre ++ r :: l = (pre ++ [r]) ++ l := by simp
      rw [e]
      refine ih (pre ++ [r]) ?_
      rw [grps_snoc, List.map_append]
      intro g m
      rw [cnt_append]
      unfold gAdd at m
      split at m
      · rename_i c
        obtain ⟨g0, m0, rfl⟩ := List.mem_map.mp m
        have z := h g0 m0
        split
        · rename_i eq
          rw [List.length_append, z]
          show _ + 1 = cnt g0.1 _ + cnt g0.1 [r.k3]
          rw [eq, cnt_one]
        · rename_i ne
          rw [z]
          have n : cnt g0.1 [r.k3] = 0 := cnt_zero fun m => ne (List.mem_singleton.mp m)
          rw [show (List.map Rl.k3 [r]) = [r.k3] from rfl, n] <;> rfl
      · rename_i c
        rcases List.mem_append.mp m with m | m
        · have z := h g m
          have ne : g.1 ≠ r.k3 := fun eq => c (by rw [← eq]; exact List.mem_map.mpr ⟨g, m, rfl⟩)
          have n : cnt g.1 [r.k3] = 0 := cnt_zero fun m => ne (List.mem_singleton.mp m)
          rw [z, show (List.map Rl.k3 [r]) = [r.k3] from rfl, n] <;> rfl
        · rw [List.mem_singleton.mp m]
          have n : cnt r.k3 (pre.map Rl.k3) = 0 := cnt_zero fun m => c (by rw [grps_keys]; exact (once_mem _ _).mpr m)
          show 1 = cnt r.k3 _ + cnt r.k3 [r.k3]
          rw [n, cnt_one]
  exact gen rs [] fun g m => absurd m List.not_mem_nil
theorem guess_find (rs : List Rl) : guessOf (grps rs) = (once (rs.map Rl.k3)).find? fun k => decide (1 < cnt k (rs.map Rl.k3)) := by
  have ks := grps_keys rs
  have cn := grps_count rs
  unfold guessOf
  rw [← ks]
  revert cn
  generalize grps rs = G
  intro cn
  induction G with
  | nil => rfl
  | cons g G ih =>
    rw [List.map_cons, List.find?_cons, List.find?_cons, cn g List.mem_cons_self]
    cases decide (1 < cnt g.1 (rs.map Rl.k3)) with
    | true => rfl
    | false => exact ih fun x m => cn x (List.mem_cons_of_mem _ m)
theorem k3_up {x y : Rl} (h : ltT y.key x.key = false) : ltT y.k3 x.k3 = false := by
  have pre : ∀ (as bs cs ds : List Key), as.length = bs.length → as ≠ bs → ltT (as ++ cs) (bs ++ ds) = ltT as bs := by
    intro as
    induction as with
    | nil =>
      intro bs cs ds e ne
      cases bs with
      | nil => exact absurd rfl ne
      | cons => cases e
    | cons a as ih =>
      intro bs cs ds e ne
      cases bs with
      | nil => cases e
      | cons b bs =>
        show (if a = b then ltT (as ++ cs) (bs ++ ds) else ltKey a b) = if a = b then ltT as bs else ltKey a b
        by_cases c : a = b
        · rw [if_pos c, if_pos c]
          exact ih bs cs ds (Nat.succ.inj e) fun z => ne (by rw [c, z])
        · rw [if_neg c, if_neg c]
  by_cases c : y.k3 = x.k3
  · rw [c]; exact lin_tup.irr _
  · have z := pre y.k3 x.k3 y.a5 x.a5 rfl c
    rw [← z]
    exact h
theorem guess_adj {l : List Rl} (up : l.Pairwise fun x y => ltT y.key x.key = false) : guessOf (grps l) = adjK (l.map Rl.k3) := by
  rw [guess_find]
  exact find_adj lin_tup _ (List.pairwise_map.mpr (up.imp fun h => k3_up h))
theorem rulesOf_up (rs : List Rl) : (rulesOf rs).Pairwise fun x y => ltT y.key x.key = false := by
  have z := lin_tup.asc_up (rs.map Rl.key)
  rw [← rulesOf_keys] at z
  exact List.pairwise_map.mp z
end Mk

set_option maxRecDepth 100000
set_option linter.all false
/-! what is due, as data -/
namespace Mk
open PySem L2 Pk Sx
def keyD : Key → PyData
  | .inl n => .int n
  | .inr x => .str x
def rlD (r : Rl) : PyData := .tuple (r.key.map keyD)
def guessD : Option (List Key) → PyData
  | none => .none
  | some k => .tuple (k.map keyD)
def symsL (rs : List Rl) : List PySem.Str := asc ltText ((rs.map Rl.tp ++ rs.map Rl.sy).filter fun x => decide (x ≠ nil0))
def dueD (l : PySem.Str) (n : Int) (rs : List Rl) (ys : List Int) : PyData :=
  .tuple [.str l, .int n, .tuple ((rulesOf rs).map rlD), .tuple ((intsOf ys).map .int), .tuple ((symsL rs).map .str), guessD (adjK ((rulesOf rs).map Rl.k3))]
theorem rulesOf_mem (rs : List Rl) (r : Rl) : r ∈ rulesOf rs ↔ r ∈ rs := by
  have e : r.key ∈ (rulesOf rs).map Rl.key ↔ r.key ∈ rs.map Rl.key := by rw [rulesOf_keys, asc_mem]
  constructor
  · intro m
    obtain ⟨q, mq, eq⟩ := List.mem_map.mp (e.mp (List.mem_map.mpr ⟨r, m, rfl⟩))
    rw [← key_inj eq]
    exact mq
  · intro m
    obtain ⟨q, mq, eq⟩ := List.mem_map.mp (e.mpr (List.mem_map.mpr ⟨r, m, rfl⟩))
    rw [← key_inj eq]
    exact mq
theorem rulesOf_len (rs : List Rl) : (rulesOf rs).length ≤ rs.length := by
  unfold rulesOf
  rw [List.length_map]
  refine Nat.le_trans (asc_len _ _) ?_
  rw [List.length_map]
  exact Nat.le_refl _
theorem syms_same (rs : List Rl) : symsOf (rulesOf rs) = symsL rs := by
  unfold symsOf symsL
  refine lin_text.is_asc ?_ (lin_text.srt_up _) fun x => ?_
  · exact (srt_perm _ _).nodup_iff.mpr ((once_nodup _).filter _)
  · rw [(srt_perm _ _).mem_iff, List.mem_filter, List.mem_filter, once_mem, List.mem_append, List.mem_append]
    have tp : x ∈ (rulesOf rs).map Rl.tp ↔ x ∈ rs.map Rl.tp := by
      rw [List.mem_map, List.mem_map]
      exact ⟨fun ⟨r, m, e⟩ => ⟨r, (rulesOf_mem rs r).mp m, e⟩, fun ⟨r, m, e⟩ => ⟨r, (rulesOf_mem rs r).mpr m, e⟩⟩
    have sy : x ∈ (rulesOf rs).map Rl.sy ↔ x ∈ rs.map Rl.sy := by
      rw [List.mem_map, List.mem_map]
      exact ⟨fun ⟨r, m, e⟩ => ⟨r, (rulesOf_mem rs r).mp m, e⟩, fun ⟨r, m, e⟩ => ⟨r, (rulesOf_mem rs r).mpr m, e⟩⟩
    rw [tp, sy]
theorem guess_same (rs : List Rl) : guessOf (grps (rulesOf rs)) = adjK ((rulesOf rs).map Rl.k3) := guess_adj (rulesOf_up rs)
theorem adjK_step {κ : Type} [DecidableEq κ] : ∀ {l : List κ} {i : Nat} {a b : κ}, l[i]? = some a → l[i + 1]? = some b →
    adjK (l.take (i + 2)) = match adjK (l.take (i + 1)) with | some k => some k | none => if a = b then some a else none
  | [], i, a, b, e, _ => by simp at e
  | [x], i, a, b, _, e => by simp at e
  | x :: y :: r, 0, a, b, e1, e2 => by
    simp at e1 e2
    subst e1; subst e2
    show adjK [x, y] = _
    have z : adjK ((x :: y :: r).take (0 + 1)) = none := rfl
    rw [z]
    rfl
  | x :: y :: r, i + 1, a, b, e1, e2 => by
    have ih := adjK_step (l := y :: r) (i := i) (a := a) (b := b) (by simpa using e1) (by simpa using e2)
    have t1 : (x :: y :: r).take (i + 1 + 2) = x :: y :: r.take (i + 1) := rfl
    have t2 : (x :: y :: r).take (i + 1 + 1) = x :: y :: r.take i := rfl
    have t3 : (y :: r).take (i + 2) = y :: r.take (i + 1) := rfl
    have t4 : (y :: r).take (i + 1) = y :: r.take i := rfl
    rw [t1, t2]
    rw [t3, t4] at ih
    show (if x = y then some x else adjK (y :: r.take (i + 1))) = _
    rw [show adjK (x :: y :: r.take i) = if x = y then some x else adjK (y :: r.take i) from rfl]
    by_cases c : x = y
    · rw [if_pos c, if_pos c]
    · rw [if_neg c, if_neg c, ih]
/-! data in the heap -/
section
variable {K : PySem.W.Frag} {H : Hp}
theorem dpa_keys : ∀ k : List Key, DpAll K H (k.map kV) (k.map keyD)
  | [] => .nil
  | .inl n :: k => .cons (.int n) (dpa_keys k)
  | .inr x :: k => .cons (.str x) (dpa_keys k)
theorem dp_keys {p : Addr} {k : List Key} (h : H p = some (.tup (k.map kV))) : Dp K H (.ref p) (.tuple (k.map keyD)) := .tup (.inl (.inl h)) (dpa_keys k)
theorem dpa_rules : ∀ {R : Kept}, KeptAt H R → DpAll K H (refsK R) ((R.map (·.2)).map rlD)
  | [], _ => .nil
  | p :: R, h => .cons (dp_keys (k := p.2.key) (h p List.mem_cons_self)) (dpa_rules fun q m => h q (List.mem_cons_of_mem _ m))
theorem dpa_ints : ∀ ys : List Int, DpAll K H (ys.map V.int) (ys.map .int)
  | [] => .nil
  | y :: ys => .cons (.int y) (dpa_ints ys)
theorem dpa_strs : ∀ xs : List PySem.Str, DpAll K H (xs.map V.str) (xs.map .str)
  | [] => .nil
  | x :: xs => .cons (.str x) (dpa_strs xs)
theorem dp_guess {v : V} {g : Option (List Key)} (h : GuessV H v g) : Dp K H v (guessD g) := by
  cases g with
  | none =>
    have e : v = .non := h
    rw [e]
    exact .non
  | some k =>
    obtain ⟨q, e, t⟩ := h
    rw [e]
    exact dp_keys t
end
/-- the six attributes, or what is due of them -/
structure DueAt (H : Hp) (p : Addr) (l : PySem.Str) (n : Int) (rs : List Rl) (ys : List Int) : Prop where
  ex : ∃ (aR aY aS : Addr) (g : V) (R : Kept), H p = some (.tup [.str l, .int n, .ref aR, .ref aY, .ref aS, g]) ∧ H aR = some (.tup (refsK R)) ∧ KeptAt H R ∧ R.map (·.2) = rulesOf rs ∧
    H aY = some (.tup ((intsOf ys).map V.int)) ∧ H aS = some (.tup ((symsL rs).map V.str)) ∧ GuessV H g (adjK ((rulesOf rs).map Rl.k3))
theorem DueAt.dp {K : PySem.W.Frag} {H : Hp} {p : Addr} {l : PySem.Str} {n : Int} {rs : List Rl} {ys : List Int} (h : DueAt H p l n rs ys) : Dp K H (.ref p) (dueD l n rs ys) := by
  obtain ⟨aR, aY, aS, g, R, hp, hR, kR, eR, hY, hS, hg⟩ := h.ex
  refine .tup (.inl (.inl hp)) (.cons (.str l) (.cons (.int n) (.cons (.tup (.inl (.inl hR)) ?_) (.cons (.tup (.inl (.inl hY)) (dpa_ints _)) (.cons (.tup (.inl (.inl hS)) (dpa_strs _)) (.cons (dp_guess hg) .nil))))))
  rw [← eR]
  exact dpa_rules kR
/-- all tuples stay -/
def Tk (H H' : Hp) : Prop := ∀ b xs, H b = some (.tup xs) → H' b = some (.tup xs)
theorem Tk.of {H H' : Hp} (s : Same H H') : Tk H H' := fun b xs e => s b _ e
theorem Tk.trans {H H' H'' : Hp} (a : Tk H H') (b : Tk H' H'') : Tk H H'' := fun c xs e => b c xs (a c xs e)
theorem Tk.refl (H : Hp) : Tk H H := fun _ _ e => e
theorem Tk.put {H : Hp} {q : Addr} {o o' : HO} (h : H q = some o) (n : ∀ xs, o ≠ .tup xs) : Tk H (upd H q o') := fun b xs e => by
  have ne : b ≠ q := fun z => by
    rw [z, h] at e
    exact n xs (Option.some.inj e)
  rw [upd_ne ne]
  exact e
theorem GuessV.tk {H H' : Hp} {v : V} {g : Option (List Key)} (h : GuessV H v g) (t : Tk H H') : GuessV H' v g := by
  cases g with
  | none => exact h
  | some k =>
    obtain ⟨q, e, z⟩ := h
    exact ⟨q, e, t _ _ z⟩
theorem DueAt.tk {H H' : Hp} {p : Addr} {l : PySem.Str} {n : Int} {rs : List Rl} {ys : List Int} (h : DueAt H p l n rs ys) (t : Tk H H') : DueAt H' p l n rs ys := by
  obtain ⟨aR, aY, aS, g, R, hp, hR, kR, eR, hY, hS, hg⟩ := h.ex
  exact ⟨aR, aY, aS, g, R, t _ _ hp, t _ _ hR, fun q m => t _ _ (kR q m), eR, t _ _ hY, t _ _ hS, hg.tk t⟩
/-! comparing -/
theorem eqv_key (a b : Key) : PyData.eqv (keyD a) (keyD b) = decide (a = b) := by
  cases a with
  | inl x =>
    cases b with
    | inl y =>
      show (x == y) = _
      by_cases c : x = y
      · rw [c, decide_eq_true rfl]
        exact beq_iff_eq.mpr rfl
      · rw [decide_eq_false (fun z => c (Sum.inl.inj z))]
        exact Bool.eq_false_iff.mpr fun z => c (beq_iff_eq.mp z)
    | inr y => rw [decide_eq_false (fun z => nomatch z)]; rfl
  | inr x =>
    cases b with
    | inl y => rw [decide_eq_false (fun z => nomatch z)]; rfl
    | inr y =>
      show (x == y) = _
      by_cases c : x = y
      · rw [c, decide_eq_true rfl]
        exact beq_iff_eq.mpr rfl
      · rw [decide_eq_false (fun z => c (Sum.inr.inj z))]
        exact Bool.eq_false_iff.mpr fun z => c (beq_iff_eq.mp z)
theorem eqv_keys : ∀ a b : List Key, PyData.eqv (.tuple (a.map keyD)) (.tuple (b.map keyD)) = decide (a = b)
  | [], [] => rfl
  | [], _ :: _ => by rw [decide_eq_false (fun z => nomatch z)]; rfl
  | _ :: _, [] => by rw [decide_eq_false (fun z => nomatch z)]; rfl
  | x :: a, y :: b => by
    have ih := eqv_keys a b
    have e : PyData.eqv (.tuple ((x :: a).map keyD)) (.tuple ((y :: b).map keyD)) = (PyData.eqv (keyD x) (keyD y) && PyData.eqv (.tuple (a.map keyD)) (.tuple (b.map keyD))) := by
      simp [PyData.eqv, PyData.eqvAll]
    rw [e, ih, eqv_key]
    by_cases c : x = y
    · by_cases d : a = b
      · rw [decide_eq_true c, decide_eq_true d, decide_eq_true (by rw [c, d])]; rfl
      · rw [decide_eq_true c, decide_eq_false d, decide_eq_false (fun z => d (List.cons.inj z).2)]; rfl
    · rw [decide_eq_false c, decide_eq_false (fun z => c (List.cons.inj z).1)]; rfl
def KeyOk : Key → Prop
  | .inl _ => True
  | .inr x => ∀ c ∈ x.cps.toList, c < 1114112
theorem strOk_of {x : PySem.Str} (h : ∀ c ∈ x.cps.toList, c < 1114112) : PyData.strOk x = true := by
  unfold PyData.strOk
  rw [← Array.all_toList, List.all_eq_true]
  exact fun c m => decide_eq_true (h c m)
theorem lay_keys : ∀ k : List Key, (∀ x ∈ k, KeyOk x) → PyData.canLayAll0 (k.map keyD) = true ∧ PyData.depthAll (k.map keyD) = 0
  | [], _ => ⟨by simp [PyData.canLayAll0], by simp [PyData.depthAll]⟩
  | x :: k, h => by
    have ih := lay_keys k fun z m => h z (List.mem_cons_of_mem _ m)
    have hx := h x List.mem_cons_self
    cases x with
    | inl n => exact ⟨by simp [PyData.canLayAll0, PyData.canLay0, keyD, ih.1], by simp [PyData.depthAll, PyData.depth, keyD, ih.2]⟩
    | inr t =>
      have s : PyData.strOk t = true := strOk_of hx
      exact ⟨by simp [PyData.canLayAll0, PyData.canLay0, keyD, ih.1, s], by simp [PyData.depthAll, PyData.depth, keyD, ih.2]⟩
theorem shaped_keys {k : List Key} (h : ∀ x ∈ k, KeyOk x) : SeqAt.shaped (.tuple (k.map keyD)) = true := by
  obtain ⟨a, b⟩ := lay_keys k h
  unfold SeqAt.shaped
  simp [PyData.canLay0, PyData.depth, a, b]
/-- a rule in a list or a tuple -/
def rowD (b : Bool) (r : Rl) : PyData := match b with
  | true => .list (r.key.map keyD)
  | false => .tuple (r.key.map keyD)
theorem lay_rows : ∀ {rs : List (Bool × Rl)}, (∀ p ∈ rs, ∀ x ∈ p.2.key, KeyOk x) → PyData.canLayAll0 (rs.map fun p => rowD p.1 p.2) = true ∧ PyData.depthAll (rs.map fun p => rowD p.1 p.2) ≤ 1
  | [], _ => ⟨by simp [PyData.canLayAll0], by simp [PyData.depthAll]⟩
  | p :: rs, h => by
    have ih := lay_rows (rs := rs) fun q m => h q (List.mem_cons_of_mem _ m)
    have lp := lay_keys p.2.key (h p List.mem_cons_self)
    obtain ⟨b, r⟩ := p
    have one : PyData.canLay0 (rowD b r) = true ∧ PyData.depth (rowD b r) = 1 := by
      cases b with
      | true =>
        show PyData.canLay0 (.list (r.key.map keyD)) = true ∧ PyData.depth (.list (r.key.map keyD)) = 1
        exact ⟨by rw [PyData.canLay0]; exact lp.1, by rw [PyData.depth, lp.2]⟩
      | false =>
        show PyData.canLay0 (.tuple (r.key.map keyD)) = true ∧ PyData.depth (.tuple (r.key.map keyD)) = 1
        exact ⟨by rw [PyData.canLay0]; exact lp.1, by rw [PyData.depth, lp.2]⟩
    rw [List.map_cons]
    refine ⟨by rw [PyData.canLayAll0, one.1, ih.1]; rfl, ?_⟩
    rw [PyData.depthAll, one.2]
    omega
theorem shaped_rows {rs : List (Bool × Rl)} (h : ∀ p ∈ rs, ∀ x ∈ p.2.key, KeyOk x) : SeqAt.shaped (.list (rs.map fun p => rowD p.1 p.2)) = true ∧ PyData.eqv (.list (rs.map fun p => rowD p.1 p.2)) (.list (rs.map fun p => rowD p.1 p.2)) = true := by
  obtain ⟨a, b⟩ := lay_rows h
  have c : PyData.canLay0 (.list (rs.map fun p => rowD p.1 p.2)) = true := by
    unfold PyData.canLay0
    exact a
  refine ⟨?_, SeqAt.eqv_refl _ c⟩
  unfold SeqAt.shaped
  rw [c]
  have d : PyData.depth (.list (rs.map fun p => rowD p.1 p.2)) = PyData.depthAll (rs.map fun p => rowD p.1 p.2) + 1 := by simp [PyData.depth]
  rw [d]
  exact decide_eq_true (by omega)
theorem shaped_ints (ys : List Int) : SeqAt.shaped (.list (ys.map .int)) = true ∧ PyData.eqv (.list (ys.map .int)) (.list (ys.map .int)) = true := by
  have lay : ∀ ys : List Int, PyData.canLayAll0 (ys.map .int) = true ∧ PyData.depthAll (ys.map .int) = 0 := by
    intro ys
    induction ys with
    | nil => exact ⟨by simp [PyData.canLayAll0], by simp [PyData.depthAll]⟩
    | cons y ys ih => exact ⟨by simp only [List.map_cons, PyData.canLayAll0, PyData.canLay0, ih.1]; rfl, by simp only [List.map_cons, PyData.depthAll, PyData.depth, ih.2]; rfl⟩
  obtain ⟨a, b⟩ := lay ys
  have c : PyData.canLay0 (.list (ys.map .int)) = true := by
    unfold PyData.canLay0
    exact a
  refine ⟨?_, SeqAt.eqv_refl _ c⟩
  unfold SeqAt.shaped
  rw [c]
  have d : PyData.depth (.list (ys.map .int)) = PyData.depthAll (ys.map .int) + 1 := by simp [PyData.depth]
  rw [d, b]
  rfl
end Mk

set_option Elab.async false
set_option linter.unusedVariables false
set_option maxRecDepth 100000
set_option maxHeartbeats 8000000
namespace Mk
open PySem L2 Pk
theorem str_eqT {x y : PySem.Str} (h : TL.tl x = TL.tl y) : x = y := TL.ext_tl h
theorem sgn_two (a b : Nat) : sgn1 a ++ sgn1 b = (⟨[a, b].toArray⟩ : PySem.Str) := str_eqT (by rw [TL.tl_append] <;> rfl)
theorem sgn_three (a b c : Nat) : sgn1 a ++ sgn1 b ++ sgn1 c = (⟨[a, b, c].toArray⟩ : PySem.Str) := str_eqT (by rw [TL.tl_append, sgn_two] <;> rfl)
theorem alpha_two {a b : Nat} (h1 : 97 ≤ a) (h2 : a < b) (h3 : b ≤ 122) : Alpha (sgn1 a ++ sgn1 b) := by
  rw [sgn_two]
  refine alpha_of (fun c m => ?_) (show 1 ≤ 2 by decide) (show 2 ≤ 26 by decide) ?_
  · rcases List.mem_cons.mp m with rfl | m
    · exact ⟨h1, by omega⟩
    · rw [List.mem_singleton.mp m]; exact ⟨by omega, h3⟩
  · exact List.pairwise_cons.mpr ⟨fun x m => by rw [List.mem_singleton.mp m]; exact h2, List.pairwise_singleton _ _⟩
theorem alpha_three {a b c : Nat} (h1 : 97 ≤ a) (h2 : a < b) (h3 : b < c) (h4 : c ≤ 122) : Alpha (sgn1 a ++ sgn1 b ++ sgn1 c) := by
  rw [sgn_three]
  refine alpha_of (fun x m => ?_) (show 1 ≤ 3 by decide) (show 3 ≤ 26 by decide) ?_
  · rcases List.mem_cons.mp m with rfl | m
    · exact ⟨h1, by omega⟩
    · rcases List.mem_cons.mp m with rfl | m
      · exact ⟨by omega, by omega⟩
      · rw [List.mem_singleton.mp m]; exact ⟨by omega, h4⟩
  · refine List.pairwise_cons.mpr ⟨fun x m => ?_, List.pairwise_cons.mpr ⟨fun x m => ?_, List.pairwise_singleton _ _⟩⟩
    · rcases List.mem_cons.mp m with rfl | m
      · exact h2
      · rw [List.mem_singleton.mp m]; omega
    · rw [List.mem_singleton.mp m]; exact h3
section
variable {P : Program} {w : World} {K : PySem.W.Frag} {mg : PySem.Str → Option Value} {base : Heap}
/-! _law_alphabet -/
def spAlpha (K : PySem.W.Frag) : Sp := fun vs H Q _ => ∃ (a : Addr) (row : List Int) (d0 d1 d2 : Nat), vs = [.ref a] ∧ SqL K H a (row.map V.int) ∧ row[0]? = some (d0 : Int) ∧ row[1]? = some (d1 : Int) ∧ row[2]? = some (d2 : Int) ∧ d1 < 12 ∧ d2 < 13 ∧
  ∀ l : PySem.Str, Alpha l → l.length ≤ 3 → (d0 < 7 → l.length ≤ 2) → Q (.str l) H
theorem scAlpha : FnScope ["row", "letters", "second"] ["row"] (defScope sAlpha) := ⟨rfl, rfl, rfl, by decide +kernel, rfl, by decide +kernel, by decide +kernel⟩
theorem ok_alpha {f : Addr} {fd : FuncData} (F : Fun K "_law_alphabet" "_law_alphabet" sAlpha f fd) : FnOk P w K mg base CX0 1 f fd ["row"] (spAlpha K) := by
  refine F.ok scAlpha (fun vs H Q E h => ?_) (fun cdv A outer s H vs Q E hr h => ?_)
  · obtain ⟨a, row, d0, d1, d2, rfl, _⟩ := h
    rfl
  · obtain ⟨a, row, d0, d1, d2, rfl, hS, e0, e1, e2, b1, b2, k⟩ := h
    refine ⟨_, pss_cons (ps_set (i := 1) scAlpha.nd rfl (Or.inl rfl) pe_str)
      (pss_cons (ps_set (i := 2) scAlpha.nd rfl (Or.inl rfl) (pe_op op_add (pe_op op_add (pe_ix ix_list (pv 0) pe_int fun _ _ => rfl) pe_int) (pe_ix ix_list (pv 0) pe_int fun _ _ => rfl)))
      (pss_cons (ps_if (pt_cmpR op_lt (pe_ix ix_list (pv 0) pe_int fun _ _ => rfl) pe_int (nomark _)) (pss_one (ps_ret (pe_ix ix_str (pv 1) (pe_ix ix_list (pv 0) pe_int fun _ _ => rfl) fun _ _ => rfl))) pss_nil)
      (pss_cons (ps_if (pt_cmpR op_lt (pe_ix ix_list (pv 0) pe_int fun _ _ => rfl) pe_int (nomark _)) (pss_one (ps_ret (pe_op op_add_str (pe_ix ix_str (pv 1) (pe_ix ix_list (pv 0) pe_int fun _ _ => rfl) fun _ _ => rfl) (pe_ix ix_str (pv 1) (pv 2) fun _ _ => rfl)))) pss_nil)
      (pss_one (ps_ret (pe_op op_add_str (pe_op op_add_str (pe_ix ix_str (pv 1) (pe_ix ix_list (pv 0) pe_int fun _ _ => rfl) fun _ _ => rfl) (pe_ix ix_str (pv 1) (pv 2) fun _ _ => rfl)) (pe_ix ix_str (pv 1) pe_int fun _ _ => rfl))))))), ?_⟩
    have rowAt : ∀ {j : Nat} {d : Nat}, row[j]? = some (d : Int) → atI (row.map V.int) (j : Int) = some (V.int d) := fun {j d} e => atI_nat (by rw [List.getElem?_map, e]; rfl)
    have at_ : ∀ {j : Nat}, j < 26 → atI abc26.cps.toList (j : Int) = some (97 + j) := fun h => atI_nat (abc26_at h)
    have sz : abc26.length ≤ sizeLine := by decide +kernel
    have e3 : (d1 : Int) + 1 + (d2 : Int) = ((d1 + 1 + d2 : Nat) : Int) := by omega
    have two : (sgn1 (97 + d1)).length + (sgn1 (97 + (d1 + 1 + d2))).length ≤ sizeLine := (show 1 + 1 ≤ sizeLine by decide)
    refine ⟨_, rfl, a, _, _, _, rfl, rfl, hS, rowAt (j := 1) e1, _, _, rfl, rfl, _, rfl, a, _, _, _, rfl, rfl, hS, rowAt (j := 2) e2, _, _, rfl, rfl, ?_⟩
    refine ⟨_, rfl, a, _, _, _, rfl, rfl, hS, rowAt (j := 0) e0, _, _, rfl, rfl, _, rfl, ite2 (fun _ => ?_) (fun _ => ?_)⟩
    · refine ⟨_, rfl, _, rfl, a, _, _, _, rfl, rfl, hS, rowAt (j := 1) e1, abc26, _, 97 + d1, rfl, rfl, sz, at_ (by omega), ?_⟩
      exact k _ (alpha_one ⟨by omega, by omega⟩) (show 1 ≤ 3 by decide) (fun _ => show 1 ≤ 2 by decide)
    refine ⟨_, rfl, a, _, _, _, rfl, rfl, hS, rowAt (j := 0) e0, _, _, rfl, rfl, _, rfl, ite2 (fun _ => ?_) (fun e7 => ?_)⟩
    · refine ⟨_, rfl, _, rfl, a, _, _, _, rfl, rfl, hS, rowAt (j := 1) e1, abc26, _, 97 + d1, rfl, rfl, sz, at_ (by omega), _, rfl, _, rfl, abc26, _, 97 + (d1 + 1 + d2), rfl, rfl, sz, by rw [e3]; exact at_ (by omega), _, _, rfl, rfl, two, ?_⟩
      exact k _ (alpha_two (by omega) (by omega) (by omega)) (show 2 ≤ 3 by decide) (fun _ => show 2 ≤ 2 by decide)
    · refine ⟨_, rfl, _, rfl, a, _, _, _, rfl, rfl, hS, rowAt (j := 1) e1, abc26, _, 97 + d1, rfl, rfl, sz, at_ (by omega), _, rfl, _, rfl, abc26, _, 97 + (d1 + 1 + d2), rfl, rfl, sz, by rw [e3]; exact at_ (by omega), _, _, rfl, rfl, two, ?_⟩
      refine ⟨_, rfl, abc26, _, 97 + 25, rfl, rfl, sz, at_ (j := 25) (by decide), _, _, rfl, rfl, ?_, ?_⟩
      · exact (show 2 + 1 ≤ sizeLine by decide)
      · exact k _ (alpha_three (by omega) (by omega) (by omega) (by omega)) (show 3 ≤ 3 by decide) (fun z => absurd (decide_eq_true (show (d0 : Int) < 7 by omega)) e7)
end
end Mk

set_option Elab.async false
set_option linter.unusedVariables false
set_option maxRecDepth 100000
set_option maxHeartbeats 8000000
namespace Mk
open PySem L2 Pk
section
variable {P : Program} {w : World} {K : PySem.W.Frag} {mg : PySem.Str → Option Value} {base : Heap}
/-! _law_symbols -/
def spSyms : Sp := fun vs H Q _ => ∃ d : Nat, vs = [.int (d : Int)] ∧ d < 6 ∧ ∀ (p : Addr) (x y : PySem.Str) (H' : Hp), Same H H' → symB x = true → symB y = true → H' p = some (.lst [.str x, .str y]) → Q (.ref p) H'
theorem scSyms : FnScope ["digit"] ["digit"] (defScope sSyms) := ⟨rfl, rfl, rfl, by decide +kernel, rfl, by decide +kernel, by decide +kernel⟩
abbrev ls2 (x y : PySem.Str) : HO := .lst [.str x, .str y]
theorem ok_syms {f : Addr} {fd : FuncData} (F : Fun K "_law_symbols" "_law_symbols" sSyms f fd) : FnOk P w K mg base CX0 1 f fd ["digit"] spSyms := by
  refine F.ok scSyms (fun vs H Q E h => ?_) (fun cdv A outer s H vs Q E hr h => ?_)
  · obtain ⟨d, rfl, _⟩ := h
    rfl
  · obtain ⟨d, rfl, hd, k⟩ := h
    refine ⟨_, pss_one (ps_ret (pe_ix ix_list (pe_lst (pa_cons (pe_lst (pa_cons pe_str (pa_cons pe_str pa_nil))) (pa_cons (pe_lst (pa_cons pe_str (pa_cons pe_str pa_nil))) (pa_cons (pe_lst (pa_cons pe_str (pa_cons pe_str pa_nil)))
        (pa_cons (pe_lst (pa_cons pe_str (pa_cons pe_str pa_nil))) (pa_cons (pe_lst (pa_cons pe_str (pa_cons pe_str pa_nil))) (pa_cons (pe_lst (pa_cons pe_str (pa_cons pe_str pa_nil))) pa_nil))))))) (pv 0) fun _ _ => rfl)), ?_⟩
    have le3 : (2 : Nat) ≤ sizeLine := by decide
    refine ⟨le3, fun q1 n1 => ?_⟩
    have t1 := same_new (o := ls2 (PySem.Str.ofString "x") (PySem.Str.ofString "y")) n1
    have h1 : (upd H q1 (ls2 (PySem.Str.ofString "x") (PySem.Str.ofString "y"))) q1 = some (ls2 (PySem.Str.ofString "x") (PySem.Str.ofString "y")) := upd_same
    generalize upd H q1 (ls2 (PySem.Str.ofString "x") (PySem.Str.ofString "y")) = H1 at t1 h1 ⊢
    refine ⟨le3, fun q2 n2 => ?_⟩
    have t2 := same_new (o := ls2 (PySem.Str.ofString "a") (PySem.Str.ofString "aa")) n2
    have h2 : (upd H1 q2 (ls2 (PySem.Str.ofString "a") (PySem.Str.ofString "aa"))) q2 = some (ls2 (PySem.Str.ofString "a") (PySem.Str.ofString "aa")) := upd_same
    generalize upd H1 q2 (ls2 (PySem.Str.ofString "a") (PySem.Str.ofString "aa")) = H2 at t2 h2 ⊢
    refine ⟨le3, fun q3 n3 => ?_⟩
    have t3 := same_new (o := ls2 (PySem.Str.ofString "Q1") (PySem.Str.ofString "Q2")) n3
    have h3 : (upd H2 q3 (ls2 (PySem.Str.ofString "Q1") (PySem.Str.ofString "Q2"))) q3 = some (ls2 (PySem.Str.ofString "Q1") (PySem.Str.ofString "Q2")) := upd_same
    generalize upd H2 q3 (ls2 (PySem.Str.ofString "Q1") (PySem.Str.ofString "Q2")) = H3 at t3 h3 ⊢
    refine ⟨le3, fun q4 n4 => ?_⟩
    have t4 := same_new (o := ls2 (PySem.Str.ofString "eightsym") (PySem.Str.ofString "eightsyn")) n4
    have h4 : (upd H3 q4 (ls2 (PySem.Str.ofString "eightsym") (PySem.Str.ofString "eightsyn"))) q4 = some (ls2 (PySem.Str.ofString "eightsym") (PySem.Str.ofString "eightsyn")) := upd_same
    generalize upd H3 q4 (ls2 (PySem.Str.ofString "eightsym") (PySem.Str.ofString "eightsyn")) = H4 at t4 h4 ⊢
    refine ⟨le3, fun q5 n5 => ?_⟩
    have t5 := same_new (o := ls2 (PySem.Str.ofString "7") (PySem.Str.ofString "12")) n5
    have h5 : (upd H4 q5 (ls2 (PySem.Str.ofString "7") (PySem.Str.ofString "12"))) q5 = some (ls2 (PySem.Str.ofString "7") (PySem.Str.ofString "12")) := upd_same
    generalize upd H4 q5 (ls2 (PySem.Str.ofString "7") (PySem.Str.ofString "12")) = H5 at t5 h5 ⊢
    refine ⟨le3, fun q6 n6 => ?_⟩
    have t6 := same_new (o := ls2 (PySem.Str.ofString "Z") (PySem.Str.ofString "z")) n6
    have h6 : (upd H5 q6 (ls2 (PySem.Str.ofString "Z") (PySem.Str.ofString "z"))) q6 = some (ls2 (PySem.Str.ofString "Z") (PySem.Str.ofString "z")) := upd_same
    generalize upd H5 q6 (ls2 (PySem.Str.ofString "Z") (PySem.Str.ofString "z")) = H6 at t6 h6 ⊢
    refine ⟨show 6 ≤ sizeLine by decide, fun q9 n9 => ?_⟩
    have t9 := same_new (o := HO.lst ([.ref q1, .ref q2, .ref q3, .ref q4, .ref q5, .ref q6])) n9
    have h9 : (upd H6 q9 (.lst ([.ref q1, .ref q2, .ref q3, .ref q4, .ref q5, .ref q6]))) q9 = some (.lst [.ref q1, .ref q2, .ref q3, .ref q4, .ref q5, .ref q6]) := upd_same
    show (tVar 0) _ (upd H6 q9 (.lst ([.ref q1, .ref q2, .ref q3, .ref q4, .ref q5, .ref q6]))) _
    generalize upd H6 q9 (.lst ([.ref q1, .ref q2, .ref q3, .ref q4, .ref q5, .ref q6])) = H9 at t9 h9 ⊢
    have s69 := t6.trans t9
    have s59 := t5.trans s69
    have s49 := t4.trans s59
    have s39 := t3.trans s49
    have s29 := t2.trans s39
    have sAll := t1.trans s29
    have c : d = 0 ∨ d = 1 ∨ d = 2 ∨ d = 3 ∨ d = 4 ∨ d = 5 := by omega
    rcases c with rfl | rfl | rfl | rfl | rfl | rfl
    · exact ⟨_, rfl, q9, _, 0, .ref q1, rfl, rfl, SqL.of h9, rfl, k q1 _ _ _ sAll (by decide +kernel) (by decide +kernel) (s29 _ _ h1)⟩
    · exact ⟨_, rfl, q9, _, 1, .ref q2, rfl, rfl, SqL.of h9, rfl, k q2 _ _ _ sAll (by decide +kernel) (by decide +kernel) (s39 _ _ h2)⟩
    · exact ⟨_, rfl, q9, _, 2, .ref q3, rfl, rfl, SqL.of h9, rfl, k q3 _ _ _ sAll (by decide +kernel) (by decide +kernel) (s49 _ _ h3)⟩
    · exact ⟨_, rfl, q9, _, 3, .ref q4, rfl, rfl, SqL.of h9, rfl, k q4 _ _ _ sAll (by decide +kernel) (by decide +kernel) (s59 _ _ h4)⟩
    · exact ⟨_, rfl, q9, _, 4, .ref q5, rfl, rfl, SqL.of h9, rfl, k q5 _ _ _ sAll (by decide +kernel) (by decide +kernel) (s69 _ _ h5)⟩
    · exact ⟨_, rfl, q9, _, 5, .ref q6, rfl, rfl, SqL.of h9, rfl, k q6 _ _ _ sAll (by decide +kernel) (by decide +kernel) (t9 _ _ h6)⟩
end
end Mk

set_option Elab.async false
set_option linter.unusedVariables false
set_option maxRecDepth 100000
set_option maxHeartbeats 8000000
namespace Mk
open PySem L2 Pk
def menu1 : List PySem.Str := [keep0, push0, pop0, pop0, push0, swap0, push0, pop0]
def menu2 : List PySem.Str := [push0, push0, keep0, push0, keep0, keep0, push0, keep0]
def saids : List PySem.Str := ["", "", "", "", "a", "b", "ab", "", "", "k", "", "xyz"].map PySem.Str.ofString
theorem menu1_at : ∀ d, d < 8 → ∃ x, menu1[d]? = some x ∧ (x = keep0 ∨ x = pop0 ∨ x = push0 ∨ x = swap0) := by
  intro d h
  have c : d = 0 ∨ d = 1 ∨ d = 2 ∨ d = 3 ∨ d = 4 ∨ d = 5 ∨ d = 6 ∨ d = 7 := by omega
  rcases c with rfl | rfl | rfl | rfl | rfl | rfl | rfl | rfl
  · exact ⟨keep0, rfl, .inl rfl⟩
  · exact ⟨push0, rfl, .inr (.inr (.inl rfl))⟩
  · exact ⟨pop0, rfl, .inr (.inl rfl)⟩
  · exact ⟨pop0, rfl, .inr (.inl rfl)⟩
  · exact ⟨push0, rfl, .inr (.inr (.inl rfl))⟩
  · exact ⟨swap0, rfl, .inr (.inr (.inr rfl))⟩
  · exact ⟨push0, rfl, .inr (.inr (.inl rfl))⟩
  · exact ⟨pop0, rfl, .inr (.inl rfl)⟩
theorem menu2_at : ∀ d, d < 8 → ∃ x, menu2[d]? = some x ∧ (x = keep0 ∨ x = push0) := by
  intro d h
  have c : d = 0 ∨ d = 1 ∨ d = 2 ∨ d = 3 ∨ d = 4 ∨ d = 5 ∨ d = 6 ∨ d = 7 := by omega
  rcases c with rfl | rfl | rfl | rfl | rfl | rfl | rfl | rfl
  · exact ⟨push0, rfl, .inr rfl⟩
  · exact ⟨push0, rfl, .inr rfl⟩
  · exact ⟨keep0, rfl, .inl rfl⟩
  · exact ⟨push0, rfl, .inr rfl⟩
  · exact ⟨keep0, rfl, .inl rfl⟩
  · exact ⟨keep0, rfl, .inl rfl⟩
  · exact ⟨push0, rfl, .inr rfl⟩
  · exact ⟨keep0, rfl, .inl rfl⟩
theorem saids_at : ∀ d, d < 12 → ∃ x, saids[d]? = some x ∧ lowB x = true ∧ x.length ≤ 3 := by
  have all : ∀ d, d < 12 → ∃ x, saids[d]? = some x := fun d h => ⟨saids[d]'h, List.getElem?_eq_getElem h⟩
  have ok : ∀ x ∈ saids, lowB x = true ∧ x.length ≤ 3 := by decide +kernel
  intro d h
  obtain ⟨x, e⟩ := all d h
  exact ⟨x, e, ok x (List.mem_of_getElem? e)⟩
theorem moves_at : ∀ d, d < 6 → ∃ v : Int, ([V.int 1, V.int 1, V.int 1, V.int (-1), V.int (-1), V.int 0] : List V)[d]? = some (.int v) ∧ -1 ≤ v ∧ v ≤ 1 := by
  intro d h
  have c : d = 0 ∨ d = 1 ∨ d = 2 ∨ d = 3 ∨ d = 4 ∨ d = 5 := by omega
  rcases c with rfl | rfl | rfl | rfl | rfl | rfl
  · exact ⟨1, rfl, by omega, by omega⟩
  · exact ⟨1, rfl, by omega, by omega⟩
  · exact ⟨1, rfl, by omega, by omega⟩
  · exact ⟨-1, rfl, by omega, by omega⟩
  · exact ⟨-1, rfl, by omega, by omega⟩
  · exact ⟨0, rfl, by omega, by omega⟩
section
variable {P : Program} {w : World} {K : PySem.W.Frag} {mg : PySem.Str → Option Value} {base : Heap}
/-- five digits of an act -/
structure ActRow (row : List Int) (d0 d1 d2 d3 d4 : Nat) : Prop where
  e0 : row[0]? = some (d0 : Int)
  e1 : row[1]? = some (d1 : Int)
  e2 : row[2]? = some (d2 : Int)
  e3 : row[3]? = some (d3 : Int)
  e4 : row[4]? = some (d4 : Int)
  b1 : d1 < 6
  b2 : d2 < 8
  b4 : d4 < 12
def spAct (K : PySem.W.Frag) : Sp := fun vs H Q _ => ∃ (aR aS : Addr) (row : List Int) (d0 d1 d2 d3 d4 : Nat) (n : Int) (l sg tp : PySem.Str) (ss : List PySem.Str), vs = [.ref aR, .int n, .ref aS, .str sg, .str tp] ∧ SqL K H aR (row.map V.int) ∧ ActRow row d0 d1 d2 d3 d4 ∧
  SqL K H aS (ss.map V.str) ∧ 1 ≤ n ∧ ss ≠ [] ∧ (∀ x ∈ ss, symB x = true) ∧ Sgn l sg ∧ Top tp ∧ Q .non H ∧
  ∀ (p : Addr) (r : Rl) (H' : Hp), Same H H' → r.sg = sg → r.tp = tp → RlOk l n r → H' p = some (.tup (r.a5.map kV)) → Q (.ref p) H'
abbrev nAct : List PySem.Str := ["row", "states", "symbols", "sign", "top", "deed", "move", "symbol", "said"]
theorem scAct : FnScope nAct ["row", "states", "symbols", "sign", "top"] (defScope sAct) := ⟨rfl, rfl, rfl, by decide +kernel, rfl, by decide +kernel, by decide +kernel⟩
theorem ok_act {f : Addr} {fd : FuncData} (F : Fun K "_law_act" "_law_act" sAct f fd) (T : TM mg) : FnOk P w K mg base CX0 1 f fd ["row", "states", "symbols", "sign", "top"] (spAct K) := by
  refine F.ok scAct (fun vs H Q E h => ?_) (fun cdv A outer s H vs Q E hr h => ?_)
  · obtain ⟨aR, aS, row, d0, d1, d2, d3, d4, n, l, sg, tp, ss, rfl, _⟩ := h
    rfl
  · obtain ⟨aR, aS, row, d0, d1, d2, d3, d4, n, l, sg, tp, ss, rfl, hS, AR, hSS, n1, ne, oks, hsg, htp, kn, k⟩ := h
    have nd := scAct.nd
    refine ⟨_, C8.pss_cut (ps_if (PW.pt (pw_and (pt_cmpR op_eq (pe_ix ix_list (pv 0) pe_int fun _ _ => rfl) pe_int (nomark _)) (pw_and1 (pt_cmpR op_lt (pe_ix ix_list (pv 0) pe_int fun _ _ => rfl) pe_int (nomark _))))) (pss_one (ps_ret pe_non)) pss_nil)
      (pss_cons (ps_set (i := 5) nd rfl (Or.inl rfl) (pe_ix ix_list (pe_lst (pa_cons pe_str (pa_cons pe_str (pa_cons pe_str (pa_cons pe_str (pa_cons pe_str (pa_cons pe_str (pa_cons pe_str (pa_cons pe_str pa_nil))))))))) (pe_ix ix_list (pv 0) pe_int fun _ _ => rfl) fun _ _ => rfl))
      (C8.pss_cut (ps_if (pt_cmpR op_eq (pv 4) pe_str (nomark _)) (pss_one (ps_set (i := 5) nd rfl (Or.inl rfl) (pe_ix ix_list (pe_lst (pa_cons pe_str (pa_cons pe_str (pa_cons pe_str (pa_cons pe_str (pa_cons pe_str (pa_cons pe_str (pa_cons pe_str (pa_cons pe_str pa_nil))))))))) (pe_ix ix_list (pv 0) pe_int fun _ _ => rfl) fun _ _ => rfl))) pss_nil)
      (pss_cons (ps_set (i := 6) nd rfl (Or.inl rfl) (pe_ix ix_list (pe_lst (pa_cons pe_int (pa_cons pe_int (pa_cons pe_int (pa_cons (pe_un un_neg pe_int) (pa_cons (pe_un un_neg pe_int) (pa_cons pe_int pa_nil))))))) (pe_ix ix_list (pv 0) pe_int fun _ _ => rfl) fun _ _ => rfl))
      (C8.pss_cut (ps_if (PW.pt (pw_and (pt_cmpR op_eq (pv 6) pe_int (nomark _)) (pw_and (pt_cmpR op_eq (pv 5) pe_str (nomark _)) (pw_and1 (pt_cmpR op_eq (pe_op op_mod (pe_callTy call_int1 (by rfl) T.int PyProof.Rows.Boot.int (pa_cons (pe_ix ix_list (pv 0) pe_int fun _ _ => rfl) pa_nil)) pe_int) pe_int (nomark _))))))
          (pss_one (ps_set (i := 6) nd rfl (Or.inl rfl) pe_int)) pss_nil)
      (C8.pss_cut (ps_if (pt_cmpR op_eq (pv 3) pe_str (nomark _)) (pss_one (ps_set (i := 6) nd rfl (Or.inl rfl) (pe_callB call_abs (by rfl) T.abs (by decide +kernel) (pa_cons (pv 6) pa_nil)))) pss_nil)
      (C8.pss_cut (ps_if (pt_cmpR op_eq (pv 3) pe_str (nomark _)) (pss_one (ps_set (i := 6) nd rfl (Or.inl rfl) (pe_un un_neg (pe_callB call_abs (by rfl) T.abs (by decide +kernel) (pa_cons (pv 6) pa_nil))))) pss_nil)
      (pss_cons (ps_set (i := 7) nd rfl (Or.inl rfl) pe_str)
      (C8.pss_cut (ps_if (PW.pt (pw_or (pt_cmpR op_eq (pv 5) pe_str (nomark _)) (pw_or1 (pt_cmpR op_eq (pv 5) pe_str (nomark _))))) (pss_one (ps_set (i := 7) nd rfl (Or.inl rfl) (pe_ix ix_list (pv 2) (pe_op op_mod (pe_callTy call_int1 (by rfl) T.int PyProof.Rows.Boot.int (pa_cons (pe_ix ix_list (pv 0) pe_int fun _ _ => rfl) pa_nil))
          (pe_callB call_len_seq (by rfl) T.len PySem.boot_len (pa_cons (pv 2) pa_nil))) fun _ _ => rfl))) pss_nil)
      (pss_cons (ps_set (i := 8) nd rfl (Or.inl rfl) (pe_ix ix_list (pe_lst (pa_cons pe_str (pa_cons pe_str (pa_cons pe_str (pa_cons pe_str (pa_cons pe_str (pa_cons pe_str (pa_cons pe_str (pa_cons pe_str (pa_cons pe_str (pa_cons pe_str (pa_cons pe_str (pa_cons pe_str pa_nil))))))))))))) (pe_ix ix_list (pv 0) pe_int fun _ _ => rfl) fun _ _ => rfl))
      (pss_one (ps_ret (pe_tup (pa_cons (pe_op op_mod (pe_callTy call_int1 (by rfl) T.int PyProof.Rows.Boot.int (pa_cons (pe_ix ix_list (pv 0) pe_int fun _ _ => rfl) pa_nil)) (pv 1)) (pa_cons (pv 6) (pa_cons (pv 5) (pa_cons (pv 7) (pa_cons (pv 8) pa_nil))))))))))))))))), ?_⟩
    have rowAt : ∀ {j : Nat} {d : Nat}, row[j]? = some (d : Int) → atI (row.map V.int) (j : Int) = some (V.int d) := fun {j d} e => atI_nat (by rw [List.getElem?_map, e]; rfl)
    have b1 := AR.b1
    have b2 := AR.b2
    have b4 := AR.b4
    refine ⟨fun σ' H' => σ' = [some (.ref aR), some (.int n), some (.ref aS), some (.str sg), some (.str tp), none, none, none, none] ∧ H' = H, ?_, ?_⟩
    · refine ⟨_, rfl, aR, _, _, _, rfl, rfl, hS, rowAt (j := 0) AR.e0, rfl, _, rfl, ite2 (fun _ => ?_) (fun _ => ⟨rfl, rfl⟩)⟩
      exact ⟨_, rfl, aR, _, _, _, rfl, rfl, hS, rowAt (j := 1) AR.e1, _, _, rfl, rfl, _, rfl, ite2 (fun _ => kn) (fun _ => ⟨rfl, rfl⟩)⟩
    rintro _ H0 ⟨rfl, e00⟩
    replace hS : SqL K H0 aR (row.map V.int) := by rw [e00]; exact hS
    replace hSS : SqL K H0 aS (ss.map V.str) := by rw [e00]; exact hSS
    rw [← e00] at k
    -- deed
    obtain ⟨x1, ex1, ox1⟩ := menu1_at d2 b2
    obtain ⟨x2, ex2, ox2⟩ := menu2_at d2 b2
    obtain ⟨sa, esa, lsa, tsa⟩ := saids_at d4 b4
    obtain ⟨m0, em0', lm0, hm0⟩ := moves_at d1 b1
    refine ⟨show 8 ≤ sizeLine by decide, fun q1 n1 => ?_⟩
    have t1 := same_new (o := HO.lst (menu1.map V.str)) n1
    refine ⟨_, rfl, aR, _, _, _, rfl, rfl, t1.seq hS, rowAt (j := 2) AR.e2, q1, _, _, .str x1, rfl, rfl, SqL.of upd_same, atI_nat (xs := menu1.map V.str) (by rw [List.getElem?_map, ex1] <;> rfl), ?_⟩
    dsimp only [gName]
    show (C8.tCut _ _) _ _ (upd H0 q1 (.lst (menu1.map V.str)))
    generalize upd H0 q1 (.lst (menu1.map V.str)) = H1 at t1 ⊢
    refine ⟨fun σ' H' => ∃ de : PySem.Str, σ' = [some (.ref aR), some (.int n), some (.ref aS), some (.str sg), some (.str tp), some (.str de), none, none, none] ∧ Same H0 H' ∧ (de = keep0 ∨ de = pop0 ∨ de = push0 ∨ de = swap0) ∧ (tp = nil0 → de = keep0 ∨ de = push0), ?_, ?_⟩
    · refine ⟨_, rfl, rfl, _, rfl, ?_⟩
      rw [show decide (V.str tp = V.str (PySem.Str.ofString "")) = decide (tp = nil0) from dec_str tp nil0]
      refine ite2 (fun e => ?_) (fun e => ?_)
      · refine ⟨show 8 ≤ sizeLine by decide, fun q2 n2 => ?_⟩
        have t2 := t1.trans (same_new (o := HO.lst (menu2.map V.str)) n2)
        refine ⟨_, rfl, aR, _, _, _, rfl, rfl, t2.seq hS, rowAt (j := 2) AR.e2, q2, _, _, .str x2, rfl, rfl, SqL.of upd_same, atI_nat (xs := menu2.map V.str) (by rw [List.getElem?_map, ex2] <;> rfl), ?_⟩
        refine ⟨x2, rfl, t2, ?_, fun _ => ox2⟩
        rcases ox2 with z | z
        · exact .inl z
        · exact .inr (.inr (.inl z))
      · exact ⟨x1, rfl, t1, ox1, fun z => absurd (decide_eq_true z) e⟩
    rintro _ H2 ⟨de, rfl, s2, oneD, lowD⟩
    clear t1 n1
    -- move
    refine ⟨_, rfl, _, rfl, show 6 ≤ sizeLine by decide, fun q3 n3 => ?_⟩
    have t3 := s2.trans (same_new (o := HO.lst [V.int 1, V.int 1, V.int 1, V.int (-1), V.int (-1), V.int 0]) n3)
    refine ⟨_, rfl, aR, _, _, _, rfl, rfl, t3.seq hS, rowAt (j := 1) AR.e1, q3, _, _, .int m0, rfl, rfl, SqL.of upd_same, atI_nat em0', ?_⟩
    dsimp only [gName]
    show (C8.tCut _ _) _ _ (upd H2 q3 (.lst [V.int 1, V.int 1, V.int 1, V.int (-1), V.int (-1), V.int 0]))
    generalize upd H2 q3 (.lst [V.int 1, V.int 1, V.int 1, V.int (-1), V.int (-1), V.int 0]) = H3 at t3 ⊢
    clear s2 n3
    have hS3 := t3.seq hS
    have hSS3 := t3.seq hSS
    refine ⟨fun σ' H' => ∃ mv : Int, σ' = [some (.ref aR), some (.int n), some (.ref aS), some (.str sg), some (.str tp), some (.str de), some (.int mv), none, none] ∧ H' = H3 ∧ -1 ≤ mv ∧ mv ≤ 1, ?_, ?_⟩
    · refine ⟨_, rfl, rfl, _, rfl, ite2 (fun _ => ?_) (fun _ => ⟨m0, rfl, rfl, lm0, hm0⟩)⟩
      refine ⟨_, rfl, rfl, _, rfl, ite2 (fun _ => ?_) (fun _ => ⟨m0, rfl, rfl, lm0, hm0⟩)⟩
      refine ⟨_, rfl, aR, _, _, _, rfl, rfl, hS3, rowAt (j := 3) AR.e3, .inl ⟨_, rfl, _, _, rfl, rfl, show (0 : Int) < 2 by decide, rfl, _, rfl, ite2 (fun _ => ?_) (fun _ => ⟨m0, rfl, rfl, lm0, hm0⟩)⟩⟩
      exact ⟨1, rfl, rfl, by decide, by decide⟩
    rintro _ H4 ⟨m1, rfl, e44, lo1, hi1⟩
    obtain rfl : H3 = H4 := e44.symm
    refine ⟨fun σ' H' => ∃ mv : Int, σ' = [some (.ref aR), some (.int n), some (.ref aS), some (.str sg), some (.str tp), some (.str de), some (.int mv), none, none] ∧ H' = H3 ∧ -1 ≤ mv ∧ mv ≤ 1 ∧ (sg = lt0 → 0 ≤ mv), ?_, ?_⟩
    · refine ⟨_, rfl, rfl, _, rfl, ?_⟩
      rw [show decide (V.str sg = V.str (PySem.Str.ofString "<")) = decide (sg = lt0) from dec_str sg lt0]
      refine ite2 (fun e => ?_) (fun e => ?_)
      · refine ⟨_, rfl, _, rfl, ?_⟩
        refine ⟨_, rfl, rfl, ?_, ?_, fun _ => ?_⟩ <;> (split <;> omega)
      · exact ⟨_, rfl, rfl, lo1, hi1, fun z => absurd (decide_eq_true z) e⟩
    rintro _ H4 ⟨m2, rfl, e44, lo2, hi2, lt2⟩
    obtain rfl : H3 = H4 := e44.symm
    refine ⟨fun σ' H' => ∃ mv : Int, σ' = [some (.ref aR), some (.int n), some (.ref aS), some (.str sg), some (.str tp), some (.str de), some (.int mv), none, none] ∧ H' = H3 ∧ Mv sg mv, ?_, ?_⟩
    · refine ⟨_, rfl, rfl, _, rfl, ?_⟩
      rw [show decide (V.str sg = V.str (PySem.Str.ofString ">")) = decide (sg = gt0) from dec_str sg gt0]
      refine ite2 (fun e => ?_) (fun e => ?_)
      · have eg : sg = gt0 := of_decide_eq_true e
        refine ⟨_, rfl, _, rfl, _, rfl, ?_⟩
        have ab : 0 ≤ (if m2 < 0 then -m2 else m2) ∧ (if m2 < 0 then -m2 else m2) ≤ 1 := by split <;> omega
        refine ⟨_, rfl, rfl, by omega, by omega, fun z => ?_, fun _ => by omega⟩
        rw [eg] at z
        exact absurd z (by decide +kernel)
      · refine ⟨m2, rfl, rfl, lo2, hi2, fun z => ?_, fun z => absurd (decide_eq_true z) e⟩
        have := lt2 z
        omega
    rintro _ H4 ⟨mv, rfl, e44, mvOk⟩
    obtain rfl : H3 = H4 := e44.symm
    -- symbol
    obtain ⟨s0, es0⟩ : ∃ x, ss[d3 % ss.length]? = some x := ⟨_, List.getElem?_eq_getElem (Nat.mod_lt _ (List.length_pos_iff.mpr ne))⟩
    have os0 := oks s0 (List.mem_of_getElem? es0)
    have pos : (0 : Int) < (((ss.map V.str).length : Nat) : Int) := by rw [List.length_map]; have := List.length_pos_iff.mpr ne; omega
    have ei : (d3 : Int) % (((ss.map V.str).length : Nat) : Int) = ((d3 % ss.length : Nat) : Int) := by rw [List.length_map]; omega
    refine ⟨fun σ' H' => ∃ sy : PySem.Str, σ' = [some (.ref aR), some (.int n), some (.ref aS), some (.str sg), some (.str tp), some (.str de), some (.int mv), some (.str sy), none] ∧ H' = H3 ∧ (de = push0 ∨ de = swap0 → symB sy = true) ∧ (de = keep0 ∨ de = pop0 → sy = nil0), ?_, ?_⟩
    · have ep : decide (V.str de = V.str (PySem.Str.ofString "push")) = decide (de = push0) := dec_str de push0
      have es : decide (V.str de = V.str (PySem.Str.ofString "swap")) = decide (de = swap0) := dec_str de swap0
      have np : push0 ≠ keep0 ∧ push0 ≠ pop0 ∧ swap0 ≠ keep0 ∧ swap0 ≠ pop0 := by decide +kernel
      refine ⟨_, rfl, rfl, _, rfl, ?_⟩
      rw [ep]
      refine ite2 (fun y => ?_) (fun y => ?_)
      · have yy := of_decide_eq_true y
        refine iteT ?_
        refine ⟨_, rfl, _, rfl, aR, _, _, _, rfl, rfl, hS3, rowAt (j := 3) AR.e3, .inl ⟨_, rfl, _, rfl, aS, _, rfl, .inl hSS3, _, _, rfl, rfl, pos, aS, _, _, .str s0, rfl, rfl, hSS3, by rw [ei]; exact atI_nat (by rw [List.getElem?_map, es0] <;> rfl), ?_⟩⟩
        refine ⟨s0, rfl, rfl, fun _ => os0, fun z => ?_⟩
        rw [yy] at z
        exact (z.elim np.1 np.2.1).elim
      · refine ⟨_, rfl, rfl, _, rfl, ?_⟩
        rw [es]
        refine ite2 (fun y2 => ?_) (fun y2 => ?_)
        · have yy := of_decide_eq_true y2
          refine ⟨_, rfl, _, rfl, aR, _, _, _, rfl, rfl, hS3, rowAt (j := 3) AR.e3, .inl ⟨_, rfl, _, rfl, aS, _, rfl, .inl hSS3, _, _, rfl, rfl, pos, aS, _, _, .str s0, rfl, rfl, hSS3, by rw [ei]; exact atI_nat (by rw [List.getElem?_map, es0] <;> rfl), ?_⟩⟩
          refine ⟨s0, rfl, rfl, fun _ => os0, fun z => ?_⟩
          rw [yy] at z
          exact (z.elim np.2.2.1 np.2.2.2).elim
        · exact ⟨nil0, rfl, rfl, fun z => (z.elim (fun z => y (decide_eq_true z)) fun z => y2 (decide_eq_true z)).elim, fun _ => rfl⟩
    rintro _ H4 ⟨sy, rfl, e44, sySym, syNo⟩
    obtain rfl : H3 = H4 := e44.symm
    -- said
    refine ⟨show 12 ≤ sizeLine by decide, fun q4 n4 => ?_⟩
    have t4 := t3.trans (same_new (o := HO.lst (saids.map V.str)) n4)
    refine ⟨_, rfl, aR, _, _, _, rfl, rfl, t4.seq hS, rowAt (j := 4) AR.e4, q4, _, _, .str sa, rfl, rfl, SqL.of upd_same, atI_nat (xs := saids.map V.str) (by rw [List.getElem?_map, esa] <;> rfl), ?_⟩
    have st : 0 ≤ (d0 : Int) % n ∧ (d0 : Int) % n ≤ n - 1 := ⟨Int.emod_nonneg _ (by omega), by have := Int.emod_lt_of_pos (d0 : Int) (show 0 < n by omega); omega⟩
    refine ⟨_, rfl, aR, _, _, _, rfl, rfl, t4.seq hS, rowAt (j := 0) AR.e0, .inl ⟨_, rfl, _, rfl, _, _, rfl, rfl, by omega, _, rfl, _, rfl, _, rfl, _, rfl, show 5 ≤ sizeLine by decide, fun p np => ?_⟩⟩
    exact k p ⟨0, sg, tp, (d0 : Int) % n, mv, de, sy, sa⟩ _ (t4.trans (same_new np)) rfl rfl ⟨⟨Int.le_refl _, by show (0 : Int) ≤ n - 1; omega⟩, hsg, htp, st, mvOk, ⟨oneD, lowD, sySym, syNo⟩, lsa, tsa⟩ (by rw [upd_same] <;> rfl)
end
end Mk

set_option Elab.async false
set_option linter.unusedVariables false
set_option maxRecDepth 100000
set_option maxHeartbeats 8000000
namespace Mk
open PySem L2 Pk
/-! rules that a list takes up one by one -/
structure RsAt (H1 H' : Hp) (a : Addr) (l : PySem.Str) (n : Int) (m : Nat) (B : Kept) : Prop where
  same : Same H1 H'
  at_ : H' a = some (.lst (refsK B))
  kept : KeptAt H' B
  ok : ∀ p ∈ B, RlOk l n p.2
  few : B.length ≤ m
theorem RsAt.look {H1 H' : Hp} {a q : Addr} {l : PySem.Str} {n : Int} {m : Nat} {B : Kept} {o : HO} (R : RsAt H1 H' a l n m B) (nq : H' q = none) : (upd H' q o) a = some (.lst (refsK B)) := same_new nq _ _ R.at_
theorem RsAt.sz {H1 H' : Hp} {a : Addr} {l : PySem.Str} {n : Int} {m : Nat} {B : Kept} (R : RsAt H1 H' a l n m B) (h : m ≤ 10000) : (refsK B).length < sizeLine := by
  unfold refsK
  rw [List.length_map]
  exact Nat.lt_of_le_of_lt (Nat.le_trans R.few h) (by decide)
theorem RsAt.add {H1 H' : Hp} {a q : Addr} {l : PySem.Str} {n : Int} {m : Nat} {B : Kept} {r : Rl} (R : RsAt H1 H' a l n m B) (na : H1 a = none) (nq : H' q = none) (ok : RlOk l n r) :
    RsAt H1 (upd (upd H' q (.tup r.vs)) a (.lst (refsK B ++ [V.ref q]))) a l n (m + 1) (B ++ [(q, r)]) := by
  have t := same_new (o := HO.tup r.vs) nq
  have qa : q ≠ a := fun z => by rw [z, R.at_] at nq; cases nq
  refine ⟨same_mut (R.same.trans t) na, ?_, fun p m => ?_, fun p m => ?_, ?_⟩
  · rw [upd_same]
    unfold refsK
    rw [List.map_append] <;> rfl
  · rcases List.mem_append.mp m with m | m
    · have z := t _ _ (R.kept p m)
      have pa : p.1 ≠ a := fun y => by
        have x := R.kept p m
        rw [y, R.at_] at x
        cases x
      rw [upd_ne pa]
      exact z
    · rw [List.mem_singleton.mp m]
      rw [upd_ne qa, upd_same]
  · rcases List.mem_append.mp m with m | m
    · exact R.ok p m
    · rw [List.mem_singleton.mp m]
      exact ok
  · rw [List.length_append]
    have := R.few
    show B.length + 1 ≤ m + 1
    omega
def Rs (H1 H' : Hp) (a : Addr) (l : PySem.Str) (n : Int) (m : Nat) : Prop := ∃ B, RsAt H1 H' a l n m B
theorem Rs.le {H1 H' : Hp} {a : Addr} {l : PySem.Str} {n : Int} {m k : Nat} (h : Rs H1 H' a l n m) (e : m ≤ k) : Rs H1 H' a l n k := by
  obtain ⟨B, R⟩ := h
  exact ⟨B, R.same, R.at_, R.kept, R.ok, Nat.le_trans R.few e⟩
theorem Rs.same {H1 H' : Hp} {a : Addr} {l : PySem.Str} {n : Int} {m : Nat} (h : Rs H1 H' a l n m) : Same H1 H' := h.elim fun _ R => R.same
theorem Rs.mono {H1 H' H'' : Hp} {a : Addr} {l : PySem.Str} {n : Int} {m : Nat} (h : Rs H1 H' a l n m) (s : Same H' H'') : Rs H1 H'' a l n m := by
  obtain ⟨B, R⟩ := h
  exact ⟨B, R.same.trans s, s _ _ R.at_, fun p m => s _ _ (R.kept p m), R.ok, R.few⟩
/-! parts of right rules -/
theorem keepD (t : PySem.Str) : Deed t keep0 nil0 := ⟨.inl rfl, fun _ => .inl rfl, fun z => absurd z (by decide +kernel), fun _ => rfl⟩
theorem pushD (t : PySem.Str) {s : PySem.Str} (h : symB s = true) : Deed t push0 s := ⟨.inr (.inr (.inl rfl)), fun _ => .inr rfl, fun _ => h, fun z => absurd z (by decide +kernel)⟩
theorem popD {t : PySem.Str} (h : t ≠ nil0) : Deed t pop0 nil0 := ⟨.inr (.inl rfl), fun z => absurd z h, fun z => absurd z (by decide +kernel), fun _ => rfl⟩
theorem swapD {t s : PySem.Str} (h : t ≠ nil0) (h2 : symB s = true) : Deed t swap0 s := ⟨.inr (.inr (.inr rfl)), fun z => absurd z h, fun _ => h2, fun z => absurd z (by decide +kernel)⟩
theorem mv0 (s : PySem.Str) : Mv s 0 := ⟨by decide, by decide, fun _ => by decide, fun _ => by decide⟩
theorem mvR {s : PySem.Str} (h : s ≠ gt0) : Mv s 1 := ⟨by decide, by decide, fun _ => by decide, fun z => absurd z h⟩
theorem mvL {s : PySem.Str} (h : s ≠ lt0) : Mv s (-1) := ⟨by decide, by decide, fun z => absurd z h, fun _ => by decide⟩
theorem said0 : lowB nil0 = true ∧ nil0.length ≤ 3 := by decide +kernel
theorem sym_ne {s : PySem.Str} (h : symB s = true) : s ≠ nil0 := fun z => by
  rw [z] at h
  exact absurd h (by decide +kernel)
theorem sgnLt (l : PySem.Str) : Sgn l lt0 := ⟨60, by decide +kernel, .inl rfl⟩
theorem sgnGt (l : PySem.Str) : Sgn l gt0 := ⟨62, by decide +kernel, .inr (.inl rfl)⟩
theorem sgnIn {l : PySem.Str} {c : Nat} (h : c ∈ l.cps.toList) : Sgn l (sgn1 c) := ⟨c, rfl, .inr (.inr h)⟩
theorem low_of {l : PySem.Str} {c : Nat} (al : Alpha l) (h : c ∈ l.cps.toList) : 97 ≤ c ∧ c ≤ 122 := by
  have z := al.low
  unfold lowB at z
  have y := List.all_eq_true.mp z c h
  unfold lowC at y
  rw [Bool.and_eq_true, decide_eq_true_eq, decide_eq_true_eq] at y
  exact y
theorem ne_sgn {c d : Nat} (h : c ≠ d) : sgn1 c ≠ sgn1 d := fun z => h (by
  have y := congrArg (fun t : PySem.Str => t.cps[0]?) z
  exact Option.some.inj y)
theorem let_lt {l : PySem.Str} {c : Nat} (al : Alpha l) (h : c ∈ l.cps.toList) : sgn1 c ≠ lt0 := fun z => by
  have := low_of al h
  have e : lt0 = sgn1 60 := by decide +kernel
  rw [e] at z
  exact ne_sgn (show c ≠ 60 by omega) z
theorem let_gt {l : PySem.Str} {c : Nat} (al : Alpha l) (h : c ∈ l.cps.toList) : sgn1 c ≠ gt0 := fun z => by
  have := low_of al h
  have e : gt0 = sgn1 62 := by decide +kernel
  rw [e] at z
  exact ne_sgn (show c ≠ 62 by omega) z
theorem said1 {l : PySem.Str} {c : Nat} (al : Alpha l) (h : c ∈ l.cps.toList) : lowB (sgn1 c) = true ∧ (sgn1 c).length ≤ 3 := by
  have y := low_of al h
  refine ⟨?_, show 1 ≤ 3 by decide⟩
  show ([c] : List Nat).all lowC = true
  unfold lowC
  simp only [List.all_cons, List.all_nil, Bool.and_true, Bool.and_eq_true, decide_eq_true_eq]
  exact y
theorem lt_gt : lt0 ≠ gt0 := by decide +kernel
theorem three_at {one two : PySem.Str} (h1 : symB one = true) (h2 : symB two = true) {j : Nat} (h : j < 3) : ∃ t, ([V.str nil0, V.str one, V.str two] : List V)[j]? = some (.str t) ∧ Top t ∧ (j ≠ 0 → symB t = true) ∧ (t = nil0 ∨ t = one ∨ t = two) := by
  have c : j = 0 ∨ j = 1 ∨ j = 2 := by omega
  rcases c with rfl | rfl | rfl
  · exact ⟨nil0, rfl, .inr rfl, fun z => absurd rfl z, .inl rfl⟩
  · exact ⟨one, rfl, .inl h1, fun _ => h1, .inr (.inl rfl)⟩
  · exact ⟨two, rfl, .inl h2, fun _ => h2, .inr (.inr rfl)⟩
theorem mkRl {l sg tp de sy sa : PySem.Str} {n st af mv : Int} (h1 : 0 ≤ st ∧ st ≤ n - 1) (h2 : Sgn l sg) (h3 : Top tp) (h4 : 0 ≤ af ∧ af ≤ n - 1) (h5 : Mv sg mv) (h6 : Deed tp de sy) (h7 : lowB sa = true ∧ sa.length ≤ 3) : RlOk l n ⟨st, sg, tp, af, mv, de, sy, sa⟩ := ⟨h1, h2, h3, h4, h5, h6, h7⟩
theorem saidK : lowB (PySem.Str.ofString "k") = true ∧ (PySem.Str.ofString "k").length ≤ 3 := by decide +kernel
theorem saidB : lowB (PySem.Str.ofString "b") = true ∧ (PySem.Str.ofString "b").length ≤ 3 := by decide +kernel
/-- a new list of right rules -/
def NewRules (H : Hp) (l : PySem.Str) (n : Int) (m : Nat) (p : Addr) (H' : Hp) : Prop := H p = none ∧ Rs H H' p l n m
end Mk

set_option Elab.async false
set_option linter.unusedVariables false
set_option maxRecDepth 100000
set_option maxHeartbeats 8000000
namespace Mk
open PySem L2 Pk
section
variable {P : Program} {w : World} {K : PySem.W.Frag} {mg : PySem.Str → Option Value} {base : Heap}
/-! _law_climber -/
def spSkel : Sp := fun vs H Q _ => ∃ l one two : PySem.Str, vs = [.str l, .str one, .str two] ∧ Alpha l ∧ l.length ≤ 3 ∧ symB one = true ∧ symB two = true ∧ ∀ (p : Addr) (H' : Hp), H p = none → Rs H H' p l 4 64 → Q (.ref p) H'
abbrev nClimber : List PySem.Str := ["letters", "one", "two", "rules", "top", "letter"]
theorem scClimber : FnScope nClimber ["letters", "one", "two"] (defScope sClimber) := ⟨rfl, rfl, rfl, by decide +kernel, rfl, by decide +kernel, by decide +kernel⟩
theorem ok_climber {f : Addr} {fd : FuncData} (F : Fun K "_law_climber" "_law_climber" sClimber f fd) : FnOk P w K mg base CX0 1 f fd ["letters", "one", "two"] spSkel := by
  refine F.ok scClimber (fun vs H Q E h => ?_) (fun cdv A outer s H vs Q E hr h => ?_)
  · obtain ⟨l, one, two, rfl, _⟩ := h
    rfl
  · obtain ⟨l, one, two, rfl, al, l3, o1, o2, k⟩ := h
    have nd := scClimber.nd
    refine ⟨_, (pss_cons (ps_set (i := 3) nd rfl (Or.inl rfl) (pe_lst pa_nil))
      (pss_cons (ps_for PassesOwn.never rfl (pi_list (pe_lst (pa_cons pe_str (pa_cons (pv 1) (pa_cons (pv 2) pa_nil))))) (pg_name (i := 4) nd rfl (Or.inl rfl))
        (pss_cons (ps_expr (pe_bm PySem.F.plainAttrs_list PySem.F.slot_list_append PySem.F.type_list_append mt_append (pv 3) (pa_cons (pe_tup (pa_cons pe_int (pa_cons pe_str (pa_cons (pv 4) (pa_cons pe_int (pa_cons pe_int (pa_cons pe_str (pa_cons pe_str (pa_cons pe_str pa_nil))))))))) pa_nil)))
        (pss_cons (ps_expr (pe_bm PySem.F.plainAttrs_list PySem.F.slot_list_append PySem.F.type_list_append mt_append (pv 3) (pa_cons (pe_tup (pa_cons pe_int (pa_cons pe_str (pa_cons (pv 4) (pa_cons pe_int (pa_cons (pe_un un_neg pe_int) (pa_cons pe_str (pa_cons pe_str (pa_cons pe_str pa_nil))))))))) pa_nil)))
        (pss_cons (ps_expr (pe_bm PySem.F.plainAttrs_list PySem.F.slot_list_append PySem.F.type_list_append mt_append (pv 3) (pa_cons (pe_tup (pa_cons pe_int (pa_cons pe_str (pa_cons (pv 4) (pa_cons pe_int (pa_cons pe_int (pa_cons pe_str (pa_cons pe_str (pa_cons pe_str pa_nil))))))))) pa_nil)))
        (pss_one (ps_for PassesOwn.never rfl (pi_str (pv 0)) (pg_name (i := 5) nd rfl (Or.inl rfl))
          (pss_cons (ps_expr (pe_bm PySem.F.plainAttrs_list PySem.F.slot_list_append PySem.F.type_list_append mt_append (pv 3) (pa_cons (pe_tup (pa_cons pe_int (pa_cons (pv 5) (pa_cons (pv 4) (pa_cons pe_int (pa_cons pe_int (pa_cons pe_str (pa_cons (pv 1) (pa_cons (pv 5) pa_nil))))))))) pa_nil)))
          (pss_one (ps_if (pt_cmpR op_eq (pv 4) pe_str (nomark _))
            (pss_one (ps_expr (pe_bm PySem.F.plainAttrs_list PySem.F.slot_list_append PySem.F.type_list_append mt_append (pv 3) (pa_cons (pe_tup (pa_cons pe_int (pa_cons (pv 5) (pa_cons (pv 4) (pa_cons pe_int (pa_cons (pe_un un_neg pe_int) (pa_cons pe_str (pa_cons pe_str (pa_cons pe_str pa_nil))))))))) pa_nil))))
            (pss_one (ps_expr (pe_bm PySem.F.plainAttrs_list PySem.F.slot_list_append PySem.F.type_list_append mt_append (pv 3) (pa_cons (pe_tup (pa_cons pe_int (pa_cons (pv 5) (pa_cons (pv 4) (pa_cons pe_int (pa_cons (pe_un un_neg pe_int) (pa_cons pe_str (pa_cons (pv 2) (pa_cons pe_str pa_nil))))))))) pa_nil)))))))))))))
      (pss_one (ps_ret (pv 3))))), ?_⟩
    refine ⟨Nat.zero_le _, fun a na => ?_⟩
    have R0 : RsAt H (upd H a (.lst [])) a l 4 0 [] := ⟨same_new na, upd_same, fun p m => absurd m List.not_mem_nil, fun p m => absurd m List.not_mem_nil, Nat.le_refl _⟩
    have ls : l.cps.size ≤ 3 := l3
    dsimp only [gName]
    show (tSeq _ _) _ _ (upd H a (.lst []))
    generalize upd H a (.lst []) = H1 at R0 ⊢
    refine ⟨_, rfl, _, rfl, show 3 ≤ sizeLine by decide, fun b nb => ?_⟩
    have tb := same_new (o := HO.lst [V.str nil0, V.str one, V.str two]) nb
    have hb : (upd H1 b (.lst [V.str nil0, V.str one, V.str two])) b = some (.lst [V.str nil0, V.str one, V.str two]) := upd_same
    have ab : b ≠ a := fun z => by rw [z, R0.at_] at nb; cases nb
    refine ⟨b, rfl, ⟨_, SqL.of hb⟩, for_list (K := K) (a := b) (xs := [V.str nil0, V.str one, V.str two]) (fun i σ H' => H' b = some (.lst [V.str nil0, V.str one, V.str two]) ∧ Rs H H' a l 4 (9 * i) ∧ ∃ v4 v5 : Option V, σ = [some (.str l), some (.str one), some (.str two), some (.ref a), v4, v5])
      ⟨hb, ⟨[], R0.same.trans tb, tb _ _ R0.at_, fun p m => absurd m List.not_mem_nil, fun p m => absurd m List.not_mem_nil, Nat.le_refl _⟩, _, _, rfl⟩ (fun i σ H' _ h => SqL.of h.1) ?_ ?_⟩
    · rintro i v σ H2 hi ⟨hb2, ⟨B, R⟩, v4, v5, rfl⟩
      have i3 : i < 3 := (List.getElem?_eq_some_iff.mp hi).1
      obtain ⟨t, et, tt, tn, t3⟩ := three_at o1 o2 i3
      have ev : V.str t = v := Option.some.inj (et.symm.trans hi)
      subst ev
      have keepB : ∀ {H' : Hp} {q : Addr} {o o' : HO}, H' q = none → H' b = some (.lst [V.str nil0, V.str one, V.str two]) → (upd (upd H' q o) a o') b = some (.lst [V.str nil0, V.str one, V.str two]) := fun nq e => by
        rw [upd_ne ab]
        exact same_new nq _ _ e
      -- three rules
      refine ⟨_, rfl, .inl ⟨rfl, _, SqL.of R.at_⟩, _, rfl, show 8 ≤ sizeLine by decide, fun q nq => ⟨a, _, _, rfl, rfl, R.look nq, R.sz (by omega), ?_⟩⟩
      have R1 := R.add na nq (r := ⟨0, lt0, t, 1, 1, keep0, nil0, nil0⟩) (mkRl (by decide) (sgnLt l) tt (by decide) (mvR lt_gt) (keepD t) said0)
      refine ⟨_, rfl, .inl ⟨rfl, _, SqL.of R1.at_⟩, _, rfl, _, rfl, show 8 ≤ sizeLine by decide, fun q2 nq2 => ⟨a, _, _, rfl, rfl, R1.look nq2, R1.sz (by omega), ?_⟩⟩
      have R2 := R1.add na nq2 (r := ⟨1, gt0, t, 2, -1, keep0, nil0, nil0⟩) (mkRl (by decide) (sgnGt l) tt (by decide) (mvL lt_gt.symm) (keepD t) said0)
      refine ⟨_, rfl, .inl ⟨rfl, _, SqL.of R2.at_⟩, _, rfl, show 8 ≤ sizeLine by decide, fun q3 nq3 => ⟨a, _, _, rfl, rfl, R2.look nq3, R2.sz (by omega), ?_⟩⟩
      have R3 := R2.add na nq3 (r := ⟨2, lt0, t, 0, 0, keep0, nil0, PySem.Str.ofString "k"⟩) (mkRl (by decide) (sgnLt l) tt (by decide) (mv0 _) (keepD t) saidK)
      refine ⟨_, rfl, l, rfl, for_it walk_str (fun j σ H' => H' b = some (.lst [V.str nil0, V.str one, V.str two]) ∧ Rs H H' a l 4 (9 * i + 3 + 2 * j) ∧ ∃ v5 : Option V, σ = [some (.str l), some (.str one), some (.str two), some (.ref a), some (.str t), v5])
        ⟨keepB nq3 (keepB nq2 (keepB nq hb2)), ⟨_, R3⟩, _, rfl⟩ (fun _ _ _ _ _ => trivial) ?_ ?_⟩
      · rintro j v σ H4 _ hj ⟨hb4, ⟨B4, R4⟩, v5, rfl⟩ ⟨rfl, c, hc, rfl⟩
        have mc : c ∈ l.cps.toList := List.mem_of_getElem? (by rw [Array.getElem?_toList]; exact hc)
        refine ⟨_, rfl, .inl ⟨rfl, _, SqL.of R4.at_⟩, _, rfl, _, rfl, _, rfl, _, rfl, show 8 ≤ sizeLine by decide, fun q4 nq4 => ⟨a, _, _, rfl, rfl, R4.look nq4, R4.sz (by omega), ?_⟩⟩
        have R5 := R4.add na nq4 (r := ⟨1, sgn1 c, t, 1, 1, push0, one, sgn1 c⟩) (mkRl (by decide) (sgnIn mc) tt (by decide) (mvR (let_gt al mc)) (pushD t o1) (said1 al mc))
        refine ⟨_, rfl, rfl, _, rfl, ?_⟩
        rw [show decide (V.str t = V.str (PySem.Str.ofString "")) = decide (t = nil0) from dec_str t nil0]
        refine ite2 (fun e => ?_) (fun e => ?_)
        · refine ⟨_, rfl, .inl ⟨rfl, _, SqL.of R5.at_⟩, _, rfl, _, rfl, _, rfl, show 8 ≤ sizeLine by decide, fun q5 nq5 => ⟨a, _, _, rfl, rfl, R5.look nq5, R5.sz (by omega), ?_⟩⟩
          have R6 := R5.add na nq5 (r := ⟨2, sgn1 c, t, 2, -1, keep0, nil0, nil0⟩) (mkRl (by decide) (sgnIn mc) tt (by decide) (mvL (let_lt al mc)) (keepD t) said0)
          exact ⟨keepB nq5 (keepB nq4 hb4), Rs.le ⟨_, R6⟩ (by omega), _, rfl⟩
        · have tne : t ≠ nil0 := fun z => e (decide_eq_true z)
          refine ⟨_, rfl, .inl ⟨rfl, _, SqL.of R5.at_⟩, _, rfl, _, rfl, _, rfl, _, rfl, show 8 ≤ sizeLine by decide, fun q5 nq5 => ⟨a, _, _, rfl, rfl, R5.look nq5, R5.sz (by omega), ?_⟩⟩
          have R6 := R5.add na nq5 (r := ⟨2, sgn1 c, t, 2, -1, swap0, two, nil0⟩) (mkRl (by decide) (sgnIn mc) tt (by decide) (mvL (let_lt al mc)) (swapD tne o2) said0)
          exact ⟨keepB nq5 (keepB nq4 hb4), Rs.le ⟨_, R6⟩ (by omega), _, rfl⟩
      · rintro σ H4 ⟨hb4, R4, v5, rfl⟩
        exact ⟨hb4, R4.le (by omega), _, _, rfl⟩
    · rintro σ H2 ⟨hb2, R, v4, v5, rfl⟩
      exact ⟨_, rfl, k a H2 na (R.le (show 9 * 3 ≤ 64 by decide))⟩
end
end Mk

set_option Elab.async false
set_option linter.unusedVariables false
set_option maxRecDepth 100000
set_option maxHeartbeats 8000000
namespace Mk
open PySem L2 Pk
theorem RsAt.mono {H1 H' H'' : Hp} {a : Addr} {l : PySem.Str} {n : Int} {m : Nat} {B : Kept} (R : RsAt H1 H' a l n m B) (s : Same H' H'') : RsAt H1 H'' a l n m B := ⟨R.same.trans s, s _ _ R.at_, fun p m => s _ _ (R.kept p m), R.ok, R.few⟩
theorem rs_one1 {H : Hp} {p1 a : Addr} {l : PySem.Str} {n : Int} {r1 : Rl} (n1 : H p1 = none) (o1 : RlOk l n r1) (na : (upd H p1 (.tup r1.vs)) a = none) :
    H a = none ∧ RsAt H (upd (upd H p1 (.tup r1.vs)) a (.lst [V.ref p1])) a l n 1 [(p1, r1)] := by
  have t1 := same_new (o := HO.tup r1.vs) n1
  have t3 := same_new (o := HO.lst [V.ref p1]) na
  refine ⟨t1.free na, t1.trans t3, upd_same, fun p m => ?_, fun p m => ?_, Nat.le_refl _⟩
  · rw [List.mem_singleton.mp m]
    exact t3 _ _ upd_same
  · rw [List.mem_singleton.mp m]
    exact o1
theorem rs_two {H : Hp} {p1 p2 a : Addr} {l : PySem.Str} {n : Int} {r1 r2 : Rl} (n1 : H p1 = none) (n2 : (upd H p1 (.tup r1.vs)) p2 = none) (o1 : RlOk l n r1) (o2 : RlOk l n r2) (na : (upd (upd H p1 (.tup r1.vs)) p2 (.tup r2.vs)) a = none) :
    H a = none ∧ RsAt H (upd (upd (upd H p1 (.tup r1.vs)) p2 (.tup r2.vs)) a (.lst [V.ref p1, V.ref p2])) a l n 2 [(p1, r1), (p2, r2)] := by
  have t1 := same_new (o := HO.tup r1.vs) n1
  have t2 := same_new (o := HO.tup r2.vs) n2
  have t3 := same_new (o := HO.lst [V.ref p1, V.ref p2]) na
  refine ⟨(t1.trans t2).free na, (t1.trans t2).trans t3, upd_same, fun p m => ?_, fun p m => ?_, Nat.le_refl _⟩
  · rcases List.mem_cons.mp m with rfl | m
    · exact t3 _ _ (t2 _ _ upd_same)
    · rw [List.mem_singleton.mp m]
      exact t3 _ _ upd_same
  · rcases List.mem_cons.mp m with rfl | m
    · exact o1
    · rw [List.mem_singleton.mp m]
      exact o2
theorem two_at {one two : PySem.Str} (h1 : symB one = true) (h2 : symB two = true) (i : Nat) : ∃ s, atI [V.str one, V.str two] ((0 + (i : Int)) % 2) = some (.str s) ∧ symB s = true ∧ (s = one ∨ s = two) := by
  have c : (0 + (i : Int)) % 2 = 0 ∨ (0 + (i : Int)) % 2 = 1 := by omega
  rcases c with e | e <;> rw [e]
  · exact ⟨one, rfl, h1, .inl rfl⟩
  · exact ⟨two, rfl, h2, .inr rfl⟩
theorem let_at {l : PySem.Str} {i : Nat} (h : i < l.length) : ∃ c, atI l.cps.toList (0 + (i : Int)) = some c ∧ c ∈ l.cps.toList := by
  have h' : i < l.cps.toList.length := by rw [Array.length_toList]; exact h
  have e : l.cps.toList[i]? = some l.cps.toList[i] := List.getElem?_eq_getElem h'
  refine ⟨_, ?_, List.getElem_mem h'⟩
  rw [show (0 : Int) + (i : Int) = ((i : Nat) : Int) by omega]
  exact atI_nat e
section
variable {P : Program} {w : World} {K : PySem.W.Frag} {mg : PySem.Str → Option Value} {base : Heap}
/-! _law_scanner -/
abbrev nScanner : List PySem.Str := ["letters", "one", "two", "rules", "top", "k"]
theorem scScanner : FnScope nScanner ["letters", "one", "two"] (defScope sScanner) := ⟨rfl, rfl, rfl, by decide +kernel, rfl, by decide +kernel, by decide +kernel⟩
theorem ok_scanner {f : Addr} {fd : FuncData} (F : Fun K "_law_scanner" "_law_scanner" sScanner f fd) (T : TM mg) : FnOk P w K mg base CX0 1 f fd ["letters", "one", "two"] spSkel := by
  refine F.ok scScanner (fun vs H Q E h => ?_) (fun cdv A outer s H vs Q E hr h => ?_)
  · obtain ⟨l, one, two, rfl, _⟩ := h
    rfl
  · obtain ⟨l, one, two, rfl, al, l3, o1, o2, k⟩ := h
    have nd := scScanner.nd
    refine ⟨_, (pss_cons (ps_set (i := 3) nd rfl (Or.inl rfl) (pe_lst (pa_cons (pe_tup (pa_cons pe_int (pa_cons pe_str (pa_cons pe_str (pa_cons pe_int (pa_cons pe_int (pa_cons pe_str (pa_cons pe_str (pa_cons pe_str pa_nil))))))))) (pa_cons (pe_tup (pa_cons pe_int (pa_cons pe_str (pa_cons pe_str (pa_cons pe_int (pa_cons pe_int (pa_cons pe_str (pa_cons pe_str (pa_cons pe_str pa_nil))))))))) pa_nil))))
      (pss_cons (ps_for PassesOwn.never rfl (pi_list (pe_lst (pa_cons pe_str (pa_cons (pv 1) (pa_cons (pv 2) pa_nil))))) (pg_name (i := 4) nd rfl (Or.inl rfl))
        (pss_cons (ps_for PassesOwn.never rfl (pi_range1 (by rfl) T.range (pa_cons (pe_callB call_len_str (by rfl) T.len PySem.boot_len (pa_cons (pv 0) pa_nil)) pa_nil)) (pg_name (i := 5) nd rfl (Or.inl rfl))
          (pss_cons (ps_expr (pe_bm PySem.F.plainAttrs_list PySem.F.slot_list_append PySem.F.type_list_append mt_append (pv 3) (pa_cons (pe_tup (pa_cons pe_int (pa_cons (pe_ix ix_str (pv 0) (pv 5) fun _ _ => rfl) (pa_cons (pv 4) (pa_cons pe_int (pa_cons pe_int (pa_cons pe_str (pa_cons (pe_ix ix_list (pe_lst (pa_cons (pv 1) (pa_cons (pv 2) pa_nil))) (pe_op op_mod (pv 5) pe_int) fun _ _ => rfl) (pa_cons pe_str pa_nil))))))))) pa_nil)))
          (pss_one (ps_expr (pe_bm PySem.F.plainAttrs_list PySem.F.slot_list_append PySem.F.type_list_append mt_append (pv 3) (pa_cons (pe_tup (pa_cons pe_int (pa_cons (pe_ix ix_str (pv 0) (pv 5) fun _ _ => rfl) (pa_cons (pv 4) (pa_cons pe_int (pa_cons (pe_un un_neg pe_int) (pa_cons pe_str (pa_cons pe_str (pa_cons (pe_ix ix_str (pv 0) (pv 5) fun _ _ => rfl) pa_nil))))))))) pa_nil))))))
        (pss_cons (ps_expr (pe_bm PySem.F.plainAttrs_list PySem.F.slot_list_append PySem.F.type_list_append mt_append (pv 3) (pa_cons (pe_tup (pa_cons pe_int (pa_cons pe_str (pa_cons (pv 4) (pa_cons pe_int (pa_cons (pe_un un_neg pe_int) (pa_cons pe_str (pa_cons pe_str (pa_cons pe_str pa_nil))))))))) pa_nil)))
        (pss_one (ps_expr (pe_bm PySem.F.plainAttrs_list PySem.F.slot_list_append PySem.F.type_list_append mt_append (pv 3) (pa_cons (pe_tup (pa_cons pe_int (pa_cons pe_str (pa_cons (pv 4) (pa_cons pe_int (pa_cons pe_int (pa_cons pe_str (pa_cons pe_str (pa_cons pe_str pa_nil))))))))) pa_nil)))))))
      (pss_cons (ps_for PassesOwn.never rfl (pi_range1 (by rfl) T.range (pa_cons (pe_callB call_len_str (by rfl) T.len PySem.boot_len (pa_cons (pv 0) pa_nil)) pa_nil)) (pg_name (i := 5) nd rfl (Or.inl rfl))
        (pss_one (ps_expr (pe_bm PySem.F.plainAttrs_list PySem.F.slot_list_append PySem.F.type_list_append mt_append (pv 3) (pa_cons (pe_tup (pa_cons pe_int (pa_cons (pe_ix ix_str (pv 0) (pv 5) fun _ _ => rfl) (pa_cons (pe_ix ix_list (pe_lst (pa_cons (pv 1) (pa_cons (pv 2) pa_nil))) (pe_op op_mod (pv 5) pe_int) fun _ _ => rfl) (pa_cons pe_int (pa_cons pe_int (pa_cons pe_str (pa_cons pe_str (pa_cons pe_str pa_nil))))))))) pa_nil)))))
      (pss_one (ps_ret (pv 3)))))), ?_⟩
    have szl : l.length ≤ sizeLine := Nat.le_trans l3 (by decide)
    refine ⟨show 8 ≤ sizeLine by decide, fun p1 n1 => ⟨show 8 ≤ sizeLine by decide, fun p2 n2 => ⟨show 2 ≤ sizeLine by decide, fun a na0 => ?_⟩⟩⟩
    obtain ⟨na, R0⟩ := rs_two (l := l) (n := 4) (r1 := ⟨0, lt0, nil0, 0, 1, keep0, nil0, nil0⟩) (r2 := ⟨2, gt0, nil0, 3, 0, keep0, nil0, PySem.Str.ofString "b"⟩) n1 n2 (mkRl (by decide) (sgnLt l) (.inr rfl) (by decide) (mvR lt_gt) (keepD _) said0) (mkRl (by decide) (sgnGt l) (.inr rfl) (by decide) (mv0 _) (keepD _) saidB) na0
    refine ⟨_, rfl, _, rfl, show 3 ≤ sizeLine by decide, fun b nb => ?_⟩
    have ab : b ≠ a := fun z => by
      rw [z] at nb
      have x := R0.at_.symm.trans nb
      cases x
    refine ⟨b, rfl, ⟨_, SqL.of upd_same⟩, for_list (K := K) (a := b) (xs := [V.str nil0, V.str one, V.str two]) (fun i σ H' => H' b = some (.lst [V.str nil0, V.str one, V.str two]) ∧ Rs H H' a l 4 (2 + 8 * i) ∧ ∃ v4 v5 : Option V, σ = [some (.str l), some (.str one), some (.str two), some (.ref a), v4, v5])
      ⟨upd_same, ⟨_, R0.mono (same_new nb)⟩, _, _, rfl⟩ (fun i σ H' _ h => SqL.of h.1) ?_ ?_⟩
    · rintro i v σ H2 hi ⟨hb2, R2, v4, v5, rfl⟩
      have i3 : i < 3 := (List.getElem?_eq_some_iff.mp hi).1
      obtain ⟨t, et, tt, tn, t3⟩ := three_at o1 o2 i3
      have ev : V.str t = v := Option.some.inj (et.symm.trans hi)
      subst ev
      have keepB : ∀ {H' : Hp} {q : Addr} {o o' : HO}, H' q = none → H' b = some (.lst [V.str nil0, V.str one, V.str two]) → (upd (upd H' q o) a o') b = some (.lst [V.str nil0, V.str one, V.str two]) := fun nq e => by
        rw [upd_ne ab]
        exact same_new nq _ _ e
      refine ⟨_, rfl, l, rfl, szl, _, rfl, by omega, by omega, for_range (lo := 0) (n := ((l.length : Nat) : Int).toNat) (fun j σ H' => H' b = some (.lst [V.str nil0, V.str one, V.str two]) ∧ Rs H H' a l 4 (2 + 8 * i + 2 * j) ∧ ∃ v5 : Option V, σ = [some (.str l), some (.str one), some (.str two), some (.ref a), some (.str t), v5])
        ⟨hb2, R2.le (by omega), _, rfl⟩ ?_ ?_⟩
      · rintro j σ H4 hj ⟨hb4, ⟨B4, R4⟩, v5, rfl⟩
        obtain ⟨c, ec, mc⟩ := let_at (l := l) (i := j) (by omega)
        obtain ⟨x, ex, ox, _⟩ := two_at o1 o2 j
        refine ⟨_, rfl, .inl ⟨rfl, _, SqL.of R4.at_⟩, _, rfl, _, rfl, l, _, c, rfl, rfl, szl, ec, _, rfl, _, rfl, _, rfl, show 2 ≤ sizeLine by decide, fun u nu => ?_⟩
        have R4' := R4.mono (same_new (o := HO.lst [V.str one, V.str two]) nu)
        refine ⟨_, rfl, _, _, rfl, rfl, show (0 : Int) < 2 by decide, u, _, _, .str x, rfl, rfl, SqL.of upd_same, ex, show 8 ≤ sizeLine by decide, fun q4 nq4 => ⟨a, _, _, rfl, rfl, R4'.look nq4, R4'.sz (by omega), ?_⟩⟩
        have R5 := R4'.add na nq4 (r := ⟨0, sgn1 c, t, 0, 1, push0, x, nil0⟩) (mkRl (by decide) (sgnIn mc) tt (by decide) (mvR (let_gt al mc)) (pushD t ox) said0)
        refine ⟨_, rfl, .inl ⟨rfl, _, SqL.of R5.at_⟩, _, rfl, _, rfl, l, _, c, rfl, rfl, szl, ec, _, rfl, _, rfl, _, rfl, _, rfl, l, _, c, rfl, rfl, szl, ec, show 8 ≤ sizeLine by decide, fun q5 nq5 => ⟨a, _, _, rfl, rfl, R5.look nq5, R5.sz (by omega), ?_⟩⟩
        have R6 := R5.add na nq5 (r := ⟨1, sgn1 c, t, 1, -1, keep0, nil0, sgn1 c⟩) (mkRl (by decide) (sgnIn mc) tt (by decide) (mvL (let_lt al mc)) (keepD t) (said1 al mc))
        exact ⟨keepB nq5 (keepB nq4 (same_new nu _ _ hb4)), Rs.le ⟨_, R6⟩ (by omega), _, rfl⟩
      · rintro σ H4 ⟨hb4, ⟨B4, R4⟩, v5, rfl⟩
        refine ⟨_, rfl, .inl ⟨rfl, _, SqL.of R4.at_⟩, _, rfl, _, rfl, show 8 ≤ sizeLine by decide, fun q4 nq4 => ⟨a, _, _, rfl, rfl, R4.look nq4, R4.sz (by omega), ?_⟩⟩
        have R5 := R4.add na nq4 (r := ⟨0, gt0, t, 1, -1, keep0, nil0, nil0⟩) (mkRl (by decide) (sgnGt l) tt (by decide) (mvL lt_gt.symm) (keepD t) said0)
        refine ⟨_, rfl, .inl ⟨rfl, _, SqL.of R5.at_⟩, _, rfl, show 8 ≤ sizeLine by decide, fun q5 nq5 => ⟨a, _, _, rfl, rfl, R5.look nq5, R5.sz (by omega), ?_⟩⟩
        have R6 := R5.add na nq5 (r := ⟨1, lt0, t, 2, 1, keep0, nil0, nil0⟩) (mkRl (by decide) (sgnLt l) tt (by decide) (mvR lt_gt) (keepD t) said0)
        exact ⟨keepB nq5 (keepB nq4 hb4), Rs.le ⟨_, R6⟩ (by omega), _, _, rfl⟩
    · rintro σ H2 ⟨hb2, R2, v4, v5, rfl⟩
      refine ⟨_, rfl, l, rfl, szl, _, rfl, by omega, by omega, for_range (lo := 0) (n := ((l.length : Nat) : Int).toNat) (fun j σ H' => Rs H H' a l 4 (30 + j) ∧ ∃ v5 : Option V, σ = [some (.str l), some (.str one), some (.str two), some (.ref a), v4, v5])
        ⟨R2.le (show 2 + 8 * 3 ≤ 30 by decide), _, rfl⟩ ?_ ?_⟩
      · rintro j σ H4 hj ⟨⟨B4, R4⟩, v5, rfl⟩
        obtain ⟨c, ec, mc⟩ := let_at (l := l) (i := j) (by omega)
        obtain ⟨x, ex, ox, _⟩ := two_at o1 o2 j
        refine ⟨_, rfl, .inl ⟨rfl, _, SqL.of R4.at_⟩, _, rfl, _, rfl, l, _, c, rfl, rfl, szl, ec, _, rfl, _, rfl, show 2 ≤ sizeLine by decide, fun u nu => ?_⟩
        have R4' := R4.mono (same_new (o := HO.lst [V.str one, V.str two]) nu)
        refine ⟨_, rfl, _, _, rfl, rfl, show (0 : Int) < 2 by decide, u, _, _, .str x, rfl, rfl, SqL.of upd_same, ex, show 8 ≤ sizeLine by decide, fun q4 nq4 => ⟨a, _, _, rfl, rfl, R4'.look nq4, R4'.sz (by omega), ?_⟩⟩
        have R5 := R4'.add na nq4 (r := ⟨2, sgn1 c, x, 2, 1, pop0, nil0, nil0⟩) (mkRl (by decide) (sgnIn mc) (.inl ox) (by decide) (mvR (let_gt al mc)) (popD (sym_ne ox)) said0)
        exact ⟨Rs.le ⟨_, R5⟩ (by omega), _, rfl⟩
      · rintro σ H4 ⟨R4, v5, rfl⟩
        exact ⟨_, rfl, k a H4 na (R4.le (by omega))⟩
end
end Mk

set_option Elab.async false
set_option linter.unusedVariables false
set_option maxRecDepth 100000
set_option maxHeartbeats 8000000
namespace Mk
open PySem L2 Pk
section
variable {P : Program} {w : World} {K : PySem.W.Frag} {mg : PySem.Str → Option Value} {base : Heap}
/-! _law_restorer -/
def spSkel5 : Sp := fun vs H Q _ => ∃ l one two : PySem.Str, vs = [.str l, .str one, .str two] ∧ Alpha l ∧ l.length ≤ 3 ∧ symB one = true ∧ symB two = true ∧ ∀ (p : Addr) (H' : Hp), H p = none → Rs H H' p l 5 64 → Q (.ref p) H'
abbrev nRestorer : List PySem.Str := ["letters", "one", "two", "rules", "top", "k", "mine"]
theorem scRestorer : FnScope nRestorer ["letters", "one", "two"] (defScope sRestorer) := ⟨rfl, rfl, rfl, by decide +kernel, rfl, by decide +kernel, by decide +kernel⟩
theorem ok_restorer {f : Addr} {fd : FuncData} (F : Fun K "_law_restorer" "_law_restorer" sRestorer f fd) (T : TM mg) : FnOk P w K mg base CX0 1 f fd ["letters", "one", "two"] spSkel5 := by
  refine F.ok scRestorer (fun vs H Q E h => ?_) (fun cdv A outer s H vs Q E hr h => ?_)
  · obtain ⟨l, one, two, rfl, _⟩ := h
    rfl
  · obtain ⟨l, one, two, rfl, al, l3, o1, o2, k⟩ := h
    have nd := scRestorer.nd
    refine ⟨_, (pss_cons (ps_set (i := 3) nd rfl (Or.inl rfl) (pe_lst (pa_cons (pe_tup (pa_cons pe_int (pa_cons pe_str (pa_cons pe_str (pa_cons pe_int (pa_cons pe_int (pa_cons pe_str (pa_cons pe_str (pa_cons pe_str pa_nil))))))))) pa_nil)))
      (pss_cons (ps_for PassesOwn.never rfl (pi_list (pe_lst (pa_cons pe_str (pa_cons (pv 1) (pa_cons (pv 2) pa_nil))))) (pg_name (i := 4) nd rfl (Or.inl rfl))
        (pss_cons (ps_expr (pe_bm PySem.F.plainAttrs_list PySem.F.slot_list_append PySem.F.type_list_append mt_append (pv 3) (pa_cons (pe_tup (pa_cons pe_int (pa_cons pe_str (pa_cons (pv 4) (pa_cons pe_int (pa_cons (pe_un un_neg pe_int) (pa_cons pe_str (pa_cons pe_str (pa_cons pe_str pa_nil))))))))) pa_nil)))
        (pss_cons (ps_expr (pe_bm PySem.F.plainAttrs_list PySem.F.slot_list_append PySem.F.type_list_append mt_append (pv 3) (pa_cons (pe_tup (pa_cons pe_int (pa_cons pe_str (pa_cons (pv 4) (pa_cons pe_int (pa_cons pe_int (pa_cons pe_str (pa_cons pe_str (pa_cons pe_str pa_nil))))))))) pa_nil)))
        (pss_cons (ps_expr (pe_bm PySem.F.plainAttrs_list PySem.F.slot_list_append PySem.F.type_list_append mt_append (pv 3) (pa_cons (pe_tup (pa_cons pe_int (pa_cons pe_str (pa_cons (pv 4) (pa_cons pe_int (pa_cons pe_int (pa_cons pe_str (pa_cons pe_str (pa_cons pe_str pa_nil))))))))) pa_nil)))
        (pss_one (ps_for PassesOwn.never rfl (pi_range1 (by rfl) T.range (pa_cons (pe_callB call_len_str (by rfl) T.len PySem.boot_len (pa_cons (pv 0) pa_nil)) pa_nil)) (pg_name (i := 5) nd rfl (Or.inl rfl))
          (pss_cons (ps_set (i := 6) nd rfl (Or.inl rfl) (pe_ix ix_list (pe_lst (pa_cons (pv 1) (pa_cons (pv 2) pa_nil))) (pe_op op_mod (pv 5) pe_int) fun _ _ => rfl))
          (pss_cons (ps_expr (pe_bm PySem.F.plainAttrs_list PySem.F.slot_list_append PySem.F.type_list_append mt_append (pv 3) (pa_cons (pe_tup (pa_cons pe_int (pa_cons (pe_ix ix_str (pv 0) (pv 5) fun _ _ => rfl) (pa_cons (pv 4) (pa_cons pe_int (pa_cons pe_int (pa_cons pe_str (pa_cons (pv 6) (pa_cons pe_str pa_nil))))))))) pa_nil)))
          (pss_cons (ps_expr (pe_bm PySem.F.plainAttrs_list PySem.F.slot_list_append PySem.F.type_list_append mt_append (pv 3) (pa_cons (pe_tup (pa_cons pe_int (pa_cons (pe_ix ix_str (pv 0) (pv 5) fun _ _ => rfl) (pa_cons (pv 4) (pa_cons pe_int (pa_cons (pe_un un_neg pe_int) (pa_cons pe_str (pa_cons pe_str (pa_cons pe_str pa_nil))))))))) pa_nil)))
          (pss_cons (ps_expr (pe_bm PySem.F.plainAttrs_list PySem.F.slot_list_append PySem.F.type_list_append mt_append (pv 3) (pa_cons (pe_tup (pa_cons pe_int (pa_cons (pe_ix ix_str (pv 0) (pv 5) fun _ _ => rfl) (pa_cons (pv 4) (pa_cons pe_int (pa_cons (pe_un un_neg pe_int) (pa_cons pe_str (pa_cons (pv 6) (pa_cons pe_str pa_nil))))))))) pa_nil)))
          (C8.pss_cut (ps_if (pt_cmpR op_eq (pv 4) (pv 6) (nomark _))
            (pss_one (ps_expr (pe_bm PySem.F.plainAttrs_list PySem.F.slot_list_append PySem.F.type_list_append mt_append (pv 3) (pa_cons (pe_tup (pa_cons pe_int (pa_cons (pe_ix ix_str (pv 0) (pv 5) fun _ _ => rfl) (pa_cons (pv 4) (pa_cons pe_int (pa_cons pe_int (pa_cons pe_str (pa_cons pe_str (pa_cons (pe_ix ix_str (pv 0) (pv 5) fun _ _ => rfl) pa_nil))))))))) pa_nil))))
            (pss_one (ps_if (pt_cmpR op_ne (pv 4) pe_str (nomark _))
              (pss_one (ps_expr (pe_bm PySem.F.plainAttrs_list PySem.F.slot_list_append PySem.F.type_list_append mt_append (pv 3) (pa_cons (pe_tup (pa_cons pe_int (pa_cons (pe_ix ix_str (pv 0) (pv 5) fun _ _ => rfl) (pa_cons (pv 4) (pa_cons pe_int (pa_cons (pe_un un_neg pe_int) (pa_cons pe_str (pa_cons pe_str (pa_cons pe_str pa_nil))))))))) pa_nil))))
              pss_nil)))
          (pss_one (ps_if (pt_cmpR op_ne (pv 4) pe_str (nomark _))
            (pss_one (ps_expr (pe_bm PySem.F.plainAttrs_list PySem.F.slot_list_append PySem.F.type_list_append mt_append (pv 3) (pa_cons (pe_tup (pa_cons pe_int (pa_cons (pe_ix ix_str (pv 0) (pv 5) fun _ _ => rfl) (pa_cons (pv 4) (pa_cons pe_int (pa_cons pe_int (pa_cons pe_str (pa_cons pe_str (pa_cons pe_str pa_nil))))))))) pa_nil))))
            pss_nil)))))))))))))
      (pss_one (ps_ret (pv 3))))), ?_⟩
    have szl : l.length ≤ sizeLine := Nat.le_trans l3 (by decide)
    refine ⟨show 8 ≤ sizeLine by decide, fun p1 n1 => ⟨show 1 ≤ sizeLine by decide, fun a na0 => ?_⟩⟩
    obtain ⟨na, R0⟩ := rs_one1 (l := l) (n := 5) (r1 := ⟨0, lt0, nil0, 0, 1, keep0, nil0, nil0⟩) n1 (mkRl (by decide) (sgnLt l) (.inr rfl) (by decide) (mvR lt_gt) (keepD _) said0) na0
    refine ⟨_, rfl, _, rfl, show 3 ≤ sizeLine by decide, fun b nb => ?_⟩
    have ab : b ≠ a := fun z => by
      rw [z] at nb
      have x := R0.at_.symm.trans nb
      cases x
    refine ⟨b, rfl, ⟨_, SqL.of upd_same⟩, for_list (K := K) (a := b) (xs := [V.str nil0, V.str one, V.str two]) (fun i σ H' => H' b = some (.lst [V.str nil0, V.str one, V.str two]) ∧ Rs H H' a l 5 (1 + 18 * i) ∧ ∃ v4 v5 v6 : Option V, σ = [some (.str l), some (.str one), some (.str two), some (.ref a), v4, v5, v6])
      ⟨upd_same, ⟨_, R0.mono (same_new nb)⟩, _, _, _, rfl⟩ (fun i σ H' _ h => SqL.of h.1) ?_ ?_⟩
    · rintro i v σ H2 hi ⟨hb2, ⟨B2, R⟩, v4, v5, v6, rfl⟩
      have i3 : i < 3 := (List.getElem?_eq_some_iff.mp hi).1
      obtain ⟨t, et, tt, tn, t3⟩ := three_at o1 o2 i3
      have ev : V.str t = v := Option.some.inj (et.symm.trans hi)
      subst ev
      have keepB : ∀ {H' : Hp} {q : Addr} {o o' : HO}, H' q = none → H' b = some (.lst [V.str nil0, V.str one, V.str two]) → (upd (upd H' q o) a o') b = some (.lst [V.str nil0, V.str one, V.str two]) := fun nq e => by
        rw [upd_ne ab]
        exact same_new nq _ _ e
      refine ⟨_, rfl, .inl ⟨rfl, _, SqL.of R.at_⟩, _, rfl, _, rfl, show 8 ≤ sizeLine by decide, fun q1 nq1 => ⟨a, _, _, rfl, rfl, R.look nq1, R.sz (by omega), ?_⟩⟩
      have R1 := R.add na nq1 (r := ⟨0, gt0, t, 1, -1, keep0, nil0, nil0⟩) (mkRl (by decide) (sgnGt l) tt (by decide) (mvL lt_gt.symm) (keepD t) said0)
      refine ⟨_, rfl, .inl ⟨rfl, _, SqL.of R1.at_⟩, _, rfl, show 8 ≤ sizeLine by decide, fun q2 nq2 => ⟨a, _, _, rfl, rfl, R1.look nq2, R1.sz (by omega), ?_⟩⟩
      have R2 := R1.add na nq2 (r := ⟨1, lt0, t, 2, 1, keep0, nil0, nil0⟩) (mkRl (by decide) (sgnLt l) tt (by decide) (mvR lt_gt) (keepD t) said0)
      refine ⟨_, rfl, .inl ⟨rfl, _, SqL.of R2.at_⟩, _, rfl, show 8 ≤ sizeLine by decide, fun q3 nq3 => ⟨a, _, _, rfl, rfl, R2.look nq3, R2.sz (by omega), ?_⟩⟩
      have R3 := R2.add na nq3 (r := ⟨3, lt0, t, 4, 1, keep0, nil0, PySem.Str.ofString "b"⟩) (mkRl (by decide) (sgnLt l) tt (by decide) (mvR lt_gt) (keepD t) saidB)
      refine ⟨_, rfl, l, rfl, szl, _, rfl, by omega, by omega, for_range (lo := 0) (n := ((l.length : Nat) : Int).toNat) (fun j σ H' => H' b = some (.lst [V.str nil0, V.str one, V.str two]) ∧ Rs H H' a l 5 (1 + 18 * i + 3 + 5 * j) ∧ ∃ v5 v6 : Option V, σ = [some (.str l), some (.str one), some (.str two), some (.ref a), some (.str t), v5, v6])
        ⟨keepB nq3 (keepB nq2 (keepB nq1 hb2)), Rs.le ⟨_, R3⟩ (by omega), _, _, rfl⟩ ?_ ?_⟩
      · rintro j σ H4 hj ⟨hb4, ⟨B4, R4⟩, v5, v6, rfl⟩
        obtain ⟨c, ec, mc⟩ := let_at (l := l) (i := j) (by omega)
        obtain ⟨x, ex, ox, _⟩ := two_at o1 o2 j
        refine ⟨_, rfl, _, rfl, show 2 ≤ sizeLine by decide, fun u nu => ?_⟩
        have R4' := R4.mono (same_new (o := HO.lst [V.str one, V.str two]) nu)
        refine ⟨_, rfl, _, _, rfl, rfl, show (0 : Int) < 2 by decide, u, _, _, .str x, rfl, rfl, SqL.of upd_same, ex, ?_⟩
        refine ⟨_, rfl, .inl ⟨rfl, _, SqL.of R4'.at_⟩, _, rfl, _, rfl, l, _, c, rfl, rfl, szl, ec, _, rfl, _, rfl, show 8 ≤ sizeLine by decide, fun q4 nq4 => ⟨a, _, _, rfl, rfl, R4'.look nq4, R4'.sz (by omega), ?_⟩⟩
        have R5 := R4'.add na nq4 (r := ⟨0, sgn1 c, t, 0, 1, push0, x, nil0⟩) (mkRl (by decide) (sgnIn mc) tt (by decide) (mvR (let_gt al mc)) (pushD t ox) said0)
        refine ⟨_, rfl, .inl ⟨rfl, _, SqL.of R5.at_⟩, _, rfl, _, rfl, l, _, c, rfl, rfl, szl, ec, _, rfl, _, rfl, show 8 ≤ sizeLine by decide, fun q5 nq5 => ⟨a, _, _, rfl, rfl, R5.look nq5, R5.sz (by omega), ?_⟩⟩
        have R6 := R5.add na nq5 (r := ⟨1, sgn1 c, t, 1, -1, keep0, nil0, nil0⟩) (mkRl (by decide) (sgnIn mc) tt (by decide) (mvL (let_lt al mc)) (keepD t) said0)
        refine ⟨_, rfl, .inl ⟨rfl, _, SqL.of R6.at_⟩, _, rfl, _, rfl, l, _, c, rfl, rfl, szl, ec, _, rfl, _, rfl, _, rfl, show 8 ≤ sizeLine by decide, fun q6 nq6 => ⟨a, _, _, rfl, rfl, R6.look nq6, R6.sz (by omega), ?_⟩⟩
        have R7 := R6.add na nq6 (r := ⟨3, sgn1 c, t, 3, -1, push0, x, nil0⟩) (mkRl (by decide) (sgnIn mc) tt (by decide) (mvL (let_lt al mc)) (pushD t ox) said0)
        refine ⟨fun σ' H' => σ' = [some (.str l), some (.str one), some (.str two), some (.ref a), some (.str t), some (.int (0 + (j : Int))), some (.str x)] ∧ H' b = some (.lst [V.str nil0, V.str one, V.str two]) ∧ Rs H H' a l 5 (1 + 18 * i + 3 + 5 * j + 4), ?_, ?_⟩
        · refine ⟨_, rfl, _, rfl, rfl, _, rfl, ?_⟩
          rw [dec_str]
          refine ite2 (fun e => ?_) (fun e => ?_)
          · have tx : t ≠ nil0 := by rw [of_decide_eq_true e]; exact sym_ne ox
            refine ⟨_, rfl, .inl ⟨rfl, _, SqL.of R7.at_⟩, _, rfl, _, rfl, l, _, c, rfl, rfl, szl, ec, _, rfl, _, rfl, _, rfl, l, _, c, rfl, rfl, szl, ec, show 8 ≤ sizeLine by decide, fun q7 nq7 => ⟨a, _, _, rfl, rfl, R7.look nq7, R7.sz (by omega), ?_⟩⟩
            have R8 := R7.add na nq7 (r := ⟨2, sgn1 c, t, 2, 1, pop0, nil0, sgn1 c⟩) (mkRl (by decide) (sgnIn mc) tt (by decide) (mvR (let_gt al mc)) (popD tx) (said1 al mc))
            exact ⟨rfl, keepB nq7 (keepB nq6 (keepB nq5 (keepB nq4 (same_new (o := HO.lst [V.str one, V.str two]) nu _ _ hb4)))), Rs.le ⟨_, R8⟩ (by omega)⟩
          · refine ⟨_, rfl, rfl, _, rfl, ite2 (fun e2 => ?_) (fun _ => ⟨rfl, (keepB nq6 (keepB nq5 (keepB nq4 (same_new (o := HO.lst [V.str one, V.str two]) nu _ _ hb4)))), Rs.le ⟨_, R7⟩ (by omega)⟩)⟩
            refine ⟨_, rfl, .inl ⟨rfl, _, SqL.of R7.at_⟩, _, rfl, _, rfl, l, _, c, rfl, rfl, szl, ec, _, rfl, _, rfl, show 8 ≤ sizeLine by decide, fun q7 nq7 => ⟨a, _, _, rfl, rfl, R7.look nq7, R7.sz (by omega), ?_⟩⟩
            have R8 := R7.add na nq7 (r := ⟨2, sgn1 c, t, 3, -1, keep0, nil0, nil0⟩) (mkRl (by decide) (sgnIn mc) tt (by decide) (mvL (let_lt al mc)) (keepD t) said0)
            exact ⟨rfl, keepB nq7 (keepB nq6 (keepB nq5 (keepB nq4 (same_new (o := HO.lst [V.str one, V.str two]) nu _ _ hb4)))), Rs.le ⟨_, R8⟩ (by omega)⟩
        rintro _ H8 ⟨rfl, hb8, ⟨B8, R8⟩⟩
        refine ⟨_, rfl, rfl, _, rfl, ite2 (fun e2 => ?_) (fun _ => ⟨hb8, Rs.le ⟨_, R8⟩ (by omega), _, _, rfl⟩)⟩
        have tx : t ≠ nil0 := fun z => by
          rw [z] at e2
          exact absurd e2 (by decide +kernel)
        refine ⟨_, rfl, .inl ⟨rfl, _, SqL.of R8.at_⟩, _, rfl, _, rfl, l, _, c, rfl, rfl, szl, ec, _, rfl, show 8 ≤ sizeLine by decide, fun q9 nq9 => ⟨a, _, _, rfl, rfl, R8.look nq9, R8.sz (by omega), ?_⟩⟩
        have R9 := R8.add na nq9 (r := ⟨4, sgn1 c, t, 2, 0, pop0, nil0, nil0⟩) (mkRl (by decide) (sgnIn mc) tt (by decide) (mv0 _) (popD tx) said0)
        exact ⟨keepB nq9 hb8, Rs.le ⟨_, R9⟩ (by omega), _, _, rfl⟩
      · rintro σ H4 ⟨hb4, R4, v5, v6, rfl⟩
        exact ⟨hb4, R4.le (by omega), _, _, _, rfl⟩
    · rintro σ H2 ⟨hb2, R2, v4, v5, v6, rfl⟩
      exact ⟨_, rfl, k a H2 na (R2.le (show 1 + 18 * 3 ≤ 64 by decide))⟩
end
end Mk

set_option Elab.async false
set_option linter.unusedVariables false
set_option maxRecDepth 100000
set_option maxHeartbeats 8000000
namespace Mk
open PySem L2 Pk
theorem rs_cat {H H0 : Hp} {a q1 q2 b a2 : Addr} {l : PySem.Str} {n : Int} {m : Nat} {B : Kept} {r1 r2 : Rl} (R : RsAt H H0 a l n m B) (n1 : H0 q1 = none) (n2 : (upd H0 q1 (.tup r1.vs)) q2 = none) (n3 : (upd (upd H0 q1 (.tup r1.vs)) q2 (.tup r2.vs)) b = none)
    (n4 : (upd (upd (upd H0 q1 (.tup r1.vs)) q2 (.tup r2.vs)) b (.lst [V.ref q1, V.ref q2])) a2 = none) (o1 : RlOk l n r1) (o2 : RlOk l n r2) :
    (upd (upd (upd H0 q1 (.tup r1.vs)) q2 (.tup r2.vs)) b (.lst [V.ref q1, V.ref q2])) a = some (.lst (refsK B)) ∧ H a2 = none ∧ RsAt H (upd (upd (upd (upd H0 q1 (.tup r1.vs)) q2 (.tup r2.vs)) b (.lst [V.ref q1, V.ref q2])) a2 (.lst (refsK B ++ [V.ref q1, V.ref q2]))) a2 l n (m + 2) (B ++ [(q1, r1), (q2, r2)]) := by
  have t1 := same_new (o := HO.tup r1.vs) n1
  have t2 := same_new (o := HO.tup r2.vs) n2
  have t3 := same_new (o := HO.lst [V.ref q1, V.ref q2]) n3
  have t4 := same_new (o := HO.lst (refsK B ++ [V.ref q1, V.ref q2])) n4
  refine ⟨t3 _ _ (t2 _ _ (t1 _ _ R.at_)), (((R.same.trans t1).trans t2).trans t3).free n4, (((R.same.trans t1).trans t2).trans t3).trans t4, ?_, fun p m => ?_, fun p m => ?_, ?_⟩
  · rw [upd_same]
    unfold refsK
    rw [List.map_append] <;> rfl
  · rcases List.mem_append.mp m with m | m
    · exact t4 _ _ (t3 _ _ (t2 _ _ (t1 _ _ (R.kept p m))))
    · rcases List.mem_cons.mp m with rfl | m
      · exact t4 _ _ (t3 _ _ (t2 _ _ upd_same))
      · rw [List.mem_singleton.mp m]
        exact t4 _ _ (t3 _ _ upd_same)
  · rcases List.mem_append.mp m with m | m
    · exact R.ok p m
    · rcases List.mem_cons.mp m with rfl | m
      · exact o1
      · rw [List.mem_singleton.mp m]
        exact o2
  · rw [List.length_append]
    have := R.few
    show B.length + 2 ≤ m + 2
    omega
section
variable {P : Program} {w : World} {K : PySem.W.Frag} {mg : PySem.Str → Option Value} {base : Heap}
/-! _law_caller -/
def spCaller (K : PySem.W.Frag) : Sp := fun vs H Q _ => ∃ (l one two : PySem.Str) (aM : Addr) (ms : List Int), vs = [.str l, .str one, .str two, .ref aM] ∧ Alpha l ∧ l.length ≤ 3 ∧ symB one = true ∧ symB two = true ∧ SqL K H aM (ms.map V.int) ∧ 9 ≤ ms.length ∧
  ∀ (p : Addr) (H' : Hp), H p = none → Rs H H' p l 4 64 → Q (.ref p) H'
abbrev nCaller : List PySem.Str := ["letters", "one", "two", "modes", "rules", "tops", "j", "k", "mode", "letter"]
theorem scCaller : FnScope nCaller ["letters", "one", "two", "modes"] (defScope sCaller) := ⟨rfl, rfl, rfl, by decide +kernel, rfl, by decide +kernel, by decide +kernel⟩
theorem ok_caller {f : Addr} {fd : FuncData} (F : Fun K "_law_caller" "_law_caller" sCaller f fd) (T : TM mg) : FnOk P w K mg base CX0 1 f fd ["letters", "one", "two", "modes"] (spCaller K) := by
  refine F.ok scCaller (fun vs H Q E h => ?_) (fun cdv A outer s H vs Q E hr h => ?_)
  · obtain ⟨l, one, two, aM, ms, rfl, _⟩ := h
    rfl
  · obtain ⟨l, one, two, aM, ms, rfl, al, l3, o1, o2, hM, ms9, k⟩ := h
    have nd := scCaller.nd
    refine ⟨_, (pss_cons (ps_set (i := 4) nd rfl (Or.inl rfl) (pe_lst (pa_cons (pe_tup (pa_cons pe_int (pa_cons pe_str (pa_cons pe_str (pa_cons pe_int (pa_cons pe_int (pa_cons pe_str (pa_cons pe_str (pa_cons pe_str pa_nil))))))))) (pa_cons (pe_tup (pa_cons pe_int (pa_cons pe_str (pa_cons pe_str (pa_cons pe_int (pa_cons pe_int (pa_cons pe_str (pa_cons pe_str (pa_cons pe_str pa_nil))))))))) pa_nil))))
      (pss_cons (ps_set (i := 4) nd rfl (Or.inl rfl) (pe_op op_cat (pv 4) (pe_lst (pa_cons (pe_tup (pa_cons pe_int (pa_cons pe_str (pa_cons (pv 1) (pa_cons pe_int (pa_cons pe_int (pa_cons pe_str (pa_cons pe_str (pa_cons pe_str pa_nil))))))))) (pa_cons (pe_tup (pa_cons pe_int (pa_cons pe_str (pa_cons (pv 2) (pa_cons pe_int (pa_cons pe_int (pa_cons pe_str (pa_cons pe_str (pa_cons pe_str pa_nil))))))))) pa_nil)))))
      (pss_cons (ps_set (i := 5) nd rfl (Or.inl rfl) (pe_lst (pa_cons pe_str (pa_cons (pv 1) (pa_cons (pv 2) pa_nil)))))
      (pss_cons (ps_for PassesOwn.never rfl (pi_range1 (by rfl) T.range (pa_cons pe_int pa_nil)) (pg_name (i := 6) nd rfl (Or.inl rfl))
        (pss_cons (ps_for PassesOwn.never rfl (pi_range1 (by rfl) T.range (pa_cons (pe_callB call_len_str (by rfl) T.len PySem.boot_len (pa_cons (pv 0) pa_nil)) pa_nil)) (pg_name (i := 7) nd rfl (Or.inl rfl))
          (pss_cons (ps_set (i := 8) nd rfl (Or.inl rfl) (pe_ix ix_list (pv 3) (pe_op op_add (pe_op op_mul pe_int (pv 7)) (pv 6)) fun _ _ => rfl))
          (C8.pss_cut (ps_if (PW.pt (pw_or (pt_cmpR op_lt (pv 8) pe_int (nomark _)) (pw_or1 (pt_cmpR op_eq (pv 6) pe_int (nomark _)))))
            (pss_one (ps_expr (pe_bm PySem.F.plainAttrs_list PySem.F.slot_list_append PySem.F.type_list_append mt_append (pv 4) (pa_cons (pe_tup (pa_cons pe_int (pa_cons (pe_ix ix_str (pv 0) (pv 7) fun _ _ => rfl) (pa_cons (pe_ix ix_list (pv 5) (pv 6) fun _ _ => rfl) (pa_cons pe_int (pa_cons pe_int (pa_cons pe_str (pa_cons (pv 1) (pa_cons pe_str pa_nil))))))))) pa_nil))))
            (pss_one (ps_if (pt_cmpR op_eq (pv 8) pe_int (nomark _))
              (pss_one (ps_expr (pe_bm PySem.F.plainAttrs_list PySem.F.slot_list_append PySem.F.type_list_append mt_append (pv 4) (pa_cons (pe_tup (pa_cons pe_int (pa_cons (pe_ix ix_str (pv 0) (pv 7) fun _ _ => rfl) (pa_cons (pe_ix ix_list (pv 5) (pv 6) fun _ _ => rfl) (pa_cons (pv 6) (pa_cons pe_int (pa_cons pe_str (pa_cons pe_str (pa_cons pe_str pa_nil))))))))) pa_nil))))
              (pss_one (ps_expr (pe_bm PySem.F.plainAttrs_list PySem.F.slot_list_append PySem.F.type_list_append mt_append (pv 4) (pa_cons (pe_tup (pa_cons pe_int (pa_cons (pe_ix ix_str (pv 0) (pv 7) fun _ _ => rfl) (pa_cons (pe_ix ix_list (pv 5) (pv 6) fun _ _ => rfl) (pa_cons pe_int (pa_cons pe_int (pa_cons pe_str (pa_cons (pe_ix ix_list (pv 5) (pe_op op_sub pe_int (pv 6)) fun _ _ => rfl) (pa_cons pe_str pa_nil))))))))) pa_nil)))))))
          (pss_cons (ps_expr (pe_bm PySem.F.plainAttrs_list PySem.F.slot_list_append PySem.F.type_list_append mt_append (pv 4) (pa_cons (pe_tup (pa_cons pe_int (pa_cons (pe_ix ix_str (pv 0) (pv 7) fun _ _ => rfl) (pa_cons (pe_ix ix_list (pv 5) (pv 6) fun _ _ => rfl) (pa_cons pe_int (pa_cons pe_int (pa_cons pe_str (pa_cons (pv 2) (pa_cons pe_str pa_nil))))))))) pa_nil)))
          (pss_one (ps_expr (pe_bm PySem.F.plainAttrs_list PySem.F.slot_list_append PySem.F.type_list_append mt_append (pv 4) (pa_cons (pe_tup (pa_cons pe_int (pa_cons (pe_ix ix_str (pv 0) (pv 7) fun _ _ => rfl) (pa_cons (pe_ix ix_list (pv 5) (pv 6) fun _ _ => rfl) (pa_cons pe_int (pa_cons (pe_un un_neg pe_int) (pa_cons pe_str (pa_cons pe_str (pa_cons pe_str pa_nil))))))))) pa_nil))))))))
        (pss_cons (ps_expr (pe_bm PySem.F.plainAttrs_list PySem.F.slot_list_append PySem.F.type_list_append mt_append (pv 4) (pa_cons (pe_tup (pa_cons pe_int (pa_cons pe_str (pa_cons (pe_ix ix_list (pv 5) (pv 6) fun _ _ => rfl) (pa_cons pe_int (pa_cons pe_int (pa_cons pe_str (pa_cons (pv 2) (pa_cons pe_str pa_nil))))))))) pa_nil)))
        (pss_cons (ps_expr (pe_bm PySem.F.plainAttrs_list PySem.F.slot_list_append PySem.F.type_list_append mt_append (pv 4) (pa_cons (pe_tup (pa_cons pe_int (pa_cons pe_str (pa_cons (pe_ix ix_list (pv 5) (pv 6) fun _ _ => rfl) (pa_cons pe_int (pa_cons (pe_un un_neg pe_int) (pa_cons pe_str (pa_cons pe_str (pa_cons pe_str pa_nil))))))))) pa_nil)))
        (pss_one (ps_expr (pe_bm PySem.F.plainAttrs_list PySem.F.slot_list_append PySem.F.type_list_append mt_append (pv 4) (pa_cons (pe_tup (pa_cons pe_int (pa_cons pe_str (pa_cons (pe_ix ix_list (pv 5) (pv 6) fun _ _ => rfl) (pa_cons pe_int (pa_cons pe_int (pa_cons pe_str (pa_cons pe_str (pa_cons pe_str pa_nil))))))))) pa_nil))))))))
      (pss_cons (ps_for PassesOwn.never rfl (pi_str (pv 0)) (pg_name (i := 9) nd rfl (Or.inl rfl))
        (pss_cons (ps_expr (pe_bm PySem.F.plainAttrs_list PySem.F.slot_list_append PySem.F.type_list_append mt_append (pv 4) (pa_cons (pe_tup (pa_cons pe_int (pa_cons (pv 9) (pa_cons (pv 1) (pa_cons pe_int (pa_cons pe_int (pa_cons pe_str (pa_cons pe_str (pa_cons pe_str pa_nil))))))))) pa_nil)))
        (pss_one (ps_expr (pe_bm PySem.F.plainAttrs_list PySem.F.slot_list_append PySem.F.type_list_append mt_append (pv 4) (pa_cons (pe_tup (pa_cons pe_int (pa_cons (pv 9) (pa_cons (pv 2) (pa_cons pe_int (pa_cons pe_int (pa_cons pe_str (pa_cons pe_str (pa_cons (pv 9) pa_nil))))))))) pa_nil))))))
      (pss_one (ps_ret (pv 4)))))))), ?_⟩
    have szl : l.length ≤ sizeLine := Nat.le_trans l3 (by decide)
    refine ⟨show 8 ≤ sizeLine by decide, fun p1 n1 => ⟨show 8 ≤ sizeLine by decide, fun p2 n2 => ⟨show 2 ≤ sizeLine by decide, fun a0 na0 => ?_⟩⟩⟩
    obtain ⟨_, R0⟩ := rs_two (l := l) (n := 4) (r1 := ⟨0, lt0, nil0, 0, 1, keep0, nil0, nil0⟩) (r2 := ⟨0, gt0, nil0, 3, 0, keep0, nil0, nil0⟩) n1 n2 (mkRl (by decide) (sgnLt l) (.inr rfl) (by decide) (mvR lt_gt) (keepD _) said0) (mkRl (by decide) (sgnGt l) (.inr rfl) (by decide) (mv0 _) (keepD _) said0) na0
    refine ⟨_, rfl, _, rfl, show 8 ≤ sizeLine by decide, fun p3 n3 => ⟨_, rfl, show 8 ≤ sizeLine by decide, fun p4 n4 => ⟨show 2 ≤ sizeLine by decide, fun b0 nb0 => ?_⟩⟩⟩
    have CAT := fun a2 n4' => rs_cat (a2 := a2) (r1 := ⟨0, gt0, one, 1, 0, pop0, nil0, PySem.Str.ofString "k"⟩) (r2 := ⟨0, gt0, two, 2, 0, pop0, nil0, PySem.Str.ofString "k"⟩) R0 n3 n4 nb0 n4' (mkRl (by decide) (sgnGt l) (.inl o1) (by decide) (mv0 _) (popD (sym_ne o1)) saidK) (mkRl (by decide) (sgnGt l) (.inl o2) (by decide) (mv0 _) (popD (sym_ne o2)) saidK)
    have R0at := same_new (o := HO.lst [V.ref p3, V.ref p4]) nb0 _ _ (same_new n4 _ _ (same_new n3 _ _ R0.at_))
    refine ⟨a0, b0, _, _, rfl, rfl, R0at, upd_same, show 4 ≤ sizeLine by decide, fun a na1 => ?_⟩
    obtain ⟨_, na, R⟩ := CAT a na1
    clear CAT R0 R0at
    refine ⟨_, rfl, _, rfl, show 3 ≤ sizeLine by decide, fun c nc => ?_⟩
    have ac : c ≠ a := fun z => by
      rw [z] at nc
      have x := R.at_.symm.trans nc
      cases x
    have hM0 := R.same.seq hM
    refine ⟨_, rfl, by decide, by decide, for_range (lo := 0) (n := (3 : Int).toNat) (fun i σ H' => H' c = some (.lst [V.str nil0, V.str one, V.str two]) ∧ Rs H H' a l 4 (4 + 12 * i) ∧ ∃ v6 v7 v8 v9 : Option V, σ = [some (.str l), some (.str one), some (.str two), some (.ref aM), some (.ref a), some (.ref c), v6, v7, v8, v9])
      ⟨upd_same, ⟨_, R.mono (same_new nc)⟩, _, _, _, _, rfl⟩ ?_ ?_⟩
    · rintro i σ H2 hi ⟨hc2, R2, v6, v7, v8, v9, rfl⟩
      have i3 : i < 3 := by omega
      obtain ⟨t, et, tt, tn, t3⟩ := three_at o1 o2 i3
      have eti : atI [V.str nil0, V.str one, V.str two] (0 + (i : Int)) = some (.str t) := by
        rw [show (0 : Int) + (i : Int) = ((i : Nat) : Int) by omega]
        exact atI_nat et
      have keepB : ∀ {H' : Hp} {q : Addr} {o o' : HO}, H' q = none → H' c = some (.lst [V.str nil0, V.str one, V.str two]) → (upd (upd H' q o) a o') c = some (.lst [V.str nil0, V.str one, V.str two]) := fun nq e => by
        rw [upd_ne ac]
        exact same_new nq _ _ e
      refine ⟨_, rfl, l, rfl, szl, _, rfl, by omega, by omega, for_range (lo := 0) (n := ((l.length : Nat) : Int).toNat) (fun j σ H' => H' c = some (.lst [V.str nil0, V.str one, V.str two]) ∧ Rs H H' a l 4 (4 + 12 * i + 3 * j) ∧ ∃ v7 v8 v9 : Option V, σ = [some (.str l), some (.str one), some (.str two), some (.ref aM), some (.ref a), some (.ref c), some (.int (0 + (i : Int))), v7, v8, v9])
        ⟨hc2, R2.le (by omega), _, _, _, rfl⟩ ?_ ?_⟩
      · rintro j σ H4 hj ⟨hc4, ⟨B4, R4⟩, v7, v8, v9, rfl⟩
        obtain ⟨d, ed, md⟩ := let_at (l := l) (i := j) (by omega)
        have jl : j < l.length := by omega
        obtain ⟨mode, em⟩ : ∃ x, ms[3 * j + i]? = some x := ⟨_, List.getElem?_eq_getElem (show 3 * j + i < ms.length by omega)⟩
        refine ⟨_, rfl, _, rfl, _, _, rfl, rfl, .inl ⟨by decide, by decide⟩, _, rfl, _, _, rfl, rfl, aM, _, _, .int mode, rfl, rfl, R4.same.seq hM, ?_, ?_⟩
        · rw [show (3 : Int) * (0 + (j : Int)) + (0 + (i : Int)) = ((3 * j + i : Nat) : Int) by omega]
          exact atI_nat (by rw [List.getElem?_map, em] <;> rfl)
        have af : (0 : Int) ≤ 0 + (i : Int) ∧ 0 + (i : Int) ≤ 4 - 1 := by omega
        refine ⟨fun σ' H' => σ' = [some (.str l), some (.str one), some (.str two), some (.ref aM), some (.ref a), some (.ref c), some (.int (0 + (i : Int))), some (.int (0 + (j : Int))), some (.int mode), v9] ∧ H' c = some (.lst [V.str nil0, V.str one, V.str two]) ∧ Rs H H' a l 4 (4 + 12 * i + 3 * j + 1), ?_, ?_⟩
        · have add1 : ∀ q, H4 q = none → (upd (upd H4 q (.tup [.int 0, .str (sgn1 d), .str t, .int 0, .int 1, .str push0, .str one, .str nil0])) a (.lst (refsK B4 ++ [V.ref q]))) c = some (.lst [V.str nil0, V.str one, V.str two]) ∧ Rs H (upd (upd H4 q (.tup [.int 0, .str (sgn1 d), .str t, .int 0, .int 1, .str push0, .str one, .str nil0])) a (.lst (refsK B4 ++ [V.ref q]))) a l 4 (4 + 12 * i + 3 * j + 1) := fun q nq => by
            have R5 := R4.add na nq (r := ⟨0, sgn1 d, t, 0, 1, push0, one, nil0⟩) (mkRl (by decide) (sgnIn md) tt (by decide) (mvR (let_gt al md)) (pushD t o1) said0)
            exact ⟨keepB nq hc4, _, R5⟩
          refine ⟨_, rfl, _, _, rfl, rfl, _, rfl, ite2 (fun _ => ?_) (fun _ => ?_)⟩
          · refine iteT ?_
            refine ⟨_, rfl, .inl ⟨rfl, _, SqL.of R4.at_⟩, _, rfl, _, rfl, l, _, d, rfl, rfl, szl, ed, _, rfl, _, rfl, c, _, _, .str t, rfl, rfl, SqL.of hc4, eti, _, rfl, show 8 ≤ sizeLine by decide, fun q nq => ⟨a, _, _, rfl, rfl, R4.look nq, R4.sz (by omega), ?_⟩⟩
            exact ⟨rfl, add1 q nq⟩
          · refine ⟨_, rfl, rfl, _, rfl, ite2 (fun _ => ?_) (fun e => ?_)⟩
            · refine ⟨_, rfl, .inl ⟨rfl, _, SqL.of R4.at_⟩, _, rfl, _, rfl, l, _, d, rfl, rfl, szl, ed, _, rfl, _, rfl, c, _, _, .str t, rfl, rfl, SqL.of hc4, eti, _, rfl, show 8 ≤ sizeLine by decide, fun q nq => ⟨a, _, _, rfl, rfl, R4.look nq, R4.sz (by omega), ?_⟩⟩
              exact ⟨rfl, add1 q nq⟩
            · have i0 : i ≠ 0 := fun z => e (by rw [z] <;> rfl)
              have tne := sym_ne (tn i0)
              refine ⟨_, rfl, rfl, _, rfl, ite2 (fun _ => ?_) (fun _ => ?_)⟩
              · refine ⟨_, rfl, .inl ⟨rfl, _, SqL.of R4.at_⟩, _, rfl, _, rfl, l, _, d, rfl, rfl, szl, ed, _, rfl, _, rfl, c, _, _, .str t, rfl, rfl, SqL.of hc4, eti, _, rfl, show 8 ≤ sizeLine by decide, fun q nq => ⟨a, _, _, rfl, rfl, R4.look nq, R4.sz (by omega), ?_⟩⟩
                have R5 := R4.add na nq (r := ⟨0, sgn1 d, t, 0 + (i : Int), 0, pop0, nil0, PySem.Str.ofString "b"⟩) (mkRl (by decide) (sgnIn md) tt af (mv0 _) (popD tne) saidB)
                exact ⟨rfl, keepB nq hc4, _, R5⟩
              · obtain ⟨x, ex, ox⟩ : ∃ x, atI [V.str nil0, V.str one, V.str two] (3 - (0 + (i : Int))) = some (.str x) ∧ symB x = true := by
                  have cs : i = 1 ∨ i = 2 := by omega
                  rcases cs with rfl | rfl
                  · exact ⟨two, rfl, o2⟩
                  · exact ⟨one, rfl, o1⟩
                refine ⟨_, rfl, .inl ⟨rfl, _, SqL.of R4.at_⟩, _, rfl, _, rfl, l, _, d, rfl, rfl, szl, ed, _, rfl, _, rfl, c, _, _, .str t, rfl, rfl, SqL.of hc4, eti, _, rfl, _, rfl, _, _, rfl, rfl, c, _, _, .str x, rfl, rfl, SqL.of hc4, ex, show 8 ≤ sizeLine by decide, fun q nq => ⟨a, _, _, rfl, rfl, R4.look nq, R4.sz (by omega), ?_⟩⟩
                have R5 := R4.add na nq (r := ⟨0, sgn1 d, t, 1, 1, swap0, x, nil0⟩) (mkRl (by decide) (sgnIn md) tt (by decide) (mvR (let_gt al md)) (swapD tne ox) said0)
                exact ⟨rfl, keepB nq hc4, _, R5⟩
        rintro _ H8 ⟨rfl, hc8, ⟨B8, R8⟩⟩
        refine ⟨_, rfl, .inl ⟨rfl, _, SqL.of R8.at_⟩, _, rfl, _, rfl, l, _, d, rfl, rfl, szl, ed, _, rfl, _, rfl, c, _, _, .str t, rfl, rfl, SqL.of hc8, eti, _, rfl, show 8 ≤ sizeLine by decide, fun q nq => ⟨a, _, _, rfl, rfl, R8.look nq, R8.sz (by omega), ?_⟩⟩
        have R9 := R8.add na nq (r := ⟨1, sgn1 d, t, 0, 0, push0, two, nil0⟩) (mkRl (by decide) (sgnIn md) tt (by decide) (mv0 _) (pushD t o2) said0)
        refine ⟨_, rfl, .inl ⟨rfl, _, SqL.of R9.at_⟩, _, rfl, _, rfl, l, _, d, rfl, rfl, szl, ed, _, rfl, _, rfl, c, _, _, .str t, rfl, rfl, SqL.of (keepB nq hc8), eti, _, rfl, show 8 ≤ sizeLine by decide, fun q2 nq2 => ⟨a, _, _, rfl, rfl, R9.look nq2, R9.sz (by omega), ?_⟩⟩
        have R10 := R9.add na nq2 (r := ⟨2, sgn1 d, t, 3, -1, keep0, nil0, nil0⟩) (mkRl (by decide) (sgnIn md) tt (by decide) (mvL (let_lt al md)) (keepD t) said0)
        exact ⟨keepB nq2 (keepB nq hc8), Rs.le ⟨_, R10⟩ (by omega), _, _, _, rfl⟩
      · rintro σ H4 ⟨hc4, ⟨B4, R4⟩, v7, v8, v9, rfl⟩
        refine ⟨_, rfl, .inl ⟨rfl, _, SqL.of R4.at_⟩, _, rfl, _, rfl, c, _, _, .str t, rfl, rfl, SqL.of hc4, eti, _, rfl, show 8 ≤ sizeLine by decide, fun q nq => ⟨a, _, _, rfl, rfl, R4.look nq, R4.sz (by omega), ?_⟩⟩
        have R5 := R4.add na nq (r := ⟨1, gt0, t, 0, 0, push0, two, nil0⟩) (mkRl (by decide) (sgnGt l) tt (by decide) (mv0 _) (pushD t o2) said0)
        refine ⟨_, rfl, .inl ⟨rfl, _, SqL.of R5.at_⟩, _, rfl, _, rfl, c, _, _, .str t, rfl, rfl, SqL.of (keepB nq hc4), eti, _, rfl, show 8 ≤ sizeLine by decide, fun q2 nq2 => ⟨a, _, _, rfl, rfl, R5.look nq2, R5.sz (by omega), ?_⟩⟩
        have R6 := R5.add na nq2 (r := ⟨2, gt0, t, 3, -1, keep0, nil0, nil0⟩) (mkRl (by decide) (sgnGt l) tt (by decide) (mvL lt_gt.symm) (keepD t) said0)
        refine ⟨_, rfl, .inl ⟨rfl, _, SqL.of R6.at_⟩, _, rfl, _, rfl, c, _, _, .str t, rfl, rfl, SqL.of (keepB nq2 (keepB nq hc4)), eti, show 8 ≤ sizeLine by decide, fun q3 nq3 => ⟨a, _, _, rfl, rfl, R6.look nq3, R6.sz (by omega), ?_⟩⟩
        have R7 := R6.add na nq3 (r := ⟨3, lt0, t, 1, 1, keep0, nil0, nil0⟩) (mkRl (by decide) (sgnLt l) tt (by decide) (mvR lt_gt) (keepD t) said0)
        exact ⟨keepB nq3 (keepB nq2 (keepB nq hc4)), Rs.le ⟨_, R7⟩ (by omega), _, _, _, _, rfl⟩
    · rintro σ H2 ⟨hc2, R2, v6, v7, v8, v9, rfl⟩
      refine ⟨_, rfl, l, rfl, for_it walk_str (fun j σ H' => Rs H H' a l 4 (40 + 2 * j) ∧ ∃ v9 : Option V, σ = [some (.str l), some (.str one), some (.str two), some (.ref aM), some (.ref a), some (.ref c), v6, v7, v8, v9])
        ⟨R2.le (show 4 + 12 * 3 ≤ 40 by decide), _, rfl⟩ (fun _ _ _ _ _ => trivial) ?_ ?_⟩
      · rintro j v σ H4 _ hj ⟨⟨B4, R4⟩, v9, rfl⟩ ⟨rfl, d, hd, rfl⟩
        have md : d ∈ l.cps.toList := List.mem_of_getElem? (by rw [Array.getElem?_toList]; exact hd)
        have jl : j < l.length := hj
        refine ⟨_, rfl, .inl ⟨rfl, _, SqL.of R4.at_⟩, _, rfl, _, rfl, show 8 ≤ sizeLine by decide, fun q nq => ⟨a, _, _, rfl, rfl, R4.look nq, R4.sz (by omega), ?_⟩⟩
        have R5 := R4.add na nq (r := ⟨3, sgn1 d, one, 1, 0, pop0, nil0, nil0⟩) (mkRl (by decide) (sgnIn md) (.inl o1) (by decide) (mv0 _) (popD (sym_ne o1)) said0)
        refine ⟨_, rfl, .inl ⟨rfl, _, SqL.of R5.at_⟩, _, rfl, _, rfl, _, rfl, show 8 ≤ sizeLine by decide, fun q2 nq2 => ⟨a, _, _, rfl, rfl, R5.look nq2, R5.sz (by omega), ?_⟩⟩
        have R6 := R5.add na nq2 (r := ⟨3, sgn1 d, two, 2, 0, pop0, nil0, sgn1 d⟩) (mkRl (by decide) (sgnIn md) (.inl o2) (by decide) (mv0 _) (popD (sym_ne o2)) (said1 al md))
        exact ⟨Rs.le ⟨_, R6⟩ (by omega), _, rfl⟩
      · rintro σ H4 ⟨R4, v9, rfl⟩
        have ls : l.cps.size ≤ 3 := l3
        exact ⟨_, rfl, k a H4 na (R4.le (by omega))⟩
end
end Mk

set_option Elab.async false
set_option linter.unusedVariables false
set_option maxRecDepth 100000
set_option maxHeartbeats 8000000
namespace Mk
open PySem L2 Pk
abbrev nMachine : List PySem.Str := ["script", "at", "head", "letters", "symbols", "states", "rules", "signs", "tops", "state", "row", "k", "j", "part", "act", "turn", "key", "yes", "letter", "rule"]
theorem scMachine : FnScope nMachine ["script", "at"] (defScope sMachine) := ⟨rfl, rfl, rfl, by decide +kernel, rfl, by decide +kernel, by decide +kernel⟩
/-- what a generator of machines returns -/
def MachD (H : Hp) (p : Addr) (H' : Hp) : Prop := Same H H' ∧ ∃ (l : PySem.Str) (n : Int) (aR aY : Addr) (B : Kept) (ys : List Int), H' p = some (.lst [.str l, .int n, .ref aR, .ref aY]) ∧ Alpha l ∧ l.length ≤ 3 ∧ 1 ≤ n ∧ n ≤ 5 ∧ H' aR = some (.lst (refsK B)) ∧ KeptAt H' B ∧
  (∀ p ∈ B, RlOk l n p.2) ∧ B.length ≤ 67 ∧ H' aY = some (.lst (ys.map V.int)) ∧ (∀ y ∈ ys, 0 ≤ y ∧ y ≤ n - 1) ∧ ys.length ≤ 5
theorem cut_take {xs : List V} {b : Nat} : cutV xs none (some (b : Int)) = xs.take b := by
  unfold cutV
  rw [HT.sIx_none, HT.sIx_nat]
  show (xs.drop 0).take (min b xs.length - 0) = xs.take b
  rw [List.drop_zero, Nat.sub_zero]
  by_cases h : b ≤ xs.length
  · rw [Nat.min_eq_left h]
  · rw [Nat.min_eq_right (by omega), List.take_of_length_le (Nat.le_refl _), List.take_of_length_le (by omega)]
theorem refs_take (B : Kept) (b : Nat) : (refsK B).take b = refsK (B.take b) := by
  unfold refsK
  rw [List.map_take]
theorem powers_at {i : Nat} (h : i < 5) : ∃ v : Int, atI [V.int 1, V.int 2, V.int 4, V.int 8, V.int 3] (0 + (i : Int)) = some (.int v) ∧ 0 < v ∧ v < 9 := by
  have c : i = 0 ∨ i = 1 ∨ i = 2 ∨ i = 3 ∨ i = 4 := by omega
  rcases c with rfl | rfl | rfl | rfl | rfl
  · exact ⟨1, rfl, by omega, by omega⟩
  · exact ⟨2, rfl, by omega, by omega⟩
  · exact ⟨4, rfl, by omega, by omega⟩
  · exact ⟨8, rfl, by omega, by omega⟩
  · exact ⟨3, rfl, by omega, by omega⟩
section
variable {P : Program} {w : World} {K : PySem.W.Frag} {mg : PySem.Str → Option Value} {base : Heap}
/-! _law_machine, its end -/
theorem mach_Z {f : Addr} (T : TM mg) (cdv : Value) (A : Around) (outer : List Env) (s : Shared) (H : Hp) (E : XK) :
    ∃ t : TS, PSs (cxOf CX0 P w K mg base nMachine "_law_machine" (defScope sMachine) f cdv A outer s H E).nox ((defBody sMachine).drop 10) t ∧
      ∀ (D : Ends) (H0 : Hp) (k : ∀ p H', MachD H0 p H' → D.rt (.ref p) H') (H1 : Hp) (aD a : Addr) (head : List Int) (d7 : Nat) (l : PySem.Str) (n : Int) (e0 e1 e4 e7 e8 e9 e10 e11 e12 e13 e14 e15 e16 e17 e18 e19 : Option V),
        H1 aD = some (.lst (head.map V.int)) → head[7]? = some (d7 : Int) → Alpha l → l.length ≤ 3 → 1 ≤ n → n ≤ 5 → H0 a = none → Rs H0 H1 a l n 67 →
        t D [e0, e1, some (.ref aD), some (.str l), e4, some (.int n), some (.ref a), e7, e8, e9, e10, e11, e12, e13, e14, e15, e16, e17, e18, e19] H1 := by
  have nd := scMachine.nd
  refine ⟨_, (pss_cons (ps_setLc (i := 17) (own := [("state", 9)]) (g := gName 9) (by rfl) nd rfl rfl (sw_true rfl rfl rfl (by decide +kernel)) (pi_range1 (by rfl) T.range (pa_cons (pv 5) pa_nil)) (blkOk_by (own := [("state", 9)]) (N := nMachine) (sc := defScope sMachine) (by decide +kernel)) (fun _ _ _ _ _ => pg_name (i := 9) nd rfl (Or.inl rfl)) (fun _ _ _ _ _ => pts_one (pt_cmpR op_eq (pe_op op_mod (pe_op op_fdiv (pe_callTy call_int1 (by rfl) T.int PyProof.Rows.Boot.int (pa_cons (pe_ix (r := rIxL K) ix_list (pv 2) pe_int fun _ _ => rfl) pa_nil)) (pe_ix (r := rIxL K) ix_list (pe_lst (pa_cons pe_int (pa_cons pe_int (pa_cons pe_int (pa_cons pe_int (pa_cons pe_int pa_nil)))))) (pv 9) fun _ _ => rfl)) pe_int) pe_int (nomark _))) (fun _ _ _ _ _ => (pv 9)))
      (pss_one (ps_ret (pe_lst (pa_cons (pv 3) (pa_cons (pv 5) (pa_cons (pv 6) (pa_cons (pv 17) pa_nil)))))))), ?_⟩
  intro D H0 k H1 aD a head d7 l n e0 e1 e4 e7 e8 e9 e10 e11 e12 e13 e14 e15 e16 e17 e18 e19 hD ed7 al l3 n1 n5 na hR
  have rowAt : ∀ {j : Nat} {d : Nat}, head[j]? = some (d : Int) → atI (head.map V.int) (j : Int) = some (V.int d) := fun {j d} e => atI_nat (by rw [List.getElem?_map, e]; rfl)
  obtain ⟨B, R⟩ := hR
  -- yes
  refine ⟨_, rfl, n, rfl, by omega, by omega, fun Dy nDy => lc_range (lo := 0) (n := n.toNat) (fun i H' => Same H1 H' ∧ ∃ ys : List Int, H' Dy = some (.lst (ys.map V.int)) ∧ ys.length ≤ i ∧ ∀ y ∈ ys, 0 ≤ y ∧ y ≤ n - 1) ⟨same_new nDy, [], upd_same, Nat.zero_le _, fun y m => absurd m List.not_mem_nil⟩ ?_ ?_⟩
  · rintro i H3 hi ⟨s3, ys, hy, lys, oky⟩
    obtain ⟨v, ev, v0, v9⟩ := powers_at (i := i) (by omega)
    refine ⟨rfl, ?_⟩
    refine ⟨_, rfl, aD, _, _, _, rfl, rfl, SqL.of (s3 _ _ hD), rowAt (j := 7) ed7, .inl ⟨_, rfl, show 5 ≤ sizeLine by decide, fun u nu => ?_⟩⟩
    have tu := same_new (o := HO.lst [V.int 1, V.int 2, V.int 4, V.int 8, V.int 3]) nu
    refine ⟨_, rfl, u, _, _, .int v, rfl, rfl, SqL.of upd_same, ev, _, _, rfl, rfl, ⟨v0, by omega⟩, _, _, rfl, rfl, show (0 : Int) < 2 by decide, rfl, _, rfl, ?_⟩
    refine ite2 (fun _ => ?_) (fun _ => ⟨s3.trans tu, ys, tu _ _ hy, by omega, oky⟩)
    refine ⟨_, rfl, _, tu _ _ hy, ?_, same_mut (s3.trans tu) nDy, ys ++ [0 + (i : Int)], ?_, ?_, fun z m => ?_⟩
    · rw [List.length_map]
      exact Nat.lt_of_le_of_lt (show ys.length ≤ 5 by omega) (by decide)
    · rw [upd_same, List.map_append] <;> rfl
    · rw [List.length_append]
      show ys.length + 1 ≤ i + 1
      omega
    · rcases List.mem_append.mp m with m | m
      · exact oky z m
      · rw [List.mem_singleton.mp m]
        omega
  · rintro H3 ⟨s3, ys, hy, lys, oky⟩
    refine ⟨_, rfl, _, rfl, _, rfl, _, rfl, show 4 ≤ sizeLine by decide, fun p np => ?_⟩
    have t := same_new (o := HO.lst [V.str l, V.int n, V.ref a, V.ref Dy]) np
    have R4 := R.mono (s3.trans t)
    exact k p _ ⟨R4.same, l, n, a, Dy, B, ys, upd_same, al, l3, n1, n5, R4.at_, R4.kept, R4.ok, R4.few, t _ _ hy, oky, by omega⟩
end
end Mk

set_option Elab.async false
set_option maxRecDepth 100000
namespace Mk
open PySem L2 Pk
theorem cut_in {row : List Int} {a b : Nat} (h : b ≤ row.length) (ab : a ≤ b) : cutV (row.map V.int) (some (a : Int)) (some (b : Int)) = ((row.drop a).take (b - a)).map V.int := by
  have h0 : HT.sIx (row.map V.int).length 0 (some (a : Int)) = a := by
    rw [List.length_map]
    unfold HT.sIx
    simp only []
    rw [if_neg (by omega)]
    omega
  have h4 : HT.sIx (row.map V.int).length (row.map V.int).length (some (b : Int)) = b := by
    rw [List.length_map]
    unfold HT.sIx
    simp only []
    rw [if_neg (by omega)]
    omega
  unfold cutV
  rw [h0, h4, ← List.map_drop, ← List.map_take]
theorem cut_from {row : List Int} {a : Nat} (h : a ≤ row.length) : cutV (row.map V.int) (some (a : Int)) none = (row.drop a).map V.int := by
  have h0 : HT.sIx (row.map V.int).length 0 (some (a : Int)) = a := by
    rw [List.length_map]
    unfold HT.sIx
    simp only []
    rw [if_neg (by omega)]
    omega
  have h4 : HT.sIx (row.map V.int).length (row.map V.int).length none = row.length := by
    rw [List.length_map]
    rfl
  unfold cutV
  rw [h0, h4, ← List.map_drop, ← List.map_take, List.take_of_length_le (by rw [List.length_drop]; exact Nat.le_refl _)]
end Mk

set_option Elab.async false
set_option maxRecDepth 100000
set_option maxHeartbeats 4000000
namespace Mk
open PySem L2 Pk
def isLst : HO → Bool
  | .lst _ => true
  | _ => false
/-- all but lists stays -/
def Lk (H H' : Hp) : Prop := ∀ b o, isLst o = false → H b = some o → H' b = some o
theorem Lk.of {H H' : Hp} (s : Same H H') : Lk H H' := fun b o _ e => s b o e
theorem Lk.refl (H : Hp) : Lk H H := fun _ _ _ e => e
theorem Lk.trans {H H' H'' : Hp} (a : Lk H H') (b : Lk H' H'') : Lk H H'' := fun c o n e => b c o n (a c o n e)
theorem Lk.put {H : Hp} {q : Addr} {xs : List V} {o' : HO} (h : H q = some (.lst xs)) : Lk H (upd H q o') := fun b o n e => by
  have ne : b ≠ q := fun z => by
    rw [z, h] at e
    cases e
    cases n
  rw [upd_ne ne]
  exact e
theorem Lk.tk {H H' : Hp} (l : Lk H H') : Tk H H' := fun b _ e => l b _ rfl e
theorem MachAt.lk {K : PySem.W.Frag} {H H' : Hp} {C x : Addr} {l : PySem.Str} {n : Int} {rs : List Rl} {ys : List Int} (h : MachAt K H C x l n rs ys) (e : Lk H H') : MachAt K H' C x l n rs ys := by
  obtain ⟨dx, aR, aY, aS, aA, g, R, hx, hR, kR, eR, hY, hS, hA, hg⟩ := h.ex
  refine ⟨dx, aR, aY, aS, aA, g, R, e _ _ rfl hx, e _ _ rfl hR, fun p m => e _ _ rfl (kR p m), eR, e _ _ rfl hY, e _ _ rfl hS, ?_, hg.tk e.tk⟩
  obtain ⟨kvs, h1, h2⟩ := hA
  exact ⟨kvs, e _ _ rfl h1, Paired.mapP h2 fun a b z => z.mono fun c xs y => e _ _ rfl y⟩
theorem ArgsOk.mono {K : PySem.W.Frag} {H H' : Hp} {l : PySem.Str} {n : Int} {aR aY : Addr} {bR bY : Bool} {R : Hand} {ys : List Int} (h : ArgsOk K H l n aR aY bR bY R ys) (e : Same H H') : ArgsOk K H' l n aR aY bR bY R ys :=
  ⟨h.alpha, h.num, h.rs.mono e, h.hand.mono e, h.yes.mono e, h.in_, h.few⟩
theorem Right.mono {K : PySem.W.Frag} {H H' : Hp} {l : PySem.Str} {n : Int} {aR aY : Addr} {bR bY : Bool} {R : Hand} {ys : List Int} (h : Right K H l n aR aY bR bY R ys) (e : Same H H') : Right K H' l n aR aY bR bY R ys :=
  ⟨h.args.mono e, fun p m b => e _ _ (h.raw p m b), h.few, h.fewY⟩
theorem made_same {H H' : Hp} {x dx C : Addr} (nx : H x = none) (nd : H dx = none) (o : Off x (upd (upd H dx (.own x)) x (.ins C dx [])) H') : Same H H' := fun b u e =>
  o b u (ne_of_none e nx) (by rw [upd_ne (ne_of_none e nx), upd_ne (ne_of_none e nd)]; exact e)
theorem made_new {H : Hp} {x dx C : Addr} (nx : H x = none) (nd : H dx = none) : Same H (upd (upd H dx (.own x)) x (.ins C dx [])) := fun b u e => by
  rw [upd_ne (ne_of_none e nx), upd_ne (ne_of_none e nd)]
  exact e
section
variable {P : Program} {w : World} {K : PySem.W.Frag} {mg : PySem.Str → Option Value} {base : Heap}
/-- the class Machine and its ways to be called -/
structure MDef (P : Program) (w : World) (K : PySem.W.Frag) (mg : PySem.Str → Option Value) (base : Heap) (C fI e0 : Addr) (fd : FuncData) : Prop where
  cls : MCls K C
  maker : L2.Mk K C fI
  name : mg "Machine" = some (.ref C)
  init : FnOk P w K mg base CX0 6 fI fd ["self", "letters", "states", "rules", "yes"] (spInit K C)
  b4 : Binds K fd ["self", "letters", "states", "rules", "yes"] []
  b3 : ∃ ds, Vals [V.ref e0] ds ∧ Binds K fd ["self", "letters", "states", "rules", "yes"] ds
  kw : KBn K fd ["self", "letters", "states", "rules", "yes"] 4 ["yes"] (fun us ws => us ++ ws) (fun vs zs => vs ++ zs)
  empty : ∀ H : Hp, SqT K H e0 []
/-- a right call makes a machine -/
theorem made_of {H : Hp} {C x dx : Addr} {l : PySem.Str} {n : Int} {aR aY : Addr} {bR bY : Bool} {R : Hand} {ys : List Int} {Q : VK} {E : XK} (nx : H x = none) (nd : H dx = none) (r : Right K H l n aR aY bR bY R ys)
    (k : ∀ H', Same H H' → MachAt K H' C x l n (rsOf R) ys → Q (.ref x) H') :
    spInit K C [.ref x, .str l, .int n, .ref aR, .ref aY] (upd (upd H dx (.own x)) x (.ins C dx [])) (fun v H2 => v = .non ∧ Q (.ref x) H2) E :=
  ⟨x, dx, l, n, aR, aY, bR, bY, R, ys, rfl, upd_same, r.mono (made_new nx nd), fun H' o m => ⟨rfl, k H' (made_same nx nd o) m⟩⟩
theorem made_as {H : Hp} {C x dx : Addr} {l : PySem.Str} {n : Int} {aR aY : Addr} {bR bY : Bool} {R : Hand} {ys : List Int} {vs : List V} {Q : VK} {E : XK} (nx : H x = none) (nd : H dx = none) (hv : vs = [.ref x, .str l, .int n, .ref aR, .ref aY]) (r : Right K H l n aR aY bR bY R ys)
    (k : ∀ H', Same H H' → MachAt K H' C x l n (rsOf R) ys → Q .non H') : spInit K C vs (upd (upd H dx (.own x)) x (.ins C dx [])) Q E := by
  subst hv
  exact ⟨x, dx, l, n, aR, aY, bR, bY, R, ys, rfl, upd_same, r.mono (made_new nx nd), fun H' o m => k H' (made_same nx nd o) m⟩
end
theorem alpha_ok {l : PySem.Str} (al : Alpha l) : ∀ c ∈ l.cps.toList, c < 1114112 := fun c m => by
  have z := al.low
  unfold lowB at z
  have y := List.all_eq_true.mp z c m
  unfold lowC at y
  rw [Bool.and_eq_true, decide_eq_true_eq, decide_eq_true_eq] at y
  omega
theorem sym_ok {x : PySem.Str} (h : symB x = true) : ∀ c ∈ x.cps.toList, c < 1114112 := fun c m => by
  unfold symB at h
  rw [Bool.and_eq_true] at h
  have y := List.all_eq_true.mp h.2 c m
  unfold markC at y
  simp only [Bool.or_eq_true, Bool.and_eq_true, decide_eq_true_eq] at y
  omega
theorem top_ok {x : PySem.Str} (h : Top x) : ∀ c ∈ x.cps.toList, c < 1114112 := by
  rcases h with h | h
  · exact sym_ok h
  · rw [h]
    intro c m
    exact absurd m List.not_mem_nil
theorem sgn_ok {l x : PySem.Str} (al : Alpha l) (h : Sgn l x) : ∀ c ∈ x.cps.toList, c < 1114112 := by
  obtain ⟨c, rfl, h⟩ := h
  intro d m
  have e : d = c := List.mem_singleton.mp m
  rw [e]
  rcases h with h | h | h
  · omega
  · omega
  · exact alpha_ok al c h
theorem low_ok {x : PySem.Str} (h : lowB x = true) : ∀ c ∈ x.cps.toList, c < 1114112 := fun c m => by
  unfold lowB at h
  have y := List.all_eq_true.mp h c m
  unfold lowC at y
  rw [Bool.and_eq_true, decide_eq_true_eq, decide_eq_true_eq] at y
  omega

theorem deed_ok {t d x : PySem.Str} (h : Deed t d x) : (∀ c ∈ d.cps.toList, c < 1114112) ∧ ∀ c ∈ x.cps.toList, c < 1114112 := by
  have k1 : ∀ c ∈ (keep0).cps.toList, c < 1114112 := by decide +kernel
  have k2 : ∀ c ∈ (pop0).cps.toList, c < 1114112 := by decide +kernel
  have k3 : ∀ c ∈ (push0).cps.toList, c < 1114112 := by decide +kernel
  have k4 : ∀ c ∈ (swap0).cps.toList, c < 1114112 := by decide +kernel
  have k0 : ∀ c ∈ (nil0).cps.toList, c < 1114112 := by decide +kernel
  rcases h.one with e | e | e | e
  · exact ⟨by rw [e]; exact k1, by rw [h.no (.inl e)]; exact k0⟩
  · exact ⟨by rw [e]; exact k2, by rw [h.no (.inr e)]; exact k0⟩
  · exact ⟨by rw [e]; exact k3, sym_ok (h.sym (.inl e))⟩
  · exact ⟨by rw [e]; exact k4, sym_ok (h.sym (.inr e))⟩
theorem rl_ok {l : PySem.Str} {n : Int} {r : Rl} (al : Alpha l) (h : RlOk l n r) : ∀ x ∈ r.key, KeyOk x := by
  intro x m
  have m' : x ∈ [Sum.inl r.st, Sum.inr r.sg, Sum.inr r.tp, Sum.inl r.af, Sum.inl r.mv, Sum.inr r.de, Sum.inr r.sy, Sum.inr r.sa] := m
  simp only [List.mem_cons, List.not_mem_nil, or_false] at m'
  rcases m' with rfl | rfl | rfl | rfl | rfl | rfl | rfl | rfl
  · exact trivial
  · exact sgn_ok al h.sg
  · exact top_ok h.tp
  · exact trivial
  · exact trivial
  · exact (deed_ok h.de).1
  · exact (deed_ok h.de).2
  · exact low_ok h.sa.1
theorem k3_sub {r : Rl} (h : ∀ x ∈ r.key, KeyOk x) : ∀ x ∈ r.k3, KeyOk x := fun x m => h x (by
  have e : r.key = r.k3 ++ r.a5 := rfl
  rw [e]
  exact List.mem_append_left _ m)
end Mk

set_option Elab.async false
set_option linter.unusedVariables false
set_option maxRecDepth 100000
set_option maxHeartbeats 16000000
namespace Mk
open PySem L2 Pk
theorem iteNo17 {c : Bool} {A B : Prop} (e : c = false) (h : B) : if c = true then A else B := by
  rw [e, if_neg Bool.false_ne_true]
  exact h
def headSizes : List Int := [12, 8, 12, 13, 6, 4, 5, 16, 2, 997, 13, 6, 8, 2, 12, 997, 13, 6, 8, 2, 12, 997, 13, 6, 8, 2, 12, 9, 9, 9, 9, 9, 9, 9, 9, 9]
section
variable {P : Program} {w : World} {K : PySem.W.Frag} {mg : PySem.Str → Option Value} {base : Heap}
structure GenDefs (P : Program) (w : World) (K : PySem.W.Frag) (mg : PySem.Str → Option Value) (base : Heap) : Prop where
  cell : Got P w K mg base "_law_cell" 1 ["script", "k"] (spCellA K)
  digits : Got P w K mg base "_law_digits" 1 ["cell", "sizes"] (spDigits K)
  alpha : Got P w K mg base "_law_alphabet" 1 ["row"] (spAlpha K)
  syms : Got P w K mg base "_law_symbols" 1 ["digit"] spSyms
  act : Got P w K mg base "_law_act" 1 ["row", "states", "symbols", "sign", "top"] (spAct K)
  caller : Got P w K mg base "_law_caller" 1 ["letters", "one", "two", "modes"] (spCaller K)
  restorer : Got P w K mg base "_law_restorer" 1 ["letters", "one", "two"] spSkel5
  scanner : Got P w K mg base "_law_scanner" 1 ["letters", "one", "two"] spSkel
  climber : Got P w K mg base "_law_climber" 1 ["letters", "one", "two"] spSkel
/-! _law_machine, the rules drawn anew -/
theorem mach_Y {f : Addr} (T : TM mg) (G : GenDefs P w K mg base) (cdv : Value) (A : Around) (outer : List Env) (s : Shared) (H : Hp) (E : XK)
    (h1 : Room 1 (A.deeper (PyProof.Rows.envOfC "_law_machine" (defScope sMachine) s.heap.objs.size f cdv))) :
    ∃ t : TS, PSs (cxOf CX0 P w K mg base nMachine "_law_machine" (defScope sMachine) f cdv A outer s H E).nox ((defBody sMachine).drop 9) t ∧
      ∀ (D : Ends) (H0 : Hp) (k : ∀ p H', MachD H0 p H' → D.rt (.ref p) H') (H1 : Hp) (aD aS aG a : Addr) (head : List Int) (l x y : PySem.Str) (n : Int) (SL : List PySem.Str) (e0 e1 e8 e9 e10 e11 e12 e13 e14 e15 e16 e17 e18 e19 : Option V),
        H1 aD = some (.lst (head.map V.int)) → Digs headSizes head → H1 aS = some (.lst [.str x, .str y]) → symB x = true → symB y = true → H1 aG = some (.lst (SL.map V.str)) → SL ≠ [] → SL.length ≤ 100 → (∀ s ∈ SL, Sgn l s) →
        Alpha l → l.length ≤ 3 → 1 ≤ n → n ≤ 5 → H0 a = none → Rs H0 H1 a l n 64 →
        t D [e0, e1, some (.ref aD), some (.str l), some (.ref aS), some (.int n), some (.ref a), some (.ref aG), e8, e9, e10, e11, e12, e13, e14, e15, e16, e17, e18, e19] H1 := by
  have nd := scMachine.nd
  have hu64 := h1.units
  obtain ⟨tZ, hZ, kZ⟩ := mach_Z (P := P) (w := w) (K := K) (base := base) (f := f) T cdv A outer s H E
  refine ⟨_, pss_cons (ps_for PassesOwn.never rfl (pi_range1 (by rfl) T.range (pa_cons (pe_ix ix_list (pe_lst (pa_cons pe_int (pa_cons pe_int (pa_cons pe_int (pa_cons pe_int (pa_cons pe_int pa_nil)))))) (pe_ix ix_list (pv 2) pe_int fun _ _ => rfl) fun _ _ => rfl) pa_nil)) (pg_name (i := 15) nd rfl (Or.inl rfl))
        (pss_cons (ps_set (i := 13) nd rfl (Or.inl rfl) (pe_slice sl_list (pv 2) (po_some (pe_op op_add pe_int (pe_op op_mul pe_int (pv 15)))) (po_some (pe_op op_add pe_int (pe_op op_mul pe_int (pv 15))))))
        (pss_cons (ps_set (i := 16) nd rfl (Or.inr rfl) (pe_tup (pa_cons (pe_op op_mod (pe_callTy call_int1 (by rfl) T.int PyProof.Rows.Boot.int (pa_cons (pe_ix ix_list (pv 13) pe_int fun _ _ => rfl) pa_nil)) (pv 5)) (pa_cons (pe_ix ix_list (pv 7) (pe_op op_mod (pe_op op_fdiv (pe_callTy call_int1 (by rfl) T.int PyProof.Rows.Boot.int (pa_cons (pe_ix ix_list (pv 13) pe_int fun _ _ => rfl) pa_nil)) pe_int) (pe_callB call_len_seq (by rfl) T.len PySem.boot_len (pa_cons (pv 7) pa_nil))) fun _ _ => rfl) (pa_cons (pe_ix ix_list (pe_op op_cat (pe_lst (pa_cons pe_str pa_nil)) (pv 4)) (pe_op op_mod (pe_op op_fdiv (pe_callTy call_int1 (by rfl) T.int PyProof.Rows.Boot.int (pa_cons (pe_ix ix_list (pv 13) pe_int fun _ _ => rfl) pa_nil)) pe_int) pe_int) fun _ _ => rfl) pa_nil)))))
        (pss_cons (ps_setLc (i := 6) (own := [("rule", 19)]) (g := gName 19) (by rfl) nd rfl rfl (sw_true rfl rfl rfl (by decide +kernel)) (pi_list (pv 6)) (blkOk_by (own := [("rule", 19)]) (N := nMachine) (sc := defScope sMachine) (by decide +kernel)) (fun _ _ _ _ _ => pg_name (i := 19) nd rfl (Or.inl rfl)) (fun _ _ _ _ _ => pts_one (pt_cmpR (r := rNeD K) (op_neD hu64) (pe_slice (r := rSlT K) sl_tup (pv 19) po_none (po_some pe_int)) (pv 16) (nomark _))) (fun _ _ _ _ _ => (pv 19)))
        (pss_cons (ps_set (i := 14) nd rfl (Or.inl rfl) (pe_got G.act h1 (by rfl) (pa_cons (pe_slice sl_list (pv 13) (po_some pe_int) po_none) (pa_cons (pv 5) (pa_cons (pv 4) (pa_cons (pe_ix ix_tup (pv 16) pe_int fun _ _ => rfl) (pa_cons (pe_ix ix_tup (pv 16) pe_int fun _ _ => rfl) pa_nil)))))))
        (pss_one (ps_if (pt_cmp (pc_notN (pv 14)))
          (pss_one (ps_expr (pe_bm PySem.F.plainAttrs_list PySem.F.slot_list_append PySem.F.type_list_append mt_append (pv 6) (pa_cons (pe_op op_catT (pv 16) (pv 14)) pa_nil))))
          pss_nil)))))))
      hZ, ?_⟩
  intro D H0 k H1 aD aS aG a head l x y n SL e0 e1 e8 e9 e10 e11 e12 e13 e14 e15 e16 e17 e18 e19 hD dg hS ox oy hG neG mG okG al l3 n1 n5 na hR
  have rowAt : ∀ {j : Nat} {d : Nat}, head[j]? = some (d : Int) → atI (head.map V.int) (j : Int) = some (V.int d) := fun {j d} e => atI_nat (by rw [List.getElem?_map, e]; rfl)
  have dig : ∀ (j : Nat) (t : Int), headSizes[j]? = some t → ∃ d : Nat, head[j]? = some (d : Int) ∧ (d : Int) < t := fun j t e => by
    obtain ⟨d, e1, e2, e3⟩ := dg.2 j t e
    exact ⟨d.toNat, by rw [e1, Int.toNat_of_nonneg e2], by rw [Int.toNat_of_nonneg e2]; exact e3⟩
  have lenH : head.length = 36 := dg.1
  obtain ⟨d6, e6', b6⟩ := dig 6 5 rfl
  obtain ⟨d7, e7', b7⟩ := dig 7 16 rfl
  obtain ⟨m, em, m3⟩ : ∃ m : Nat, atI [V.int 0, V.int 0, V.int 1, V.int 0, V.int 3] (d6 : Int) = some (.int (m : Int)) ∧ m ≤ 3 := by
    have c : d6 = 0 ∨ d6 = 1 ∨ d6 = 2 ∨ d6 = 3 ∨ d6 = 4 := by omega
    rcases c with rfl | rfl | rfl | rfl | rfl
    · exact ⟨0, rfl, by decide⟩
    · exact ⟨0, rfl, by decide⟩
    · exact ⟨1, rfl, by decide⟩
    · exact ⟨0, rfl, by decide⟩
    · exact ⟨3, rfl, by decide⟩
  refine ⟨show 5 ≤ sizeLine by decide, fun q0 nq0 => ?_⟩
  have t0 := same_new (o := HO.lst [V.int 0, V.int 0, V.int 1, V.int 0, V.int 3]) nq0
  refine ⟨_, rfl, aD, _, _, _, rfl, rfl, SqL.of (t0 _ _ hD), rowAt (j := 6) e6', q0, _, _, .int (m : Int), rfl, rfl, SqL.of upd_same, em, _, rfl, by omega, by omega, for_range (lo := 0) (n := ((m : Nat) : Int).toNat) (fun i σ H' => Same H1 H' ∧ ∃ (a : Addr) (v13 v14 v15 v16 : Option V), σ = [e0, e1, some (.ref aD), some (.str l), some (.ref aS), some (.int n), some (.ref a), some (.ref aG), e8, e9, e10, e11, e12, v13, v14, v15, v16, e17, e18, e19] ∧ H0 a = none ∧ Rs H0 H' a l n (64 + i))
    ⟨t0, a, _, _, _, _, rfl, na, hR.mono t0⟩ ?_ ?_⟩
  · rintro i σ H2 hi ⟨s2, a, v13, v14, v15, v16, rfl, na, B, R⟩
    have i3 : i < 3 := by omega
    have sizes : ∀ j, j < 6 → headSizes[9 + 6 * i + j]? = ([997, 13, 6, 8, 2, 12] : List Int)[j]? := by
      have c : i = 0 ∨ i = 1 ∨ i = 2 := by omega
      rcases c with rfl | rfl | rfl <;> decide
    obtain ⟨p0, ep0, bp0⟩ := dig (9 + 6 * i + 0) 997 (sizes 0 (by decide))
    obtain ⟨p1, ep1, bp1⟩ := dig (9 + 6 * i + 1) 13 (sizes 1 (by decide))
    obtain ⟨p2, ep2, bp2⟩ := dig (9 + 6 * i + 2) 6 (sizes 2 (by decide))
    obtain ⟨p3, ep3, bp3⟩ := dig (9 + 6 * i + 3) 8 (sizes 3 (by decide))
    obtain ⟨p4, ep4, bp4⟩ := dig (9 + 6 * i + 4) 2 (sizes 4 (by decide))
    obtain ⟨p5, ep5, bp5⟩ := dig (9 + 6 * i + 5) 12 (sizes 5 (by decide))
    have hD2 := s2 _ _ hD
    refine ⟨_, rfl, _, rfl, _, _, rfl, rfl, .inl ⟨by decide, by decide⟩, _, _, rfl, rfl, _, rfl, _, rfl, _, _, rfl, rfl, .inl ⟨by decide, by decide⟩, _, _, rfl, rfl, _, rfl, aD, _, rfl, SqL.of hD2, fun q nq => ?_⟩
    have cutE : cutV (head.map V.int) (some (9 + 6 * (0 + (i : Int)))) (some (15 + 6 * (0 + (i : Int)))) = ((head.drop (9 + 6 * i)).take 6).map V.int := by
      have c := cut_in (row := head) (a := 9 + 6 * i) (b := 15 + 6 * i) (by omega) (by omega)
      rw [show 15 + 6 * i - (9 + 6 * i) = 6 by omega] at c
      rw [show (9 : Int) + 6 * (0 + (i : Int)) = ((9 + 6 * i : Nat) : Int) by omega, show (15 : Int) + 6 * (0 + (i : Int)) = ((15 + 6 * i : Nat) : Int) by omega]
      exact c
    rw [cutE]
    generalize hpart : (head.drop (9 + 6 * i)).take 6 = part
    have partAt : ∀ {j d : Nat}, j < 6 → head[9 + 6 * i + j]? = some (d : Int) → part[j]? = some (d : Int) := fun {j d} lj e => by
      rw [← hpart, List.getElem?_take_of_lt lj, List.getElem?_drop]
      exact e
    have partI : ∀ {j d : Nat}, j < 6 → head[9 + 6 * i + j]? = some (d : Int) → atI (part.map V.int) (j : Int) = some (V.int d) := fun {j d} lj e => atI_nat (by rw [List.getElem?_map, partAt lj e]; rfl)
    have tq := s2.trans (same_new (o := HO.lst (part.map V.int)) nq)
    have Rq := R.mono (same_new (o := HO.lst (part.map V.int)) nq)
    have hq : (upd H2 q (.lst (part.map V.int))) q = some (.lst (part.map V.int)) := upd_same
    dsimp only [gName]
    show (tSeq _ _) _ _ (upd H2 q (.lst (part.map V.int)))
    generalize upd H2 q (.lst (part.map V.int)) = H3 at tq Rq hq ⊢
    clear nq hpart cutE
    -- the key
    have at0 := partI (j := 0) (by decide) ep0
    have hG3 := tq _ _ hG
    have hS3 := tq _ _ hS
    have lenG : 0 < SL.length := List.length_pos_iff.mpr neG
    have posG : (0 : Int) < (((SL.map V.str).length : Nat) : Int) := by rw [List.length_map]; omega
    obtain ⟨sg, esg⟩ : ∃ x, SL[p0 / 5 % SL.length]? = some x := ⟨_, List.getElem?_eq_getElem (Nat.mod_lt _ lenG)⟩
    have osg := okG sg (List.mem_of_getElem? esg)
    have ei : (p0 : Int) / 5 % (((SL.map V.str).length : Nat) : Int) = ((p0 / 5 % SL.length : Nat) : Int) := by
      rw [List.length_map, Int.natCast_emod, Int.natCast_ediv] <;> rfl
    obtain ⟨tp, etp, otp⟩ : ∃ t, atI [V.str nil0, V.str x, V.str y] ((p0 : Int) / 25 % 3) = some (.str t) ∧ Top t := by
      have c : (p0 : Int) / 25 % 3 = 0 ∨ (p0 : Int) / 25 % 3 = 1 ∨ (p0 : Int) / 25 % 3 = 2 := by omega
      rcases c with e | e | e <;> rw [e]
      · exact ⟨nil0, rfl, .inr rfl⟩
      · exact ⟨x, rfl, .inl ox⟩
      · exact ⟨y, rfl, .inl oy⟩
    have st : 0 ≤ (p0 : Int) % n ∧ (p0 : Int) % n ≤ n - 1 := ⟨Int.emod_nonneg _ (by omega), by have := Int.emod_lt_of_pos (p0 : Int) (show 0 < n by omega); omega⟩
    refine ⟨_, rfl, q, _, _, _, rfl, rfl, SqL.of hq, at0, .inl ⟨_, rfl, _, rfl, _, _, rfl, rfl, by omega, _, rfl, _, rfl, q, _, _, _, rfl, rfl, SqL.of hq, at0, .inl ⟨_, rfl, _, _, rfl, rfl, ⟨by decide, by decide⟩, _, rfl, aG, _, rfl, .inl (SqL.of hG3), _, _, rfl, rfl, posG, aG, _, _, .str sg, rfl, rfl, SqL.of hG3, by rw [ei]; exact atI_nat (by rw [List.getElem?_map, esg] <;> rfl), show 1 ≤ sizeLine by decide, fun u nu => ?_⟩⟩⟩
    have tu := same_new (o := HO.lst [V.str nil0]) nu
    refine ⟨_, rfl, u, aS, _, _, rfl, rfl, upd_same, tu _ _ hS3, show 3 ≤ sizeLine by decide, fun v nv => ?_⟩
    have tv := tu.trans (same_new (o := HO.lst [V.str nil0, V.str x, V.str y]) nv)
    refine ⟨_, rfl, q, _, _, _, rfl, rfl, SqL.of (tv _ _ hq), at0, .inl ⟨_, rfl, _, _, rfl, rfl, ⟨by decide, by decide⟩, _, _, rfl, rfl, show (0 : Int) < 3 by decide, v, _, _, .str tp, rfl, rfl, SqL.of upd_same, etp, show 3 ≤ sizeLine by decide, fun kq nk => ?_⟩⟩
    have tk := tv.trans (same_new (o := HO.tup [V.int ((p0 : Int) % n), V.str sg, V.str tp]) nk)
    have Rk := Rq.mono tk
    have hkq : (upd (upd (upd H3 u (.lst [V.str nil0])) v (.lst [V.str nil0, V.str x, V.str y])) kq (.tup [V.int ((p0 : Int) % n), V.str sg, V.str tp])) kq = some (.tup [V.int ((p0 : Int) % n), V.str sg, V.str tp]) := upd_same
    have sk := tq.trans tk
    have hqk := tk _ _ hq
    dsimp only [gName]
    show (tSeq _ _) _ _ (upd (upd (upd H3 u (.lst [V.str nil0])) v (.lst [V.str nil0, V.str x, V.str y])) kq (.tup [V.int ((p0 : Int) % n), V.str sg, V.str tp]))
    generalize upd (upd (upd H3 u (.lst [V.str nil0])) v (.lst [V.str nil0, V.str x, V.str y])) kq (.tup [V.int ((p0 : Int) % n), V.str sg, V.str tp]) = H4 at sk Rk hkq hqk ⊢
    clear tq Rq R nu nv nk tu tv tk hG3 hS3 hq
    -- the rules of other keys
    have c3 : ¬ (HT.sIx 8 0 none = 0 ∧ HT.sIx 8 8 (some 3) = 8) := by decide
    have okK : ∀ p ∈ B, ∀ x ∈ p.2.k3, KeyOk x := fun p m => k3_sub (rl_ok al (Rk.ok p m))
    have okKey : ∀ x ∈ ([.inl ((p0 : Int) % n), .inr sg, .inr tp] : List Key), KeyOk x := fun x m => by
      simp only [List.mem_cons, List.not_mem_nil, or_false] at m
      rcases m with rfl | rfl | rfl
      · exact trivial
      · exact sgn_ok al osg
      · exact top_ok otp
    refine ⟨_, rfl, a, rfl, ⟨_, SqL.of Rk.at_⟩, fun Dn nDn => lc_list (K := K) (a := a) (xs := refsK B) (fun i' H' => Same H4 H' ∧ ∃ B' : Kept, H' Dn = some (.lst (refsK B')) ∧ (∀ p ∈ B', p ∈ B) ∧ B'.length ≤ i') ⟨same_new nDn, [], upd_same, fun p m => absurd m List.not_mem_nil, Nat.zero_le _⟩ (fun i' H' _ h => SqL.of (h.1 _ _ Rk.at_)) ?_ ?_⟩
    · rintro i' v H5 hi' ⟨s5, B', hB', sub, lb⟩
      obtain ⟨p, ep, rfl⟩ := at_refs hi'
      have mp := List.mem_of_getElem? ep
      have li : i' < B.length := (List.getElem?_eq_some_iff.mp ep).1
      have few := Rk.few
      refine ⟨rfl, ?_⟩
      refine ⟨_, rfl, 3, rfl, p.1, p.2.vs, rfl, .inl (.inl (s5 _ _ (Rk.kept p mp))), c3, fun q3 n3 => ?_⟩
      have t3 := same_new (o := HO.tup (cutV p.2.vs none (some 3))) n3
      have hq3 : (upd H5 q3 (.tup (cutV p.2.vs none (some 3)))) q3 = some (.tup (p.2.k3.map kV)) := upd_same
      have hk3 : (upd H5 q3 (.tup (cutV p.2.vs none (some 3)))) kq = some (.tup (([.inl ((p0 : Int) % n), .inr sg, .inr tp] : List Key).map kV)) := t3 _ _ (s5 _ _ hkq)
      refine ⟨_, rfl, _, _, dp_keys hq3, dp_keys hk3, shaped_keys (okK p mp), shaped_keys okKey, _, rfl, ite2 (fun _ => ?_) (fun _ => ⟨s5.trans t3, B', t3 _ _ hB', sub, by omega⟩)⟩
      refine ⟨_, rfl, _, t3 _ _ hB', ?_, same_mut (s5.trans t3) nDn, B' ++ [p], ?_, fun z m => ?_, ?_⟩
      · unfold refsK
        rw [List.length_map]
        exact Nat.lt_of_le_of_lt (show B'.length ≤ 1000 by omega) (by decide)
      · rw [upd_same]
        unfold refsK
        rw [List.map_append] <;> rfl
      · rcases List.mem_append.mp m with m | m
        · exact sub z m
        · rw [List.mem_singleton.mp m]; exact mp
      · rw [List.length_append]
        show B'.length + 1 ≤ i' + 1
        omega
    rintro H5 ⟨s5, B', hB', sub, lb⟩
    have lB : (refsK B).length = B.length := List.length_map ..
    have few := Rk.few
    have naD : H0 Dn = none := Rk.same.free nDn
    have hDn1 : H1 Dn = none := sk.free nDn
    have RD : RsAt H0 H5 Dn l n (64 + i) B' := ⟨Rk.same.trans s5, hB', fun p m => s5 _ _ (Rk.kept p (sub p m)), fun p m => Rk.ok p (sub p m), by omega⟩
    have s15 := sk.trans s5
    have hq5 := s5 _ _ hqk
    have hk5 := s5 _ _ hkq
    clear s5 hB' Rk sk hqk hkq s2
    -- the act
    have len1 : 1 ≤ part.length := (List.getElem?_eq_some_iff.mp (partAt (j := 0) (by decide) ep0)).1
    have cut1' : cutV (part.map V.int) (some 1) none = (part.drop 1).map V.int := cut_from (row := part) (a := 1) len1
    have ar : ActRow (part.drop 1) p1 p2 p3 p4 p5 := ⟨by rw [List.getElem?_drop]; exact partAt (j := 1) (by decide) ep1, by rw [List.getElem?_drop]; exact partAt (j := 2) (by decide) ep2, by rw [List.getElem?_drop]; exact partAt (j := 3) (by decide) ep3, by rw [List.getElem?_drop]; exact partAt (j := 4) (by decide) ep4,
      by rw [List.getElem?_drop]; exact partAt (j := 5) (by decide) ep5, by omega, by omega, by omega⟩
    refine ⟨_, rfl, 1, rfl, q, _, rfl, SqL.of hq5, fun r nr => ?_⟩
    rw [cut1']
    have tr := same_new (o := HO.lst ((part.drop 1).map V.int)) nr
    refine ⟨_, rfl, _, rfl, _, rfl, kq, _, 1, .str sg, rfl, rfl, .inl (.inl (tr _ _ hk5)), rfl, _, rfl, kq, _, 2, .str tp, rfl, rfl, .inl (.inl (tr _ _ hk5)), rfl, ?_⟩
    refine ⟨r, aS, part.drop 1, p1, p2, p3, p4, p5, n, l, sg, tp, [x, y], rfl, SqL.of upd_same, ar, SqL.of ((s15.trans tr) _ _ hS), n1, List.cons_ne_nil _ _, ?_, osg, otp, ?_, fun t rr Ht st5 eg ep okr ht => ?_⟩
    · intro s m
      simp only [List.mem_cons, List.not_mem_nil, or_false] at m
      rcases m with rfl | rfl
      · exact ox
      · exact oy
    · refine ⟨_, rfl, _, rfl, iteNo17 (by rw [decide_eq_true rfl] <;> rfl) ?_⟩
      exact ⟨s15.trans tr, Dn, _, _, _, _, rfl, naD, Rs.le ⟨_, RD.mono tr⟩ (by omega)⟩
    · have RT := RD.mono (tr.trans st5)
      have hkt := st5 _ _ (tr _ _ hk5)
      refine ⟨_, rfl, _, rfl, ite2 (fun _ => ?_) (fun c => absurd (by rw [decide_eq_false (fun z => nomatch z)] <;> rfl) c)⟩
      refine ⟨_, rfl, .inl ⟨rfl, _, SqL.of RT.at_⟩, _, rfl, _, rfl, kq, t, [.int ((p0 : Int) % n), .str sg, .str tp], _, rfl, rfl, .inl (.inl hkt), .inl (.inl ht), (fun z => nomatch z), show 3 + 5 ≤ sizeLine by decide, (fun z => nomatch z), fun _ w2 nw => ⟨Dn, _, _, rfl, rfl, RT.look nw, RT.sz (by omega), ?_⟩⟩
      have RA := RT.add naD nw (r := ⟨(p0 : Int) % n, sg, tp, rr.af, rr.mv, rr.de, rr.sy, rr.sa⟩) (mkRl st osg otp okr.af (by rw [← eg]; exact okr.mv) (by rw [← ep]; exact okr.de) okr.sa)
      have sD : Same H1 _ := same_mut (o := HO.lst (refsK B' ++ [V.ref w2])) (((s15.trans tr).trans st5).trans (same_new (o := HO.tup (⟨(p0 : Int) % n, sg, tp, rr.af, rr.mv, rr.de, rr.sy, rr.sa⟩ : Rl).vs) nw)) (show H1 Dn = none from hDn1)
      exact ⟨sD, Dn, _, _, _, _, rfl, naD, Rs.le ⟨_, RA⟩ (by omega)⟩
  · rintro σ H2 ⟨s2, a, v13, v14, v15, v16, rfl, na, R⟩
    exact kZ D H0 k H2 aD a head d7 l n _ _ _ _ _ _ _ _ _ _ _ _ _ _ _ _ (s2 _ _ hD) e7' al l3 n1 n5 na (R.le (by omega))
end
end Mk

set_option Elab.async false
set_option linter.unusedVariables false
set_option maxRecDepth 100000
set_option maxHeartbeats 16000000
namespace Mk
open PySem L2 Pk
section
variable {P : Program} {w : World} {K : PySem.W.Frag} {mg : PySem.Str → Option Value} {base : Heap}
/-! _law_machine, the signs, the tops, the rules of all keys -/
theorem mach_X {f : Addr} (T : TM mg) (G : GenDefs P w K mg base) (cdv : Value) (A : Around) (outer : List Env) (s : Shared) (H : Hp) (E : XK)
    (h1 : Room 1 (A.deeper (PyProof.Rows.envOfC "_law_machine" (defScope sMachine) s.heap.objs.size f cdv))) :
    ∃ t : TS, PSs (cxOf CX0 P w K mg base nMachine "_law_machine" (defScope sMachine) f cdv A outer s H E).nox ((defBody sMachine).drop 6) t ∧
      ∀ (D : Ends) (H0 : Hp) (k : ∀ p H', MachD H0 p H' → D.rt (.ref p) H') (H1 : Hp) (sc aD aS a : Addr) (ns head : List Int) (at_ : Nat) (l x y : PySem.Str) (n : Int) (e7 e8 e9 e10 e11 e12 e13 e14 e15 e16 e17 e18 e19 : Option V),
        SqL K H0 sc (ns.map V.int) → H1 aD = some (.lst (head.map V.int)) → Digs headSizes head → H1 aS = some (.lst [.str x, .str y]) → symB x = true → symB y = true →
        Alpha l → l.length ≤ 3 → 1 ≤ n → n ≤ 5 → H0 a = none → (∀ d0 : Nat, head[0]? = some (d0 : Int) → d0 < 2 → n ≤ 4 ∧ Rs H0 H1 a l n 0) → Rs H0 H1 a l n 64 →
        t D [some (.ref sc), some (.int (at_ : Int)), some (.ref aD), some (.str l), some (.ref aS), some (.int n), some (.ref a), e7, e8, e9, e10, e11, e12, e13, e14, e15, e16, e17, e18, e19] H1 := by
  have nd := scMachine.nd
  obtain ⟨tY, hY, kY⟩ := mach_Y (f := f) T G cdv A outer s H E h1
  refine ⟨_, pss_cons (ps_set (i := 7) nd rfl (Or.inl rfl) (pe_op op_cat (pe_lst (pa_cons pe_str (pa_cons pe_str pa_nil))) (pe_lc (own := [("letter", 18)]) (g := gName 18) (tt := tYes) (by rfl) nd (pi_str (pv 3)) (blkOk_by (own := [("letter", 18)]) (N := nMachine) (sc := defScope sMachine) (by decide +kernel)) (fun _ _ _ _ _ => pg_name (i := 18) nd rfl (Or.inl rfl)) (fun _ _ _ _ _ => pts_nil) (fun _ _ _ _ _ => (pv 18)))))
      (pss_cons (ps_set (i := 8) nd rfl (Or.inl rfl) (pe_op op_cat (pe_lst (pa_cons pe_str pa_nil)) (pe_slice sl_list (pv 4) po_none (po_some (pe_op op_add pe_int (pe_ix ix_list (pv 2) pe_int fun _ _ => rfl))))))
      (C8.pss_cut (ps_if (pt_cmpR op_lt (pe_ix ix_list (pv 2) pe_int fun _ _ => rfl) pe_int (nomark _))
        (pss_one (ps_for PassesOwn.never rfl (pi_range1 (by rfl) T.range (pa_cons (pv 5) pa_nil)) (pg_name (i := 9) nd rfl (Or.inl rfl))
          (pss_cons (ps_set (i := 10) nd rfl (Or.inl rfl) (pe_got G.digits h1 (by rfl) (pa_cons (pe_got G.cell h1 (by rfl) (pa_cons (pv 0) (pa_cons (pe_op op_add (pe_op op_add (pv 1) pe_int) (pv 9)) pa_nil))) (pa_cons (pe_op op_rep (pe_lst (pa_cons pe_int (pa_cons pe_int (pa_cons pe_int (pa_cons pe_int (pa_cons pe_int pa_nil)))))) pe_int) pa_nil))))
          (pss_one (ps_for PassesOwn.never rfl (pi_range1 (by rfl) T.range (pa_cons (pe_callB call_len_seq (by rfl) T.len PySem.boot_len (pa_cons (pv 7) pa_nil)) pa_nil)) (pg_name (i := 11) nd rfl (Or.inl rfl))
            (pss_one (ps_for PassesOwn.never rfl (pi_range1 (by rfl) T.range (pa_cons (pe_callB call_len_seq (by rfl) T.len PySem.boot_len (pa_cons (pv 8) pa_nil)) pa_nil)) (pg_name (i := 12) nd rfl (Or.inl rfl))
              (pss_cons (ps_set (i := 13) nd rfl (Or.inl rfl) (pe_slice sl_list (pv 10) (po_some (pe_op op_mul pe_int (pe_op op_add (pe_op op_mul pe_int (pv 11)) (pv 12)))) (po_some (pe_op op_add (pe_op op_mul pe_int (pe_op op_add (pe_op op_mul pe_int (pv 11)) (pv 12))) pe_int))))
              (pss_cons (ps_set (i := 14) nd rfl (Or.inl rfl) (pe_got G.act h1 (by rfl) (pa_cons (pv 13) (pa_cons (pv 5) (pa_cons (pe_slice sl_list (pv 8) (po_some pe_int) po_none) (pa_cons (pe_ix ix_list (pv 7) (pv 11) fun _ _ => rfl) (pa_cons (pe_ix ix_list (pv 8) (pv 12) fun _ _ => rfl) pa_nil)))))))
              (C8.pss_cut (ps_if (pt_cmpR op_eq (pe_op op_add (pe_op op_add (pv 11) (pv 12)) (pv 9)) pe_int (nomark _))
                (pss_one (ps_set (i := 14) nd rfl (Or.inl rfl) (pe_tup (pa_cons (pe_op op_sub (pv 5) pe_int) (pa_cons pe_int (pa_cons pe_str (pa_cons pe_str (pa_cons pe_str pa_nil))))))))
                pss_nil)
              (pss_one (ps_if (pt_cmp (pc_notN (pv 14)))
                (pss_one (ps_expr (pe_bm PySem.F.plainAttrs_list PySem.F.slot_list_append PySem.F.type_list_append mt_append (pv 6) (pa_cons (pe_op op_catT (pe_tup (pa_cons (pv 9) (pa_cons (pe_ix ix_list (pv 7) (pv 11) fun _ _ => rfl) (pa_cons (pe_ix ix_list (pv 8) (pv 12) fun _ _ => rfl) pa_nil)))) (pv 14)) pa_nil))))
                pss_nil))))))))))))
        pss_nil)
      hY)), ?_⟩
  intro D H0 k H1 sc aD aS a ns head at_ l x y n e7 e8 e9 e10 e11 e12 e13 e14 e15 e16 e17 e18 e19 hSc hD dg hS ox oy al l3 n1 n5 na hZero hR
  have rowAt : ∀ {j : Nat} {d : Nat}, head[j]? = some (d : Int) → atI (head.map V.int) (j : Int) = some (V.int d) := fun {j d} e => atI_nat (by rw [List.getElem?_map, e]; rfl)
  have dig : ∀ (j : Nat) (t : Int), headSizes[j]? = some t → ∃ d : Nat, head[j]? = some (d : Int) ∧ (d : Int) < t := fun j t e => by
    obtain ⟨d, e1, e2, e3⟩ := dg.2 j t e
    exact ⟨d.toNat, by rw [e1, Int.toNat_of_nonneg e2], by rw [Int.toNat_of_nonneg e2]; exact e3⟩
  obtain ⟨d0, ed0, b0⟩ := dig 0 12 rfl
  obtain ⟨d8, ed8, b8⟩ := dig 8 2 rfl
  have l3' : l.cps.size ≤ 3 := l3
  -- signs
  refine ⟨show 2 ≤ sizeLine by decide, fun la ha => ?_⟩
  refine ⟨_, rfl, l, rfl, fun Dl hDl => lc_it walk_str (fun i H' => Same (upd H1 la (.lst [.str lt0, .str gt0])) H' ∧ H' Dl = some (.lst (((l.cps.toList.take i).map sgn1).map V.str)))
      ⟨same_new hDl, upd_same⟩ (fun _ _ _ _ => trivial) ?_ ?_⟩
  · rintro i v H2 H3 hi ⟨s2, hD2⟩ ⟨rfl, c0, hc0, rfl⟩
    have hc1 : l.cps.toList[i]? = some c0 := by rw [Array.getElem?_toList]; exact hc0
    refine ⟨rfl, ?_⟩
    refine ⟨_, rfl, _, hD2, ?_, same_mut s2 hDl, ?_⟩
    · rw [List.length_map, List.length_map, List.length_take, Array.length_toList]
      exact Nat.lt_of_le_of_lt (Nat.le_trans (Nat.min_le_right _ _) l3') (by decide)
    · rw [upd_same, take_at hc1, List.map_append, List.map_append]
      rfl
  rintro H2 ⟨s2, hD2⟩
  have full : l.cps.toList.take l.cps.size = l.cps.toList := List.take_of_length_le (by rw [Array.length_toList]; exact Nat.le_refl _)
  rw [full] at hD2
  refine ⟨la, Dl, _, _, rfl, rfl, s2 _ _ upd_same, hD2, ?_, fun aG nG => ?_⟩
  · rw [List.length_map, List.length_map, Array.length_toList]
    exact Nat.le_trans (Nat.add_le_add_left l3' _) (by decide)
  have s12 : Same H1 (upd H2 aG (.lst (([lt0, gt0] ++ l.cps.toList.map sgn1).map V.str))) := ((same_new ha).trans s2).trans (same_new nG)
  have hG : (upd H2 aG (.lst (([lt0, gt0] ++ l.cps.toList.map sgn1).map V.str))) aG = some (.lst (([lt0, gt0] ++ l.cps.toList.map sgn1).map V.str)) := upd_same
  have eSL : ([V.str lt0, V.str gt0] ++ (l.cps.toList.map sgn1).map V.str) = ([lt0, gt0] ++ l.cps.toList.map sgn1).map V.str := by rw [List.map_append] <;> rfl
  rw [show ([V.str (PySem.Str.ofString "<"), V.str (PySem.Str.ofString ">")] ++ (l.cps.toList.map sgn1).map V.str) = ([lt0, gt0] ++ l.cps.toList.map sgn1).map V.str from eSL]
  dsimp only [gName]
  show (tSeq _ _) _ _ (upd H2 aG (.lst (([lt0, gt0] ++ l.cps.toList.map sgn1).map V.str)))
  generalize upd H2 aG (.lst (([lt0, gt0] ++ l.cps.toList.map sgn1).map V.str)) = H3 at s12 hG ⊢
  have okSL : ∀ x ∈ ([lt0, gt0] ++ l.cps.toList.map sgn1), Sgn l x := by
    intro x m
    rcases List.mem_append.mp m with m | m
    · rcases List.mem_cons.mp m with e | m
      · rw [e]; exact sgnLt l
      · rw [List.mem_singleton.mp m]; exact sgnGt l
    · obtain ⟨c0, m0, rfl⟩ := List.mem_map.mp m
      exact sgnIn m0
  have lSL : ([lt0, gt0] ++ l.cps.toList.map sgn1).length ≤ 5 := by
    rw [List.length_append, List.length_map, Array.length_toList]
    show 2 + l.cps.size ≤ 5
    omega
  have neSL : ([lt0, gt0] ++ l.cps.toList.map sgn1) ≠ [] := by simp
  have atSL : ([lt0, gt0] ++ l.cps.toList.map sgn1)[0]? = some lt0 := rfl
  generalize [lt0, gt0] ++ l.cps.toList.map sgn1 = SL at hG okSL lSL neSL atSL
  clear s2 hD2 ha hDl nG full eSL
  -- tops
  obtain ⟨c, ec, hc⟩ : ∃ c : Nat, (1 : Int) + (d8 : Int) = (c : Int) ∧ 1 ≤ c ∧ c ≤ 2 := ⟨1 + d8, by omega, by omega, by omega⟩
  refine ⟨show 1 ≤ sizeLine by decide, fun q1 n1' => ?_⟩
  have t1 := same_new (o := HO.lst [V.str nil0]) n1'
  refine ⟨_, rfl, _, rfl, aD, _, _, _, rfl, rfl, SqL.of (t1 _ _ (s12 _ _ hD)), rowAt (j := 8) ed8, _, _, rfl, rfl, _, rfl, aS, _, rfl, SqL.of (t1 _ _ (s12 _ _ hS)), fun q3 n3' => ?_⟩
  have ecut : cutV [V.str x, V.str y] none (some ((1 : Int) + (d8 : Int))) = (([x, y] : List PySem.Str).take c).map V.str := by
    rw [ec, cut_take, List.map_take] <;> rfl
  rw [ecut]
  have t3 := t1.trans (same_new (o := HO.lst ((([x, y] : List PySem.Str).take c).map V.str)) n3')
  refine ⟨q1, q3, _, _, rfl, rfl, same_new n3' _ _ upd_same, upd_same, ?_, fun aT nT => ?_⟩
  · rw [List.length_map, List.length_take]
    exact Nat.le_trans (show 1 + min c 2 ≤ 10 by omega) (by decide)
  have t4 := t3.trans (same_new (o := HO.lst ([V.str nil0] ++ (([x, y] : List PySem.Str).take c).map V.str)) nT)
  have hT : (upd (upd (upd H3 q1 (.lst [V.str nil0])) q3 (.lst ((([x, y] : List PySem.Str).take c).map V.str))) aT (.lst ([V.str nil0] ++ (([x, y] : List PySem.Str).take c).map V.str))) aT = some (.lst ((nil0 :: ([x, y] : List PySem.Str).take c).map V.str)) := upd_same
  dsimp only [gName]
  show (C8.tCut _ _) _ _ (upd (upd (upd H3 q1 (.lst [V.str nil0])) q3 (.lst ((([x, y] : List PySem.Str).take c).map V.str))) aT (.lst ([V.str nil0] ++ (([x, y] : List PySem.Str).take c).map V.str)))
  generalize upd (upd (upd H3 q1 (.lst [V.str nil0])) q3 (.lst ((([x, y] : List PySem.Str).take c).map V.str))) aT (.lst ([V.str nil0] ++ (([x, y] : List PySem.Str).take c).map V.str)) = H4 at t4 hT ⊢
  have okss : ∀ s ∈ ([x, y] : List PySem.Str).take c, symB s = true := fun s m => by
    have m' := List.mem_of_mem_take m
    simp only [List.mem_cons, List.not_mem_nil, or_false] at m'
    rcases m' with rfl | rfl
    · exact ox
    · exact oy
  have less : (([x, y] : List PySem.Str).take c).length ≤ 2 := by rw [List.length_take]; exact Nat.min_le_right _ _
  have ness : ([x, y] : List PySem.Str).take c ≠ [] := fun z => by
    have y := congrArg List.length z
    rw [List.length_take] at y
    have e : min c 2 = 0 := y
    omega
  generalize ([x, y] : List PySem.Str).take c = ss at hT okss less ness
  have s14 := s12.trans t4
  have hG4 := t4 _ _ hG
  have hD4 := s14 _ _ hD
  have hS4 := s14 _ _ hS
  have R4 := hR.mono s14
  clear ecut t1 t3 nT n1' n3' hG
  -- what is not the rules' list stays
  obtain ⟨B0, RB⟩ := R4
  have ne : ∀ {b : Addr} {v : V} {vs : List V}, H4 b = some (.lst (v :: vs)) → (∀ q, v ≠ .ref q) → b ≠ a := fun {b v vs} e nv z => by
    rw [z, RB.at_] at e
    have e' := HO.lst.inj (Option.some.inj e)
    cases B0 with
    | nil => cases e'
    | cons p B =>
      have e2 : V.ref p.1 = v := (List.cons.inj e').1
      exact nv _ e2.symm
  have aDn : aD ≠ a := by
    have h0 : head = (d0 : Int) :: head.drop 1 := by
      cases hh : head with
      | nil => rw [hh] at ed0; cases ed0
      | cons u r => rw [hh] at ed0; rw [show (u :: r).drop 1 = r from rfl, ← Option.some.inj ed0]
    rw [h0] at hD4
    exact ne hD4 fun q => nofun
  have aSn : aS ≠ a := ne hS4 fun q => nofun
  have aTn : aT ≠ a := ne hT fun q => nofun
  have aGn : aG ≠ a := by
    cases hs : SL with
    | nil => exact absurd hs neSL
    | cons u r => rw [hs] at hG4; exact ne hG4 fun q => nofun
  have fin : ∀ (H' : Hp) (v9 v10 v11 v12 v13 v14 : Option V), (∀ b o, b ≠ a → H4 b = some o → H' b = some o) → Rs H0 H' a l n 64 → tY D [some (.ref sc), some (.int (at_ : Int)), some (.ref aD), some (.str l), some (.ref aS), some (.int n), some (.ref a), some (.ref aG), some (.ref aT), v9, v10, v11, v12, v13, v14, e15, e16, e17, e18, e19] H' := fun H' v9 v10 v11 v12 v13 v14 kp R =>
    kY D H0 k H' aD aS aG a head l x y n SL _ _ _ _ _ _ _ _ _ _ _ _ _ _ (kp _ _ aDn hD4) dg (kp _ _ aSn hS4) ox oy (kp _ _ aGn hG4) neSL (by omega) okSL al l3 n1 n5 na R
  refine ⟨fun σ' H' => (∀ b o, b ≠ a → H4 b = some o → H' b = some o) ∧ Rs H0 H' a l n 64 ∧ ∃ v9 v10 v11 v12 v13 v14 : Option V, σ' = [some (.ref sc), some (.int (at_ : Int)), some (.ref aD), some (.str l), some (.ref aS), some (.int n), some (.ref a), some (.ref aG), some (.ref aT), v9, v10, v11, v12, v13, v14, e15, e16, e17, e18, e19], ?_, ?_⟩
  rotate_left
  · rintro _ H' ⟨kp, R, v9, v10, v11, v12, v13, v14, rfl⟩
    exact fin H' _ _ _ _ _ _ kp R
  refine ⟨_, rfl, aD, _, _, _, rfl, rfl, SqL.of hD4, rowAt (j := 0) ed0, _, _, rfl, rfl, _, rfl, ite2 (fun c2 => ?_) (fun _ => ⟨fun b o _ e => e, Rs.le ⟨_, RB⟩ (by omega), _, _, _, _, _, _, rfl⟩)⟩
  obtain ⟨n4, hR0⟩ := hZero d0 ed0 (by have := of_decide_eq_true c2; omega)
  have RB0 := hR0.mono s14
  refine ⟨_, rfl, n, rfl, by omega, by omega, for_range (lo := 0) (n := n.toNat) (fun i σ H' => (∀ b o, b ≠ a → H4 b = some o → H' b = some o) ∧ Rs H0 H' a l n (15 * i) ∧ ∃ v9 v10 v11 v12 v13 v14 : Option V, σ = [some (.ref sc), some (.int (at_ : Int)), some (.ref aD), some (.str l), some (.ref aS), some (.int n), some (.ref a), some (.ref aG), some (.ref aT), v9, v10, v11, v12, v13, v14, e15, e16, e17, e18, e19])
    ⟨fun b o _ e => e, RB0.le (by omega), _, _, _, _, _, _, rfl⟩ ?_ ?_⟩
  · rintro i σ H5 hi ⟨kp, ⟨B5, R5⟩, v9, v10, v11, v12, v13, v14, rfl⟩
    have i5 : i < 5 := by omega
    obtain ⟨jn, ej⟩ : ∃ j : Nat, (at_ : Int) + 1 + (0 + (i : Int)) = (j : Int) := ⟨at_ + 1 + i, by omega⟩
    refine ⟨_, rfl, _, rfl, _, _, rfl, rfl, _, rfl, _, _, rfl, rfl, sc, ns, jn, by rw [← ej] <;> rfl, R5.same.seq hSc, fun z0 => ⟨show 5 ≤ sizeLine by decide, fun l2 hl2 => ?_⟩⟩
    refine ⟨l2, 15, _, rfl, rfl, upd_same, by decide, by decide, by decide, fun l4 hl4 => ?_⟩
    refine ⟨z0, l4, (List.replicate 15 ([13, 6, 8, 2, 12] : List Int)).flatten, rfl, SqL.of upd_same, by decide, by decide, fun row aRow H6 dg2 np s6 hrow => ?_⟩
    have s56 : Same H5 H6 := ((same_new hl2).trans (same_new hl4)).trans s6
    have R6 := R5.mono s56
    have kp6 : ∀ b o, b ≠ a → H4 b = some o → H6 b = some o := fun b o nb e => s56 _ _ (kp b o nb e)
    have aRn : aRow ≠ a := fun z => by
      rw [z] at np
      have e := (((same_new hl2).trans (same_new hl4)) _ _ R5.at_).symm.trans np
      cases e
    have hD6 := kp6 _ _ aDn hD4
    have hG6 := kp6 _ _ aGn hG4
    have hT6 := kp6 _ _ aTn hT
    have lG6 : (SL.map V.str).length = SL.length := List.length_map ..
    have lT6 : ((nil0 :: ss).map V.str).length = ss.length + 1 := by rw [List.length_map] <;> rfl
    refine ⟨_, rfl, aG, _, rfl, .inl (SqL.of hG6), _, rfl, by omega, by omega, for_range (lo := 0) (n := (((SL.map V.str).length : Nat) : Int).toNat) (fun u σ H' => (∀ b o, b ≠ a → H6 b = some o → H' b = some o) ∧ Rs H0 H' a l n (15 * i + 3 * u) ∧ ∃ v11 v12 v13 v14 : Option V, σ = [some (.ref sc), some (.int (at_ : Int)), some (.ref aD), some (.str l), some (.ref aS), some (.int n), some (.ref a), some (.ref aG), some (.ref aT), some (.int (0 + (i : Int))), some (.ref aRow), v11, v12, v13, v14, e15, e16, e17, e18, e19])
      ⟨fun b o _ e => e, Rs.le ⟨_, R6⟩ (by omega), _, _, _, _, rfl⟩ ?_ ?_⟩
    rotate_left
    · rintro σ H' ⟨kp', R, v11, v12, v13, v14, rfl⟩
      exact ⟨fun b o nb e => kp' b o nb (kp6 b o nb e), R.le (by omega), _, _, _, _, _, _, rfl⟩
    rintro u σ H7 hu ⟨kp7, R7, v11, v12, v13, v14, rfl⟩
    have hT7 := kp7 _ _ aTn hT6
    refine ⟨_, rfl, aT, _, rfl, .inl (SqL.of hT7), _, rfl, by omega, by omega, for_range (lo := 0) (n := ((((nil0 :: ss).map V.str).length : Nat) : Int).toNat) (fun j σ H' => (∀ b o, b ≠ a → H6 b = some o → H' b = some o) ∧ Rs H0 H' a l n (15 * i + 3 * u + j) ∧ ∃ v12 v13 v14 : Option V, σ = [some (.ref sc), some (.int (at_ : Int)), some (.ref aD), some (.str l), some (.ref aS), some (.int n), some (.ref a), some (.ref aG), some (.ref aT), some (.int (0 + (i : Int))), some (.ref aRow), some (.int (0 + (u : Int))), v12, v13, v14, e15, e16, e17, e18, e19])
      ⟨kp7, R7.le (by omega), _, _, _, rfl⟩ ?_ ?_⟩
    rotate_left
    · rintro σ H' ⟨kp', R, v12, v13, v14, rfl⟩
      exact ⟨kp', R.le (by omega), _, _, _, _, rfl⟩
    rintro j σ H8 hj ⟨kp8, ⟨B8, R8⟩, v12, v13, v14, rfl⟩
    have u5 : u < 5 := by omega
    have j4 : j < 3 := by omega
    have hRow8 := kp8 _ _ aRn hrow
    have hT8 := kp8 _ _ aTn hT6
    have hG8 := kp8 _ _ aGn hG6
    have sizes : ∀ q, q < 15 → ∀ t, t < 5 → (List.replicate 15 ([13, 6, 8, 2, 12] : List Int)).flatten[5 * q + t]? = ([13, 6, 8, 2, 12] : List Int)[t]? := by decide +kernel
    have lenR : row.length = 75 := dg2.1
    have digR : ∀ (t : Nat) (b : Int), t < 5 → ([13, 6, 8, 2, 12] : List Int)[t]? = some b → ∃ d : Nat, row[5 * (3 * u + j) + t]? = some (d : Int) ∧ (d : Int) < b := fun t b lt e => by
      obtain ⟨d, e1, e2, e3⟩ := dg2.2 (5 * (3 * u + j) + t) b (by rw [sizes (3 * u + j) (by omega) t lt]; exact e)
      exact ⟨d.toNat, by rw [e1, Int.toNat_of_nonneg e2], by rw [Int.toNat_of_nonneg e2]; exact e3⟩
    obtain ⟨p0, ep0, bp0⟩ := digR 0 13 (by decide) rfl
    obtain ⟨p1, ep1, bp1⟩ := digR 1 6 (by decide) rfl
    obtain ⟨p2, ep2, bp2⟩ := digR 2 8 (by decide) rfl
    obtain ⟨p3, ep3, bp3⟩ := digR 3 2 (by decide) rfl
    obtain ⟨p4, ep4, bp4⟩ := digR 4 12 (by decide) rfl
    refine ⟨_, rfl, _, rfl, _, _, rfl, rfl, .inl ⟨by decide, by decide⟩, _, rfl, _, _, rfl, rfl, _, _, rfl, rfl, .inl ⟨by decide, by decide⟩, _, rfl, _, rfl, _, _, rfl, rfl, .inl ⟨by decide, by decide⟩, _, rfl, _, _, rfl, rfl, _, _, rfl, rfl, .inl ⟨by decide, by decide⟩, _, _, rfl, rfl, _, rfl, aRow, _, rfl, SqL.of hRow8, fun q nq => ?_⟩
    have cutE : cutV (row.map V.int) (some (5 * (3 * (0 + (u : Int)) + (0 + (j : Int))))) (some (5 * (3 * (0 + (u : Int)) + (0 + (j : Int))) + 5)) = ((row.drop (5 * (3 * u + j))).take 5).map V.int := by
      have c := cut_in (row := row) (a := 5 * (3 * u + j)) (b := 5 * (3 * u + j) + 5) (by omega) (by omega)
      rw [show 5 * (3 * u + j) + 5 - 5 * (3 * u + j) = 5 by omega] at c
      rw [show (5 : Int) * (3 * (0 + (u : Int)) + (0 + (j : Int))) + 5 = ((5 * (3 * u + j) + 5 : Nat) : Int) by omega, show (5 : Int) * (3 * (0 + (u : Int)) + (0 + (j : Int))) = ((5 * (3 * u + j) : Nat) : Int) by omega]
      exact c
    rw [cutE]
    have partAt : ∀ {t d : Nat}, t < 5 → row[5 * (3 * u + j) + t]? = some (d : Int) → ((row.drop (5 * (3 * u + j))).take 5)[t]? = some (d : Int) := fun {t d} lt e => by
      rw [List.getElem?_take_of_lt lt, List.getElem?_drop]
      exact e
    have ar : ActRow ((row.drop (5 * (3 * u + j))).take 5) p0 p1 p2 p3 p4 := ⟨partAt (by decide) ep0, partAt (by decide) ep1, partAt (by decide) ep2, partAt (by decide) ep3, partAt (by decide) ep4, by omega, by omega, by omega⟩
    generalize (row.drop (5 * (3 * u + j))).take 5 = part at ar ⊢
    have tq := same_new (o := HO.lst (part.map V.int)) nq
    obtain ⟨sg, esg⟩ : ∃ x, SL[u]? = some x := ⟨_, List.getElem?_eq_getElem (show u < SL.length by omega)⟩
    have osg := okSL sg (List.mem_of_getElem? esg)
    obtain ⟨tp, etp⟩ : ∃ x, (nil0 :: ss)[j]? = some x := ⟨_, List.getElem?_eq_getElem (show j < (nil0 :: ss).length by rw [List.length_cons]; omega)⟩
    have otp : Top tp := by
      rcases List.mem_cons.mp (List.mem_of_getElem? etp) with e | m
      · exact .inr e
      · exact .inl (okss tp m)
    have atG : atI (SL.map V.str) (0 + (u : Int)) = some (.str sg) := by
      rw [show (0 : Int) + (u : Int) = ((u : Nat) : Int) by omega]
      exact atI_nat (by rw [List.getElem?_map, esg] <;> rfl)
    have atT : atI ((nil0 :: ss).map V.str) (0 + (j : Int)) = some (.str tp) := by
      rw [show (0 : Int) + (j : Int) = ((j : Nat) : Int) by omega]
      exact atI_nat (by rw [List.getElem?_map, etp] <;> rfl)
    refine ⟨_, rfl, _, rfl, _, rfl, 1, rfl, aT, _, rfl, SqL.of (tq _ _ hT8), fun r nr => ?_⟩
    have cutT : cutV ((nil0 :: ss).map V.str) (some 1) none = ss.map V.str := by
      have z : cutV ((nil0 :: ss).map V.str) (some ((1 : Nat) : Int)) none = ((nil0 :: ss).map V.str).drop 1 := by
        unfold cutV
        rw [HT.sIx_none, HT.sIx_nat, Nat.min_eq_left (by rw [lT6]; omega)]
        exact List.take_of_length_le (by rw [List.length_drop]; exact Nat.le_refl _)
      exact z
    rw [cutT]
    have tr := tq.trans (same_new (o := HO.lst (ss.map V.str)) nr)
    refine ⟨_, rfl, _, rfl, aG, _, _, .str sg, rfl, rfl, SqL.of (tr _ _ hG8), atG, _, rfl, _, rfl, aT, _, _, .str tp, rfl, rfl, SqL.of (tr _ _ hT8), atT, ?_⟩
    refine ⟨q, r, part, p0, p1, p2, p3, p4, n, l, sg, tp, ss, rfl, SqL.of (same_new nr _ _ upd_same), ar, SqL.of upd_same, n1, ness, okss, osg, otp, ?_, fun t rr Ht stx eg ep okr ht => ?_⟩
    · dsimp only [gName]
      refine ⟨fun σ' H' => ∃ v' : V, σ' = [some (.ref sc), some (.int (at_ : Int)), some (.ref aD), some (.str l), some (.ref aS), some (.int n), some (.ref a), some (.ref aG), some (.ref aT), some (.int (0 + (i : Int))), some (.ref aRow), some (.int (0 + (u : Int))), some (.int (0 + (j : Int))), some (.ref q), some v', e15, e16, e17, e18, e19] ∧ Same H8 H' ∧ (v' = .non ∨ ∃ (t : Addr) (rr : Rl), v' = .ref t ∧ rr.sg = sg ∧ rr.tp = tp ∧ RlOk l n rr ∧ H' t = some (.tup (rr.a5.map kV))), ?_, ?_⟩
      · refine ⟨_, rfl, _, rfl, _, _, rfl, rfl, _, rfl, _, _, rfl, rfl, rfl, _, rfl, ite2 (fun e => ?_) (fun _ => ⟨.non, rfl, tr, .inl rfl⟩)⟩
        have e0 := V.int.inj (of_decide_eq_true e)
        have u0 : u = 0 := by omega
        have sl : sg = lt0 := by
          rw [u0, atSL] at esg
          exact (Option.some.inj esg).symm
        refine ⟨_, rfl, _, _, rfl, rfl, show 5 ≤ sizeLine by decide, fun t2 nt2 => ?_⟩
        exact ⟨.ref t2, rfl, (tr).trans (same_new nt2), .inr ⟨t2, ⟨0, sg, tp, n - 1, 1, keep0, nil0, nil0⟩, rfl, rfl, rfl, mkRl (by omega) osg otp (by omega) (mvR (by rw [sl]; exact lt_gt)) (keepD _) said0, upd_same⟩⟩
      rintro _ Hy ⟨v', rfl, sy, hv⟩
      rcases hv with rfl | ⟨t, rr, rfl, eg, ep, okr, ht⟩
      · exact ⟨_, rfl, _, rfl, iteNo17 (by rw [decide_eq_true rfl] <;> rfl) ⟨fun b o nb e => sy _ _ (kp8 b o nb e), Rs.le ⟨_, R8.mono sy⟩ (by omega), _, _, _, rfl⟩⟩
      · have RT := R8.mono sy
        refine ⟨_, rfl, _, rfl, ite2 (fun _ => ?_) (fun c => absurd (by rw [decide_eq_false (fun z => nomatch z)] <;> rfl) c)⟩
        refine ⟨_, rfl, .inl ⟨rfl, _, SqL.of RT.at_⟩, _, rfl, _, rfl, _, rfl, aG, _, _, .str sg, rfl, rfl, SqL.of (sy _ _ hG8), atG, _, rfl, _, rfl, aT, _, _, .str tp, rfl, rfl, SqL.of (sy _ _ hT8), atT, show 3 ≤ sizeLine by decide, fun kq nk => ?_⟩
        have RT' := RT.mono (same_new (o := HO.tup [V.int (0 + (i : Int)), V.str sg, V.str tp]) nk)
        refine ⟨_, rfl, kq, t, [.int (0 + (i : Int)), .str sg, .str tp], _, rfl, rfl, .inl (.inl upd_same), .inl (.inl (same_new nk _ _ ht)), (fun z => nomatch z), show 3 + 5 ≤ sizeLine by decide, (fun z => nomatch z), fun _ w2 nw => ⟨a, _, _, rfl, rfl, RT'.look nw, RT'.sz (by omega), ?_⟩⟩
        have RA := RT'.add na nw (r := ⟨0 + (i : Int), sg, tp, rr.af, rr.mv, rr.de, rr.sy, rr.sa⟩) (mkRl (by omega) osg otp okr.af (by rw [← eg]; exact okr.mv) (by rw [← ep]; exact okr.de) okr.sa)
        exact ⟨fun b o nb e => by rw [upd_ne nb]; exact same_new nw _ _ (same_new nk _ _ (sy _ _ (kp8 b o nb e))), Rs.le ⟨_, RA⟩ (by omega), _, _, _, rfl⟩
    · dsimp only [gName]
      refine ⟨fun σ' H' => ∃ v' : V, σ' = [some (.ref sc), some (.int (at_ : Int)), some (.ref aD), some (.str l), some (.ref aS), some (.int n), some (.ref a), some (.ref aG), some (.ref aT), some (.int (0 + (i : Int))), some (.ref aRow), some (.int (0 + (u : Int))), some (.int (0 + (j : Int))), some (.ref q), some v', e15, e16, e17, e18, e19] ∧ Same H8 H' ∧ (v' = .non ∨ ∃ (t : Addr) (rr : Rl), v' = .ref t ∧ rr.sg = sg ∧ rr.tp = tp ∧ RlOk l n rr ∧ H' t = some (.tup (rr.a5.map kV))), ?_, ?_⟩
      · refine ⟨_, rfl, _, rfl, _, _, rfl, rfl, _, rfl, _, _, rfl, rfl, rfl, _, rfl, ite2 (fun e => ?_) (fun _ => ⟨.ref t, rfl, tr.trans stx, .inr ⟨t, rr, rfl, eg, ep, okr, ht⟩⟩)⟩
        have e0 := V.int.inj (of_decide_eq_true e)
        have u0 : u = 0 := by omega
        have sl : sg = lt0 := by
          rw [u0, atSL] at esg
          exact (Option.some.inj esg).symm
        refine ⟨_, rfl, _, _, rfl, rfl, show 5 ≤ sizeLine by decide, fun t2 nt2 => ?_⟩
        exact ⟨.ref t2, rfl, (tr.trans stx).trans (same_new nt2), .inr ⟨t2, ⟨0, sg, tp, n - 1, 1, keep0, nil0, nil0⟩, rfl, rfl, rfl, mkRl (by omega) osg otp (by omega) (mvR (by rw [sl]; exact lt_gt)) (keepD _) said0, upd_same⟩⟩
      rintro _ Hy ⟨v', rfl, sy, hv⟩
      rcases hv with rfl | ⟨t, rr, rfl, eg, ep, okr, ht⟩
      · exact ⟨_, rfl, _, rfl, iteNo17 (by rw [decide_eq_true rfl] <;> rfl) ⟨fun b o nb e => sy _ _ (kp8 b o nb e), Rs.le ⟨_, R8.mono sy⟩ (by omega), _, _, _, rfl⟩⟩
      · have RT := R8.mono sy
        refine ⟨_, rfl, _, rfl, ite2 (fun _ => ?_) (fun c => absurd (by rw [decide_eq_false (fun z => nomatch z)] <;> rfl) c)⟩
        refine ⟨_, rfl, .inl ⟨rfl, _, SqL.of RT.at_⟩, _, rfl, _, rfl, _, rfl, aG, _, _, .str sg, rfl, rfl, SqL.of (sy _ _ hG8), atG, _, rfl, _, rfl, aT, _, _, .str tp, rfl, rfl, SqL.of (sy _ _ hT8), atT, show 3 ≤ sizeLine by decide, fun kq nk => ?_⟩
        have RT' := RT.mono (same_new (o := HO.tup [V.int (0 + (i : Int)), V.str sg, V.str tp]) nk)
        refine ⟨_, rfl, kq, t, [.int (0 + (i : Int)), .str sg, .str tp], _, rfl, rfl, .inl (.inl upd_same), .inl (.inl (same_new nk _ _ ht)), (fun z => nomatch z), show 3 + 5 ≤ sizeLine by decide, (fun z => nomatch z), fun _ w2 nw => ⟨a, _, _, rfl, rfl, RT'.look nw, RT'.sz (by omega), ?_⟩⟩
        have RA := RT'.add na nw (r := ⟨0 + (i : Int), sg, tp, rr.af, rr.mv, rr.de, rr.sy, rr.sa⟩) (mkRl (by omega) osg otp okr.af (by rw [← eg]; exact okr.mv) (by rw [← ep]; exact okr.de) okr.sa)
        exact ⟨fun b o nb e => by rw [upd_ne nb]; exact same_new nw _ _ (same_new nk _ _ (sy _ _ (kp8 b o nb e))), Rs.le ⟨_, RA⟩ (by omega), _, _, _, rfl⟩
  · rintro σ H' ⟨kp, R, v9, v10, v11, v12, v13, v14, rfl⟩
    exact ⟨kp, R.le (by omega), _, _, _, _, _, _, rfl⟩
end
end Mk

set_option Elab.async false
set_option linter.unusedVariables false
set_option maxRecDepth 100000
set_option maxHeartbeats 16000000
namespace Mk
open PySem L2 Pk
theorem Rs.base {H0 H1 H' : Hp} {a : Addr} {l : PySem.Str} {n : Int} {m : Nat} (h : Rs H1 H' a l n m) (s : Same H0 H1) : Rs H0 H' a l n m := by
  obtain ⟨B, R⟩ := h
  exact ⟨B, s.trans R.same, R.at_, R.kept, R.ok, R.few⟩
theorem menu_st {d : Nat} (h : d < 4) : ∃ n : Int, atI [V.int 4, V.int 2, V.int 3, V.int 3] (d : Int) = some (.int n) ∧ 1 ≤ n ∧ n ≤ 4 := by
  have c : d = 0 ∨ d = 1 ∨ d = 2 ∨ d = 3 := by omega
  rcases c with rfl | rfl | rfl | rfl
  · exact ⟨4, rfl, by omega, by omega⟩
  · exact ⟨2, rfl, by omega, by omega⟩
  · exact ⟨3, rfl, by omega, by omega⟩
  · exact ⟨3, rfl, by omega, by omega⟩
section
variable {P : Program} {w : World} {K : PySem.W.Frag} {mg : PySem.Str → Option Value} {base : Heap}
def spMach (K : PySem.W.Frag) : Sp := fun vs H Q _ => ∃ (sc : Addr) (ns : List Int) (at_ : Nat), vs = [.ref sc, .int (at_ : Int)] ∧ SqL K H sc (ns.map V.int) ∧ ∀ (p : Addr) (H' : Hp), MachD H p H' → Q (.ref p) H'
theorem ok_machine {f : Addr} {fd : FuncData} (F : Fun K "_law_machine" "_law_machine" sMachine f fd) (T : TM mg) (G : GenDefs P w K mg base) : FnOk P w K mg base CX0 2 f fd ["script", "at"] (spMach K) := by
  refine F.ok scMachine (fun vs H Q E h => ?_) (fun cdv A outer s H vs Q E hr h => ?_)
  · obtain ⟨sc, ns, at_, rfl, _⟩ := h
    rfl
  · obtain ⟨sc, ns, at_, rfl, hSc, k⟩ := h
    have nd := scMachine.nd
    have h1 := hr
    obtain ⟨tX, hX, kX⟩ := mach_X (f := f) T G cdv A outer s H E hr
    refine ⟨_, pss_cons (ps_set (i := 2) nd rfl (Or.inr rfl) (pe_got G.digits h1 (by rfl) (pa_cons (pe_got G.cell h1 (by rfl) (pa_cons (pv 0) (pa_cons (pv 1) pa_nil))) (pa_cons (pe_op op_cat (pe_op op_cat (pe_lst (pa_cons pe_int (pa_cons pe_int (pa_cons pe_int (pa_cons pe_int (pa_cons pe_int (pa_cons pe_int (pa_cons pe_int (pa_cons pe_int (pa_cons pe_int pa_nil)))))))))) (pe_op op_rep (pe_lst (pa_cons pe_int (pa_cons pe_int (pa_cons pe_int (pa_cons pe_int (pa_cons pe_int (pa_cons pe_int pa_nil))))))) pe_int)) (pe_op op_rep (pe_lst (pa_cons pe_int pa_nil)) pe_int)) pa_nil))))
      (pss_cons (ps_set (i := 3) nd rfl (Or.inl rfl) (pe_got G.alpha h1 (by rfl) (pa_cons (pe_slice sl_list (pv 2) (po_some pe_int) (po_some pe_int)) pa_nil)))
      (pss_cons (ps_set (i := 4) nd rfl (Or.inl rfl) (pe_got G.syms h1 (by rfl) (pa_cons (pe_ix ix_list (pv 2) pe_int fun _ _ => rfl) pa_nil)))
      (pss_cons (ps_set (i := 5) nd rfl (Or.inl rfl) (pe_ix ix_list (pe_lst (pa_cons pe_int (pa_cons pe_int (pa_cons pe_int (pa_cons pe_int pa_nil))))) (pe_ix ix_list (pv 2) pe_int fun _ _ => rfl) fun _ _ => rfl))
      (pss_cons (ps_set (i := 6) nd rfl (Or.inl rfl) (pe_lst pa_nil))
      (C8.pss_cut (ps_if (pt_cmpR op_ge (pe_ix ix_list (pv 2) pe_int fun _ _ => rfl) pe_int (nomark _))
        (pss_cons (ps_set (i := 5) nd rfl (Or.inl rfl) pe_int)
        (pss_one (ps_if (pt_cmpR op_lt (pe_ix ix_list (pv 2) pe_int fun _ _ => rfl) pe_int (nomark _))
          (pss_one (ps_set (i := 6) nd rfl (Or.inl rfl) (pe_got G.caller h1 (by rfl) (pa_cons (pv 3) (pa_cons (pe_ix ix_list (pv 4) pe_int fun _ _ => rfl) (pa_cons (pe_ix ix_list (pv 4) pe_int fun _ _ => rfl) (pa_cons (pe_slice sl_list (pv 2) (po_some pe_int) po_none) pa_nil)))))))
          (pss_one (ps_if (pt_cmpR op_lt (pe_ix ix_list (pv 2) pe_int fun _ _ => rfl) pe_int (nomark _))
            (pss_cons (ps_set (i := 5) nd rfl (Or.inl rfl) pe_int)
            (pss_one (ps_set (i := 6) nd rfl (Or.inl rfl) (pe_got G.restorer h1 (by rfl) (pa_cons (pv 3) (pa_cons (pe_ix ix_list (pv 4) pe_int fun _ _ => rfl) (pa_cons (pe_ix ix_list (pv 4) pe_int fun _ _ => rfl) pa_nil)))))))
            (pss_one (ps_if (pt_cmpR op_lt (pe_ix ix_list (pv 2) pe_int fun _ _ => rfl) pe_int (nomark _))
              (pss_one (ps_set (i := 6) nd rfl (Or.inl rfl) (pe_got G.scanner h1 (by rfl) (pa_cons (pv 3) (pa_cons (pe_ix ix_list (pv 4) pe_int fun _ _ => rfl) (pa_cons (pe_ix ix_list (pv 4) pe_int fun _ _ => rfl) pa_nil))))))
              (pss_one (ps_set (i := 6) nd rfl (Or.inl rfl) (pe_got G.climber h1 (by rfl) (pa_cons (pv 3) (pa_cons (pe_ix ix_list (pv 4) pe_int fun _ _ => rfl) (pa_cons (pe_ix ix_list (pv 4) pe_int fun _ _ => rfl) pa_nil)))))))))))))
        pss_nil)
      hX))))), ?_⟩
    have le : ∀ {a b : Nat}, b = 100 → a ≤ b → a ≤ sizeLine := fun e h => Nat.le_trans h (by rw [e]; decide)
    refine ⟨_, rfl, _, rfl, sc, ns, at_, rfl, hSc, fun z0 => ⟨show 9 ≤ sizeLine by decide, fun q1 m1 => ⟨show 6 ≤ sizeLine by decide, fun q2 m2 => ⟨q2, 3, _, rfl, rfl, upd_same, by decide, by decide, by decide, fun q3 m3 => ?_⟩⟩⟩⟩
    refine ⟨q1, q3, _, _, rfl, rfl, same_new m3 _ _ (same_new m2 _ _ upd_same), upd_same, show 27 ≤ sizeLine by decide, fun q4 m4 => ⟨show 1 ≤ sizeLine by decide, fun q5 m5 => ⟨q5, 9, _, rfl, rfl, upd_same, by decide, by decide, by decide, fun q6 m6 => ?_⟩⟩⟩
    refine ⟨q4, q6, _, _, rfl, rfl, same_new m6 _ _ (same_new m5 _ _ upd_same), upd_same, show 36 ≤ sizeLine by decide, fun q7 m7 => ?_⟩
    refine ⟨z0, q7, headSizes, rfl, SqL.of upd_same, by decide, by decide, fun head aD H1 dg np s1 hhead => ?_⟩
    have sA : Same H H1 := (((((((same_new m1).trans (same_new m2)).trans (same_new m3)).trans (same_new m4)).trans (same_new m5)).trans (same_new m6)).trans (same_new m7)).trans s1
    clear s1 np m1 m2 m3 m4 m5 m6 m7
    have rowAt : ∀ {j : Nat} {d : Nat}, head[j]? = some (d : Int) → atI (head.map V.int) (j : Int) = some (V.int d) := fun {j d} e => atI_nat (by rw [List.getElem?_map, e]; rfl)
    have dig : ∀ (j : Nat) (t : Int), headSizes[j]? = some t → ∃ d : Nat, head[j]? = some (d : Int) ∧ (d : Int) < t := fun j t e => by
      obtain ⟨d, e1, e2, e3⟩ := dg.2 j t e
      exact ⟨d.toNat, by rw [e1, Int.toNat_of_nonneg e2], by rw [Int.toNat_of_nonneg e2]; exact e3⟩
    have lenH : head.length = 36 := dg.1
    obtain ⟨d0, e0, b0⟩ := dig 0 12 rfl
    obtain ⟨d1, e1, b1⟩ := dig 1 8 rfl
    obtain ⟨d2, e2, b2⟩ := dig 2 12 rfl
    obtain ⟨d3, e3, b3⟩ := dig 3 13 rfl
    obtain ⟨d4, e4, b4⟩ := dig 4 6 rfl
    obtain ⟨d5, e5, b5⟩ := dig 5 4 rfl
    -- the alphabet
    refine ⟨_, rfl, 1, rfl, 4, rfl, aD, _, rfl, SqL.of hhead, fun q nq => ?_⟩
    have cutA : cutV (head.map V.int) (some 1) (some 4) = ((head.drop 1).take 3).map V.int := cut_in (row := head) (a := 1) (b := 4) (by omega) (by omega)
    rw [cutA]
    have tq := same_new (o := HO.lst (((head.drop 1).take 3).map V.int)) nq
    refine ⟨q, (head.drop 1).take 3, d1, d2, d3, rfl, SqL.of upd_same, ?_, ?_, ?_, by omega, by omega, fun l al l3 _ => ?_⟩
    · rw [List.getElem?_take_of_lt (by decide), List.getElem?_drop]; exact e1
    · rw [List.getElem?_take_of_lt (by decide), List.getElem?_drop]; exact e2
    · rw [List.getElem?_take_of_lt (by decide), List.getElem?_drop]; exact e3
    -- the symbols
    refine ⟨_, rfl, aD, _, _, _, rfl, rfl, SqL.of (tq _ _ hhead), rowAt (j := 4) e4, d4, rfl, by omega, fun aS x y H2 s2 ox oy hS => ?_⟩
    have s12 := tq.trans s2
    -- the states
    obtain ⟨n, en, n1, n5⟩ := menu_st (d := d5) (by omega)
    refine ⟨show 4 ≤ sizeLine by decide, fun q3 nq3 => ?_⟩
    have t3 := same_new (o := HO.lst [V.int 4, V.int 2, V.int 3, V.int 3]) nq3
    refine ⟨_, rfl, aD, _, _, _, rfl, rfl, SqL.of (t3 _ _ (s12 _ _ hhead)), rowAt (j := 5) e5, q3, _, _, .int n, rfl, rfl, SqL.of upd_same, en, ?_⟩
    have s13 := s12.trans t3
    have hS3 := t3 _ _ hS
    have hD3 := s13 _ _ hhead
    have sB := sA.trans s13
    dsimp only [gName]
    show (tSeq _ _) _ _ (upd H2 q3 (.lst [V.int 4, V.int 2, V.int 3, V.int 3]))
    generalize upd H2 q3 (.lst [V.int 4, V.int 2, V.int 3, V.int 3]) = H3 at hS3 hD3 sB ⊢
    clear t3 s13 s12 tq nq nq3 en cutA
    -- the rules
    refine ⟨Nat.zero_le _, fun a na => ?_⟩
    have ta := same_new (o := HO.lst []) na
    have hS4 := ta _ _ hS3
    have hD4 := ta _ _ hD3
    have R0 : Rs H3 (upd H3 a (.lst [])) a l n 0 := ⟨[], ta, upd_same, fun p m => absurd m List.not_mem_nil, fun p m => absurd m List.not_mem_nil, Nat.zero_le _⟩
    have s4 := sB.trans ta
    dsimp only [gName]
    show (C8.tCut _ _) _ _ (upd H3 a (.lst []))
    generalize upd H3 a (.lst []) = H4 at hS4 hD4 R0 s4 ⊢
    refine ⟨fun σ' H' => ∃ (n : Int) (a : Addr), σ' = [some (.ref sc), some (.int (at_ : Int)), some (.ref aD), some (.str l), some (.ref aS), some (.int n), some (.ref a), none, none, none, none, none, none, none, none, none, none, none, none, none] ∧ 1 ≤ n ∧ n ≤ 5 ∧ H' aD = some (.lst (head.map V.int)) ∧ H' aS = some (.lst [.str x, .str y]) ∧ H a = none ∧ (∀ d0 : Nat, head[0]? = some (d0 : Int) → d0 < 2 → n ≤ 4 ∧ Rs H H' a l n 0) ∧ Rs H H' a l n 64, ?_, ?_⟩
    rotate_left
    · rintro _ H' ⟨n, a, rfl, n1, n5, hD', hS', na', hz, R⟩
      exact kX _ H k H' sc aD aS a ns head at_ l x y n _ _ _ _ _ _ _ _ _ _ _ _ _ hSc hD' dg hS' ox oy al l3 n1 n5 na' hz R
    refine ⟨_, rfl, aD, _, _, _, rfl, rfl, SqL.of hD4, rowAt (j := 0) e0, _, _, rfl, rfl, _, rfl, ite2 (fun c0 => ?_) (fun _ => ⟨n, a, rfl, n1, by omega, hD4, hS4, sB.free na, fun _ _ _ => ⟨n5, R0.base sB⟩, (R0.base sB).le (by omega)⟩)⟩
    have c1 : (2 : Int) ≤ (d0 : Int) := of_decide_eq_true c0
    have other : ∀ {n : Int} {H0 H' : Hp} {p : Addr}, Same H4 H0 → H0 p = none → Rs H0 H' p l n 64 → H' aD = some (.lst (head.map V.int)) ∧ H' aS = some (.lst [.str x, .str y]) ∧ H p = none ∧ (∀ d0 : Nat, head[0]? = some (d0 : Int) → d0 < 2 → n ≤ 4 ∧ Rs H H' p l n 0) ∧ Rs H H' p l n 64 := fun s np R =>
      ⟨R.same _ _ (s _ _ hD4), R.same _ _ (s _ _ hS4), (s4.trans s).free np, fun d ed ld => absurd ld (by rw [e0] at ed; have := Int.ofNat.inj (Option.some.inj ed); omega), R.base (s4.trans s)⟩
    refine ⟨_, rfl, aD, _, _, _, rfl, rfl, SqL.of hD4, rowAt (j := 0) e0, _, _, rfl, rfl, _, rfl, ite2 (fun _ => ?_) (fun _ => ?_)⟩
    · refine ⟨_, rfl, _, rfl, aS, _, 0, .str x, rfl, rfl, SqL.of hS4, rfl, _, rfl, aS, _, 1, .str y, rfl, rfl, SqL.of hS4, rfl, _, rfl, 27, rfl, aD, _, rfl, SqL.of hD4, fun q nq => ?_⟩
      have cutM : cutV (head.map V.int) (some 27) none = (head.drop 27).map V.int := cut_from (row := head) (a := 27) (by omega)
      rw [cutM]
      have tq := same_new (o := HO.lst ((head.drop 27).map V.int)) nq
      exact ⟨l, x, y, q, head.drop 27, rfl, al, l3, ox, oy, SqL.of upd_same, by rw [List.length_drop]; omega, fun p H' np R => ⟨4, p, rfl, by decide, by decide, other tq np R⟩⟩
    refine ⟨_, rfl, aD, _, _, _, rfl, rfl, SqL.of hD4, rowAt (j := 0) e0, _, _, rfl, rfl, _, rfl, ite2 (fun _ => ?_) (fun _ => ?_)⟩
    · exact ⟨_, rfl, _, rfl, aS, _, 0, .str x, rfl, rfl, SqL.of hS4, rfl, _, rfl, aS, _, 1, .str y, rfl, rfl, SqL.of hS4, rfl, l, x, y, rfl, al, l3, ox, oy, fun p H' np R => ⟨5, p, rfl, by decide, by decide, other (Same.refl _) np R⟩⟩
    refine ⟨_, rfl, aD, _, _, _, rfl, rfl, SqL.of hD4, rowAt (j := 0) e0, _, _, rfl, rfl, _, rfl, ite2 (fun _ => ?_) (fun _ => ?_)⟩
    · exact ⟨_, rfl, _, rfl, aS, _, 0, .str x, rfl, rfl, SqL.of hS4, rfl, _, rfl, aS, _, 1, .str y, rfl, rfl, SqL.of hS4, rfl, l, x, y, rfl, al, l3, ox, oy, fun p H' np R => ⟨4, p, rfl, by decide, by decide, other (Same.refl _) np R⟩⟩
    · exact ⟨_, rfl, _, rfl, aS, _, 0, .str x, rfl, rfl, SqL.of hS4, rfl, _, rfl, aS, _, 1, .str y, rfl, rfl, SqL.of hS4, rfl, l, x, y, rfl, al, l3, ox, oy, fun p H' np R => ⟨4, p, rfl, by decide, by decide, other (Same.refl _) np R⟩⟩
end
end Mk

set_option Elab.async false
set_option linter.unusedVariables false
set_option maxRecDepth 100000
set_option maxHeartbeats 8000000
namespace Mk
open PySem L2 Pk
/-- a machine as data: letters, states, rules, yes -/
structure Mdl (H : Hp) (p aR aY : Addr) (l : PySem.Str) (n : Int) (B : Kept) (ys : List Int) : Prop where
  at_ : H p = some (.lst [.str l, .int n, .ref aR, .ref aY])
  al : Alpha l
  l3 : l.length ≤ 3
  n1 : 1 ≤ n
  rs : H aR = some (.lst (refsK B))
  kept : KeptAt H B
  ok : ∀ p ∈ B, RlOk l n p.2
  yl : H aY = some (.lst (ys.map V.int))
  yok : ∀ y ∈ ys, 0 ≤ y ∧ y ≤ n - 1
theorem Mdl.mono {H H' : Hp} {p aR aY : Addr} {l : PySem.Str} {n : Int} {B : Kept} {ys : List Int} (h : Mdl H p aR aY l n B ys) (s : Same H H') : Mdl H' p aR aY l n B ys :=
  ⟨s _ _ h.at_, h.al, h.l3, h.n1, s _ _ h.rs, h.kept.mono s, h.ok, s _ _ h.yl, h.yok⟩
theorem vs_st (r : Rl) : atI r.vs 0 = some (.int r.st) := rfl
theorem vs_sg (r : Rl) : atI r.vs 1 = some (.str r.sg) := rfl
theorem vs_tp (r : Rl) : atI r.vs 2 = some (.str r.tp) := rfl
theorem vs_af (r : Rl) : atI r.vs 3 = some (.int r.af) := rfl
abbrev nSmall : List PySem.Str := ["digit", "machine", "rules", "rule", "state"]
theorem scSmall : FnScope nSmall ["digit", "machine"] (defScope sSmall) := ⟨rfl, rfl, rfl, by decide +kernel, rfl, by decide +kernel, by decide +kernel⟩
section
variable {P : Program} {w : World} {K : PySem.W.Frag} {mg : PySem.Str → Option Value} {base : Heap}
/-! _law_small -/
def spSmall : Sp := fun vs H Q _ => ∃ (d : Nat) (p aR aY : Addr) (l : PySem.Str) (n : Int) (B : Kept) (ys : List Int), vs = [.int (d : Int), .ref p] ∧ Mdl H p aR aY l n B ys ∧ n ≤ 5 ∧ B.length ≤ 67 ∧ ys.length ≤ 5 ∧
  ∀ (p' aR' aY' : Addr) (n' : Int) (B' : Kept) (ys' : List Int) (H' : Hp), Same H H' → Mdl H' p' aR' aY' l n' B' ys' → n' ≤ 5 → B'.length ≤ 67 → ys'.length ≤ 5 → Q (.ref p') H'
theorem ok_small {f : Addr} {fd : FuncData} (F : Fun K "_law_small" "_law_small" sSmall f fd) (T : TM mg) : FnOk P w K mg base CX0 1 f fd ["digit", "machine"] spSmall := by
  refine F.ok scSmall (fun vs H Q E h => ?_) (fun cdv A outer s H vs Q E hr h => ?_)
  · obtain ⟨d, p, aR, aY, l, n, B, ys, rfl, _⟩ := h
    rfl
  · obtain ⟨d, p, aR, aY, l, n, B, ys, rfl, M, n5, bB, bY, k⟩ := h
    have nd := scSmall.nd
    refine ⟨_, (C8.pss_cut (ps_if (pt_cmpR op_eq (pv 0) pe_int (nomark _))
        (pss_cons (ps_setLc (i := 2) (own := [("rule", 3)]) (g := gName 3) (by rfl) nd rfl rfl (sw_true rfl rfl rfl (by decide +kernel)) (pi_list (pe_ix ix_list (pv 1) pe_int fun _ _ => rfl)) (blkOk_by (own := [("rule", 3)]) (N := nSmall) (sc := defScope sSmall) (by decide +kernel)) (fun _ _ _ _ _ => pg_name (i := 3) nd rfl (Or.inl rfl)) (fun _ _ _ _ _ => pts_one (PW.pt (pw_and (pt_cmpR op_eq (pe_ix (r := rIxT K) ix_tup (pv 3) pe_int fun _ _ => rfl) pe_int (nomark _)) (pw_and1 (pt_cmpR op_eq (pe_ix (r := rIxT K) ix_tup (pv 3) pe_int fun _ _ => rfl) pe_int (nomark _)))))) (fun _ _ _ _ _ => (pv 3)))
        (pss_one (ps_ret (pe_lst (pa_cons (pe_ix ix_list (pv 1) pe_int fun _ _ => rfl) (pa_cons pe_int (pa_cons (pv 2) (pa_cons (pe_lc (own := [("state", 4)]) (g := gName 4) (by rfl) nd (pi_list (pe_ix ix_list (pv 1) pe_int fun _ _ => rfl)) (blkOk_by (own := [("state", 4)]) (N := nSmall) (sc := defScope sSmall) (by decide +kernel)) (fun _ _ _ _ _ => pg_name (i := 4) nd rfl (Or.inl rfl)) (fun _ _ _ _ _ => pts_one (pt_cmpR op_eq (pv 4) pe_int (nomark _))) (fun _ _ _ _ _ => (pv 4))) pa_nil))))))))
        pss_nil)
      (C8.pss_cut (ps_if (pt_cmpR op_eq (pv 0) pe_int (nomark _))
        (pss_one (ps_ret (pe_lst (pa_cons (pe_ix ix_list (pv 1) pe_int fun _ _ => rfl) (pa_cons (pe_ix ix_list (pv 1) pe_int fun _ _ => rfl) (pa_cons (pe_lst pa_nil) (pa_cons (pe_ix ix_list (pv 1) pe_int fun _ _ => rfl) pa_nil)))))))
        pss_nil)
      (pss_one (ps_ret (pv 1))))), ?_⟩
    refine ⟨fun σ' H' => σ' = [some (.int (d : Int)), some (.ref p), none, none, none] ∧ H' = H, ?_, ?_⟩
    · refine ⟨_, rfl, rfl, _, rfl, ite2 (fun _ => ?_) (fun _ => ⟨rfl, rfl⟩)⟩
      refine ⟨_, rfl, p, _, 2, .ref aR, rfl, rfl, SqL.of M.at_, rfl, aR, rfl, ⟨_, SqL.of M.rs⟩, fun Dn nDn => lc_list (K := K) (a := aR) (xs := refsK B) (fun i' H' => Same H H' ∧ ∃ B' : Kept, H' Dn = some (.lst (refsK B')) ∧ (∀ p ∈ B', p ∈ B ∧ p.2.st = 0 ∧ p.2.af = 0) ∧ B'.length ≤ i') ⟨same_new nDn, [], upd_same, fun p m => absurd m List.not_mem_nil, Nat.zero_le _⟩ (fun i' H' _ h => SqL.of (h.1 _ _ M.rs)) ?_ ?_⟩
      · rintro i' v H5 hi' ⟨s5, B', hB', sub, lb⟩
        obtain ⟨r, er, rfl⟩ := at_refs hi'
        have mr := List.mem_of_getElem? er
        have li : i' < B.length := (List.getElem?_eq_some_iff.mp er).1
        have hr5 := s5 _ _ (M.kept r mr)
        refine ⟨rfl, ?_⟩
        refine ⟨_, rfl, r.1, r.2.vs, 0, .int r.2.st, rfl, rfl, .inl (.inl hr5), vs_st r.2, rfl, _, rfl, ite2 (fun c0 => ?_) (fun _ => ⟨s5, B', hB', sub, by omega⟩)⟩
        refine ⟨_, rfl, r.1, r.2.vs, 3, .int r.2.af, rfl, rfl, .inl (.inl hr5), vs_af r.2, rfl, _, rfl, ite2 (fun c1 => ?_) (fun _ => ⟨s5, B', hB', sub, by omega⟩)⟩
        refine ⟨_, rfl, _, hB', ?_, same_mut s5 nDn, B' ++ [r], ?_, fun z m => ?_, ?_⟩
        · unfold refsK
          rw [List.length_map]
          exact Nat.lt_of_le_of_lt (show B'.length ≤ 1000 by omega) (by decide)
        · rw [upd_same]
          unfold refsK
          rw [List.map_append] <;> rfl
        · rcases List.mem_append.mp m with m | m
          · exact sub z m
          · rw [List.mem_singleton.mp m]; exact ⟨mr, V.int.inj (of_decide_eq_true c0), V.int.inj (of_decide_eq_true c1)⟩
        · rw [List.length_append]
          show B'.length + 1 ≤ i' + 1
          omega
      rintro H5 ⟨s5, B', hB', sub, lb⟩
      have lB : (refsK B).length = B.length := List.length_map ..
      have M5 := M.mono s5
      refine ⟨_, rfl, p, _, 0, .str l, rfl, rfl, SqL.of M5.at_, rfl, _, rfl, _, rfl, p, _, 3, .ref aY, rfl, rfl, SqL.of M5.at_, rfl, aY, rfl, ⟨_, SqL.of M5.yl⟩, fun Dy nDy => lc_list (K := K) (a := aY) (xs := ys.map V.int) (fun i' H' => Same H5 H' ∧ ∃ ys' : List Int, H' Dy = some (.lst (ys'.map V.int)) ∧ (∀ y ∈ ys', y = 0) ∧ ys'.length ≤ i') ⟨same_new nDy, [], upd_same, fun p m => absurd m List.not_mem_nil, Nat.zero_le _⟩ (fun i' H' _ h => SqL.of (h.1 _ _ M5.yl)) ?_ ?_⟩
      · rintro i' v H6 hi' ⟨s6, ys', hy', sub', ly⟩
        rw [List.getElem?_map] at hi'
        obtain ⟨y, ey, rfl⟩ := Option.map_eq_some_iff.mp hi'
        have li : i' < ys.length := (List.getElem?_eq_some_iff.mp ey).1
        refine ⟨rfl, ?_⟩
        refine ⟨_, rfl, rfl, _, rfl, ite2 (fun c0 => ?_) (fun _ => ⟨s6, ys', hy', sub', by omega⟩)⟩
        refine ⟨_, rfl, _, hy', ?_, same_mut s6 nDy, ys' ++ [y], ?_, fun z m => ?_, ?_⟩
        · rw [List.length_map]
          exact Nat.lt_of_le_of_lt (show ys'.length ≤ 1000 by omega) (by decide)
        · rw [upd_same, List.map_append] <;> rfl
        · rcases List.mem_append.mp m with m | m
          · exact sub' z m
          · rw [List.mem_singleton.mp m]; exact V.int.inj (of_decide_eq_true c0)
        · rw [List.length_append]
          show ys'.length + 1 ≤ i' + 1
          omega
      rintro H6 ⟨s6, ys', hy', sub', ly⟩
      have lY : (ys.map V.int).length = ys.length := List.length_map ..
      refine ⟨show 4 ≤ sizeLine by decide, fun q nq => ?_⟩
      have s56 := s5.trans s6
      have t := same_new (o := HO.lst [V.str l, V.int 1, V.ref Dn, V.ref Dy]) nq
      exact k q Dn Dy 1 B' ys' _ (s56.trans t) ⟨upd_same, M.al, M.l3, by decide, t _ _ (s6 _ _ hB'), fun z m => t _ _ (s56 _ _ (M.kept z (sub z m).1)), fun z m => by
          obtain ⟨a, b, c⟩ := sub z m
          have o := M.ok z a
          exact { o with st := by rw [b]; decide, af := by rw [c]; decide }, t _ _ hy', fun y m => by rw [sub' y m]; decide⟩ (by decide) (by omega) (by omega)
    rintro _ H0 ⟨rfl, e0⟩
    subst e0
    refine ⟨fun σ' H' => σ' = [some (.int (d : Int)), some (.ref p), none, none, none] ∧ H' = H0, ?_, ?_⟩
    · refine ⟨_, rfl, rfl, _, rfl, ite2 (fun _ => ?_) (fun _ => ⟨rfl, rfl⟩)⟩
      refine ⟨_, rfl, p, _, 0, .str l, rfl, rfl, SqL.of M.at_, rfl, _, rfl, p, _, 1, .int n, rfl, rfl, SqL.of M.at_, rfl, Nat.zero_le _, fun q nq => ?_⟩
      have t1 := same_new (o := HO.lst []) nq
      have M1 := M.mono t1
      refine ⟨_, rfl, p, _, 3, .ref aY, rfl, rfl, SqL.of M1.at_, rfl, show 4 ≤ sizeLine by decide, fun q2 nq2 => ?_⟩
      have t2 := same_new (o := HO.lst [V.str l, V.int n, V.ref q, V.ref aY]) nq2
      have M2 := M1.mono t2
      exact k q2 q aY n [] ys _ (t1.trans t2) ⟨upd_same, M.al, M.l3, M.n1, t2 _ _ upd_same, fun z m => absurd m List.not_mem_nil, fun z m => absurd m List.not_mem_nil, M2.yl, M.yok⟩ n5 (Nat.zero_le _) bY
    rintro _ H1 ⟨rfl, e1⟩
    subst e1
    exact ⟨_, rfl, k p aR aY n B ys _ (Same.refl _) M n5 bB bY⟩
end
end Mk

set_option Elab.async false
set_option linter.unusedVariables false
set_option maxRecDepth 100000
set_option maxHeartbeats 8000000
namespace Mk
open PySem L2 Pk
abbrev nMore : List PySem.Str := ["script", "at", "machine", "head", "rules", "turn", "part", "base", "act", "rule"]
theorem scMore : FnScope nMore ["script", "at", "machine"] (defScope sMore) := ⟨rfl, rfl, rfl, by decide +kernel, rfl, by decide +kernel, by decide +kernel⟩
def moreSizes : List Int := [12, 997, 13, 6, 8, 2, 12, 997, 13, 6, 8, 2, 12, 997, 13, 6, 8, 2, 12, 997, 13, 6, 8, 2, 12]
def moreMenu : List V := [V.int 0, V.int 0, V.int 0, V.int 0, V.int 0, V.int 1, V.int 0, V.int 0, V.int 0, V.int 0, V.int 4, V.int 0]
theorem more_at {d : Nat} (h : d < 12) : ∃ m : Nat, atI moreMenu (d : Int) = some (.int (m : Int)) ∧ m ≤ 4 := by
  have c : d = 0 ∨ d = 1 ∨ d = 2 ∨ d = 3 ∨ d = 4 ∨ d = 5 ∨ d = 6 ∨ d = 7 ∨ d = 8 ∨ d = 9 ∨ d = 10 ∨ d = 11 := by omega
  rcases c with rfl | rfl | rfl | rfl | rfl | rfl | rfl | rfl | rfl | rfl | rfl | rfl
  all_goals first | exact ⟨0, rfl, by decide⟩ | exact ⟨1, rfl, by decide⟩ | exact ⟨4, rfl, by decide⟩
theorem at_map {row : List Int} {j d : Nat} (e : row[j]? = some (d : Int)) : atI (row.map V.int) (j : Int) = some (V.int d) := atI_nat (by rw [List.getElem?_map, e]; rfl)
theorem dig_nat {sizes row : List Int} (dg : Digs sizes row) (j : Nat) (t : Int) (e : sizes[j]? = some t) : ∃ d : Nat, row[j]? = some (d : Int) ∧ (d : Int) < t := by
  obtain ⟨d, e1, e2, e3⟩ := dg.2 j t e
  exact ⟨d.toNat, by rw [e1, Int.toNat_of_nonneg e2], by rw [Int.toNat_of_nonneg e2]; exact e3⟩
section
variable {P : Program} {w : World} {K : PySem.W.Frag} {mg : PySem.Str → Option Value} {base : Heap}
/-! _law_more -/
def spMore (K : PySem.W.Frag) : Sp := fun vs H Q _ => ∃ (sc : Addr) (ns : List Int) (at_ : Nat) (p aR aY : Addr) (l : PySem.Str) (n : Int) (B : Kept) (ys : List Int), vs = [.ref sc, .int (at_ : Int), .ref p] ∧ SqL K H sc (ns.map V.int) ∧ Mdl H p aR aY l n B ys ∧ n ≤ 5 ∧ B.length ≤ 67 ∧ ys.length ≤ 5 ∧
  ∀ (p' aR' aY' : Addr) (B' : Kept) (H' : Hp), Same H H' → Mdl H' p' aR' aY' l n B' ys → B'.length ≤ 71 → Q (.ref p') H'
theorem ok_more {f : Addr} {fd : FuncData} (F : Fun K "_law_more" "_law_more" sMore f fd) (T : TM mg) (G : GenDefs P w K mg base) : FnOk P w K mg base CX0 2 f fd ["script", "at", "machine"] (spMore K) := by
  refine F.ok scMore (fun vs H Q E h => ?_) (fun cdv A outer s H vs Q E hr h => ?_)
  · obtain ⟨sc, ns, at_, p, aR, aY, l, n, B, ys, rfl, _⟩ := h
    rfl
  · obtain ⟨sc, ns, at_, p, aR, aY, l, n, B, ys, rfl, hSc, M, n5, bB, bY, k⟩ := h
    have nd := scMore.nd
    have h1 := hr
    refine ⟨_, (pss_cons (ps_set (i := 3) nd rfl (Or.inl rfl) (pe_got G.digits h1 (by rfl) (pa_cons (pe_got G.cell h1 (by rfl) (pa_cons (pv 0) (pa_cons (pv 1) pa_nil))) (pa_cons (pe_op op_cat (pe_lst (pa_cons pe_int pa_nil)) (pe_op op_rep (pe_lst (pa_cons pe_int (pa_cons pe_int (pa_cons pe_int (pa_cons pe_int (pa_cons pe_int (pa_cons pe_int pa_nil))))))) pe_int)) pa_nil))))
      (pss_cons (ps_setLc (i := 4) (own := [("rule", 9)]) (g := gName 9) (tt := tYes) (by rfl) nd rfl rfl (sw_true rfl rfl rfl (by decide +kernel)) (pi_list (pe_ix ix_list (pv 2) pe_int fun _ _ => rfl)) (blkOk_by (own := [("rule", 9)]) (N := nMore) (sc := defScope sMore) (by decide +kernel)) (fun _ _ _ _ _ => pg_name (i := 9) nd rfl (Or.inl rfl)) (fun _ _ _ _ _ => pts_nil) (fun _ _ _ _ _ => (pv 9)))
      (pss_cons (ps_for PassesOwn.never rfl (pi_range1 (by rfl) T.range (pa_cons (pe_ix ix_list (pe_lst (pa_cons pe_int (pa_cons pe_int (pa_cons pe_int (pa_cons pe_int (pa_cons pe_int (pa_cons pe_int (pa_cons pe_int (pa_cons pe_int (pa_cons pe_int (pa_cons pe_int (pa_cons pe_int (pa_cons pe_int pa_nil))))))))))))) (pe_ix ix_list (pv 3) pe_int fun _ _ => rfl) fun _ _ => rfl) pa_nil)) (pg_name (i := 5) nd rfl (Or.inl rfl))
        (pss_cons (ps_set (i := 6) nd rfl (Or.inl rfl) (pe_slice sl_list (pv 3) (po_some (pe_op op_add pe_int (pe_op op_mul pe_int (pv 5)))) (po_some (pe_op op_add pe_int (pe_op op_mul pe_int (pv 5))))))
        (pss_one (ps_if (pt_cmpR op_gt (pe_callB call_len_seq (by rfl) T.len PySem.boot_len (pa_cons (pv 4) pa_nil)) pe_int (nomark _))
          (pss_cons (ps_set (i := 7) nd rfl (Or.inl rfl) (pe_ix ix_list (pv 4) (pe_op op_mod (pe_callTy call_int1 (by rfl) T.int PyProof.Rows.Boot.int (pa_cons (pe_ix ix_list (pv 6) pe_int fun _ _ => rfl) pa_nil)) (pe_callB call_len_seq (by rfl) T.len PySem.boot_len (pa_cons (pv 4) pa_nil))) fun _ _ => rfl))
          (pss_cons (ps_set (i := 8) nd rfl (Or.inl rfl) (pe_got G.act h1 (by rfl) (pa_cons (pe_slice sl_list (pv 6) (po_some pe_int) po_none) (pa_cons (pe_ix ix_list (pv 2) pe_int fun _ _ => rfl) (pa_cons (pe_lst (pa_cons pe_str (pa_cons pe_str pa_nil))) (pa_cons (pe_ix ix_tup (pv 7) pe_int fun _ _ => rfl) (pa_cons (pe_ix ix_tup (pv 7) pe_int fun _ _ => rfl) pa_nil)))))))
          (pss_one (ps_if (pt_cmp (pc_notN (pv 8)))
            (pss_one (ps_expr (pe_bm PySem.F.plainAttrs_list PySem.F.slot_list_append PySem.F.type_list_append mt_append (pv 4) (pa_cons (pe_op op_catT (pe_slice sl_tup (pv 7) po_none (po_some pe_int)) (pv 8)) pa_nil))))
            pss_nil))))
          pss_nil))))
      (pss_one (ps_ret (pe_lst (pa_cons (pe_ix ix_list (pv 2) pe_int fun _ _ => rfl) (pa_cons (pe_ix ix_list (pv 2) pe_int fun _ _ => rfl) (pa_cons (pv 4) (pa_cons (pe_ix ix_list (pv 2) pe_int fun _ _ => rfl) pa_nil)))))))))), ?_⟩
    refine ⟨_, rfl, _, rfl, sc, ns, at_, rfl, hSc, fun z0 => ⟨show 1 ≤ sizeLine by decide, fun q1 m1 => ⟨show 6 ≤ sizeLine by decide, fun q2 m2 => ⟨q2, 4, _, rfl, rfl, upd_same, by decide, by decide, by decide, fun q3 m3 => ?_⟩⟩⟩⟩
    refine ⟨q1, q3, _, _, rfl, rfl, same_new m3 _ _ (same_new m2 _ _ upd_same), upd_same, show 25 ≤ sizeLine by decide, fun q4 m4 => ?_⟩
    refine ⟨z0, q4, moreSizes, rfl, SqL.of upd_same, by decide, by decide, fun head aD H1 dg np s1 hD => ?_⟩
    have sA : Same H H1 := ((((same_new m1).trans (same_new m2)).trans (same_new m3)).trans (same_new m4)).trans s1
    clear s1 np m1 m2 m3 m4
    have M1 := M.mono sA
    have lenH : head.length = 25 := dg.1
    obtain ⟨d0, e0, b0⟩ := dig_nat dg 0 12 rfl
    obtain ⟨m, em, m4⟩ := more_at (d := d0) (by omega)
    -- the rules
    refine ⟨_, rfl, p, _, 2, .ref aR, rfl, rfl, SqL.of M1.at_, rfl, aR, rfl, ⟨_, SqL.of M1.rs⟩, fun Dn nDn => lc_list (K := K) (a := aR) (xs := refsK B) (fun i' H' => Same H1 H' ∧ H' Dn = some (.lst (refsK (B.take i')))) ⟨same_new nDn, upd_same⟩ (fun i' H' _ h => SqL.of (h.1 _ _ M1.rs)) ?_ ?_⟩
    · rintro i' v H5 hi' ⟨s5, hB'⟩
      obtain ⟨r, er, rfl⟩ := at_refs hi'
      refine ⟨rfl, ?_⟩
      refine ⟨_, rfl, _, hB', ?_, same_mut s5 nDn, ?_⟩
      · unfold refsK
        rw [List.length_map, List.length_take]
        exact Nat.lt_of_le_of_lt (show min i' B.length ≤ 1000 by omega) (by decide)
      · rw [upd_same, take_at er]
        unfold refsK
        rw [List.map_append] <;> rfl
    rintro H2 ⟨s2, hB'⟩
    have lB : (refsK B).length = B.length := List.length_map ..
    rw [List.take_of_length_le (by omega)] at hB'
    have M2 := M1.mono s2
    have hD2 := s2 _ _ hD
    have nDn : H1 Dn = none := by
      assumption
    have R0 : Rs H1 H2 Dn l n (67 + 0) := ⟨B, s2, hB', M2.kept, M2.ok, by omega⟩
    clear hB'
    refine ⟨show 12 ≤ sizeLine by decide, fun q0 nq0 => ?_⟩
    have t0 := same_new (o := HO.lst moreMenu) nq0
    refine ⟨_, rfl, aD, _, _, _, rfl, rfl, SqL.of (t0 _ _ hD2), at_map (j := 0) e0, q0, _, _, .int (m : Int), rfl, rfl, SqL.of upd_same, em, _, rfl, by omega, by omega, for_range (lo := 0) (n := ((m : Nat) : Int).toNat) (fun i σ H' => Same H1 H' ∧ Rs H1 H' Dn l n (67 + i) ∧ ∃ (v5 v6 v7 v8 : Option V), σ = [some (.ref sc), some (.int (at_ : Int)), some (.ref p), some (.ref aD), some (.ref Dn), v5, v6, v7, v8, none])
      ⟨s2.trans t0, R0.mono t0, _, _, _, _, rfl⟩ ?_ ?_⟩
    rotate_left
    · rintro σ H3 ⟨s3, ⟨B', R⟩, v5, v6, v7, v8, rfl⟩
      have M3 := M1.mono s3
      refine ⟨_, rfl, p, _, 0, .str l, rfl, rfl, SqL.of M3.at_, rfl, _, rfl, p, _, 1, .int n, rfl, rfl, SqL.of M3.at_, rfl, _, rfl, _, rfl, p, _, 3, .ref aY, rfl, rfl, SqL.of M3.at_, rfl, show 4 ≤ sizeLine by decide, fun q nq => ?_⟩
      have t := same_new (o := HO.lst [V.str l, V.int n, V.ref Dn, V.ref aY]) nq
      have M4 := M3.mono t
      have R4 := R.mono t
      have few := R.few
      exact k q Dn aY B' _ (sA.trans (s3.trans t)) ⟨upd_same, M.al, M.l3, M.n1, R4.at_, R4.kept, R4.ok, M4.yl, M.yok⟩ (by omega)
    rintro i σ H3 hi ⟨s3, ⟨B', R⟩, v5, v6, v7, v8, rfl⟩
    have few := R.few
    have i4 : i < 4 := by omega
    have sizes : ∀ j, j < 6 → moreSizes[1 + 6 * i + j]? = ([997, 13, 6, 8, 2, 12] : List Int)[j]? := by
      have c : i = 0 ∨ i = 1 ∨ i = 2 ∨ i = 3 := by omega
      rcases c with rfl | rfl | rfl | rfl <;> decide
    obtain ⟨p0, ep0, bp0⟩ := dig_nat dg (1 + 6 * i + 0) 997 (sizes 0 (by decide))
    obtain ⟨p1, ep1, bp1⟩ := dig_nat dg (1 + 6 * i + 1) 13 (sizes 1 (by decide))
    obtain ⟨p2, ep2, bp2⟩ := dig_nat dg (1 + 6 * i + 2) 6 (sizes 2 (by decide))
    obtain ⟨p3, ep3, bp3⟩ := dig_nat dg (1 + 6 * i + 3) 8 (sizes 3 (by decide))
    obtain ⟨p4, ep4, bp4⟩ := dig_nat dg (1 + 6 * i + 4) 2 (sizes 4 (by decide))
    obtain ⟨p5, ep5, bp5⟩ := dig_nat dg (1 + 6 * i + 5) 12 (sizes 5 (by decide))
    have hD3 := s3 _ _ hD
    have M3 := M1.mono s3
    refine ⟨_, rfl, _, rfl, _, _, rfl, rfl, .inl ⟨by decide, by decide⟩, _, _, rfl, rfl, _, rfl, _, rfl, _, _, rfl, rfl, .inl ⟨by decide, by decide⟩, _, _, rfl, rfl, _, rfl, aD, _, rfl, SqL.of hD3, fun q nq => ?_⟩
    have cutE : cutV (head.map V.int) (some (1 + 6 * (0 + (i : Int)))) (some (7 + 6 * (0 + (i : Int)))) = ((head.drop (1 + 6 * i)).take 6).map V.int := by
      have c := cut_in (row := head) (a := 1 + 6 * i) (b := 7 + 6 * i) (by omega) (by omega)
      rw [show 7 + 6 * i - (1 + 6 * i) = 6 by omega] at c
      rw [show (1 : Int) + 6 * (0 + (i : Int)) = ((1 + 6 * i : Nat) : Int) by omega, show (7 : Int) + 6 * (0 + (i : Int)) = ((7 + 6 * i : Nat) : Int) by omega]
      exact c
    rw [cutE]
    generalize hpart : (head.drop (1 + 6 * i)).take 6 = part
    have partAt : ∀ {j d : Nat}, j < 6 → head[1 + 6 * i + j]? = some (d : Int) → part[j]? = some (d : Int) := fun {j d} lj e => by
      rw [← hpart, List.getElem?_take_of_lt lj, List.getElem?_drop]
      exact e
    have tq := same_new (o := HO.lst (part.map V.int)) nq
    have s4 := s3.trans tq
    have R4 := R.mono tq
    have M4 := M3.mono tq
    have hq : (upd H3 q (.lst (part.map V.int))) q = some (.lst (part.map V.int)) := upd_same
    dsimp only [gName]
    generalize upd H3 q (.lst (part.map V.int)) = H4 at s4 R4 M4 hq ⊢
    clear nq tq hpart cutE R hD3 M3
    have lB' : (refsK B').length = B'.length := List.length_map ..
    refine ⟨_, rfl, Dn, _, rfl, .inl (SqL.of R4.at_), _, _, rfl, rfl, _, rfl, ite2 (fun c => ?_) (fun _ => ⟨s4, ⟨B', R4.at_ |> fun _ => R4.same, R4.at_, R4.kept, R4.ok, by omega⟩, _, _, _, _, rfl⟩)⟩
    have pos : (0 : Int) < (((refsK B').length : Nat) : Int) := of_decide_eq_true c
    obtain ⟨r, er⟩ : ∃ r, B'[p0 % B'.length]? = some r := ⟨_, List.getElem?_eq_getElem (Nat.mod_lt _ (by omega))⟩
    have mr := List.mem_of_getElem? er
    have ei : (p0 : Int) % (((refsK B').length : Nat) : Int) = ((p0 % B'.length : Nat) : Int) := by
      rw [lB', Int.natCast_emod]
    have okr0 := R4.ok r mr
    refine ⟨_, rfl, _, rfl, q, _, _, _, rfl, rfl, SqL.of hq, at_map (j := 0) (partAt (by decide) ep0), .inl ⟨_, rfl, _, rfl, Dn, _, rfl, .inl (SqL.of R4.at_), _, _, rfl, rfl, pos, Dn, _, _, .ref r.1, rfl, rfl, SqL.of R4.at_, by rw [ei]; exact atI_nat (by unfold refsK; rw [List.getElem?_map, er] <;> rfl), ?_⟩⟩
    have len1 : 1 ≤ part.length := (List.getElem?_eq_some_iff.mp (partAt (j := 0) (by decide) ep0)).1
    have cut1' : cutV (part.map V.int) (some 1) none = (part.drop 1).map V.int := cut_from (row := part) (a := 1) len1
    have ar : ActRow (part.drop 1) p1 p2 p3 p4 p5 := ⟨by rw [List.getElem?_drop]; exact partAt (j := 1) (by decide) ep1, by rw [List.getElem?_drop]; exact partAt (j := 2) (by decide) ep2, by rw [List.getElem?_drop]; exact partAt (j := 3) (by decide) ep3, by rw [List.getElem?_drop]; exact partAt (j := 4) (by decide) ep4,
      by rw [List.getElem?_drop]; exact partAt (j := 5) (by decide) ep5, by omega, by omega, by omega⟩
    refine ⟨_, rfl, 1, rfl, q, _, rfl, SqL.of hq, fun r1 nr => ?_⟩
    rw [cut1']
    have tr := same_new (o := HO.lst ((part.drop 1).map V.int)) nr
    have M5 := M4.mono tr
    refine ⟨_, rfl, p, _, 1, .int n, rfl, rfl, SqL.of M5.at_, rfl, show 2 ≤ sizeLine by decide, fun u nu => ?_⟩
    have tu := same_new (o := HO.lst [V.str (PySem.Str.ofString "x"), V.str (PySem.Str.ofString "Q1")]) nu
    have R5 := (R4.mono tr).mono tu
    refine ⟨_, rfl, r.1, r.2.vs, 1, .str r.2.sg, rfl, rfl, .inl (.inl (R5.kept r mr)), vs_sg r.2, _, rfl, r.1, r.2.vs, 2, .str r.2.tp, rfl, rfl, .inl (.inl (R5.kept r mr)), vs_tp r.2, ?_⟩
    have s5 := (s4.trans tr).trans tu
    refine ⟨r1, u, part.drop 1, p1, p2, p3, p4, p5, n, l, r.2.sg, r.2.tp, [PySem.Str.ofString "x", PySem.Str.ofString "Q1"], rfl, SqL.of (tu _ _ upd_same), ar, SqL.of upd_same, M.n1, List.cons_ne_nil _ _, ?_, okr0.sg, okr0.tp, ?_, fun t rr Ht st5 eg ep okr ht => ?_⟩
    · intro s m
      simp only [List.mem_cons, List.not_mem_nil, or_false] at m
      rcases m with rfl | rfl
      · decide +kernel
      · decide +kernel
    · refine ⟨_, rfl, _, rfl, iteNo17 (by rw [decide_eq_true rfl] <;> rfl) ?_⟩
      exact ⟨s5, Rs.le ⟨_, R5⟩ (by omega), _, _, _, _, rfl⟩
    · have RT := R5.mono st5
      refine ⟨_, rfl, _, rfl, ite2 (fun _ => ?_) (fun c => absurd (by rw [decide_eq_false (fun z => nomatch z)] <;> rfl) c)⟩
      have c3 : ¬ (HT.sIx 8 0 none = 0 ∧ HT.sIx 8 8 (some 3) = 8) := by decide
      refine ⟨_, rfl, .inl ⟨rfl, _, SqL.of RT.at_⟩, _, rfl, 3, rfl, r.1, r.2.vs, rfl, .inl (.inl (RT.kept r mr)), c3, fun q3 n3 => ?_⟩
      have t3 := same_new (o := HO.tup (cutV r.2.vs none (some 3))) n3
      have RT3 := RT.mono t3
      refine ⟨_, rfl, q3, t, [.int r.2.st, .str r.2.sg, .str r.2.tp], _, rfl, rfl, .inl (.inl upd_same), .inl (.inl (t3 _ _ ht)), (fun z => nomatch z), show 3 + 5 ≤ sizeLine by decide, (fun z => nomatch z), fun _ w2 nw => ⟨Dn, _, _, rfl, rfl, RT3.look nw, RT3.sz (by omega), ?_⟩⟩
      have RA := RT3.add nDn nw (r := ⟨r.2.st, r.2.sg, r.2.tp, rr.af, rr.mv, rr.de, rr.sy, rr.sa⟩) (mkRl okr0.st okr0.sg okr0.tp okr.af (by rw [← eg]; exact okr.mv) (by rw [← ep]; exact okr.de) okr.sa)
      exact ⟨same_mut (((s5.trans st5).trans t3).trans (same_new nw)) nDn, Rs.le ⟨_, RA⟩ (by omega), _, _, _, _, rfl⟩
end
end Mk

set_option Elab.async false
set_option linter.unusedVariables false
set_option maxRecDepth 100000
set_option maxHeartbeats 8000000
namespace Mk
open PySem L2 Pk
/-! what is counted for the copies -/
def ofSt (o : Int) (B : Kept) : Kept := B.filter fun p => decide (p.2.st = o)
def tot (os : List Int) (B : Kept) : Nat := (os.map fun o => (ofSt o B).length).sum
theorem tot_cons (p : Addr × Rl) (B : Kept) : ∀ os : List Int, tot os (p :: B) = os.count p.2.st + tot os B
  | [] => rfl
  | o :: os => by
    have ih := tot_cons p B os
    have e1 : tot (o :: os) (p :: B) = (ofSt o (p :: B)).length + tot os (p :: B) := rfl
    have e2 : tot (o :: os) B = (ofSt o B).length + tot os B := rfl
    rw [e1, e2, ih, List.count_cons]
    unfold ofSt
    rw [List.filter_cons]
    by_cases c : p.2.st = o
    · rw [if_pos (decide_eq_true c), List.length_cons, if_pos (beq_iff_eq.mpr c.symm)]
      omega
    · rw [if_neg (by rw [decide_eq_false c]; exact Bool.false_ne_true), if_neg (fun z => c (beq_iff_eq.mp z).symm)]
      omega
theorem tot_le {os : List Int} (h : ∀ s, os.count s ≤ 9) : ∀ B : Kept, tot os B ≤ 9 * B.length
  | [] => by
    have z : ∀ os : List Int, tot os [] = 0 := by
      intro os
      induction os with
      | nil => rfl
      | cons o os ih => exact (show tot (o :: os) [] = 0 + tot os [] from rfl).trans (by rw [ih])
    rw [z]
    exact Nat.zero_le _
  | p :: B => by
    have ih := tot_le h B
    have := h p.2.st
    rw [tot_cons, List.length_cons]
    omega
theorem tot_snoc (os : List Int) (o : Int) (B : Kept) : tot (os ++ [o]) B = tot os B + (ofSt o B).length := by
  unfold tot
  rw [List.map_append, List.sum_append]
  simp
theorem tot_take (os : List Int) (i : Nat) (B : Kept) : tot (os.take i) B ≤ tot os B := by
  have e := List.take_append_drop i os
  have : tot os B = tot (os.take i) B + tot (os.drop i) B := by
    conv => lhs; rw [← e]
    unfold tot
    rw [List.map_append, List.sum_append]
  omega
theorem erase_perm : ∀ {l : List Int} {i : Nat} {x : Int}, l[i]? = some x → (x :: l.eraseIdx i).Perm l
  | [], i, x, e => by simp at e
  | y :: l, 0, x, e => by
    simp at e
    subst e
    exact .refl _
  | y :: l, i + 1, x, e => by
    have ih := erase_perm (l := l) (i := i) (x := x) (by simpa using e)
    show (x :: y :: l.eraseIdx i).Perm (y :: l)
    exact (List.Perm.swap y x _).trans (ih.cons y)
theorem erase_kept (B : Kept) (i : Nat) : (refsK B).eraseIdx i = refsK (B.eraseIdx i) := by
  unfold refsK
  induction B generalizing i with
  | nil => rfl
  | cons p B ih =>
    cases i with
    | zero => rfl
    | succ i => exact congrArg (V.ref p.1 :: ·) (ih i)
theorem erase_mem {α : Type} : ∀ {B : List α} {i : Nat} {p : α}, p ∈ B.eraseIdx i → p ∈ B
  | [], i, p, h => by cases h
  | q :: B, 0, p, h => List.mem_cons_of_mem _ h
  | q :: B, i + 1, p, h => by
    rcases List.mem_cons.mp h with e | m
    · rw [e]; exact List.mem_cons_self
    · exact List.mem_cons_of_mem _ (erase_mem m)
theorem erase_len {α : Type} : ∀ {B : List α} {i : Nat}, i < B.length → (B.eraseIdx i).length + 1 = B.length
  | [], i, h => absurd h (Nat.not_lt_zero _)
  | q :: B, 0, h => rfl
  | q :: B, i + 1, h => by
    show ((B.eraseIdx i).length + 1) + 1 = B.length + 1
    rw [erase_len (Nat.lt_of_succ_lt_succ h)]
theorem seq_nat {i n : Nat} (h : i < n) : seqIndex? (i : Int) n = some i := by
  have a : ¬ ((i : Int) < 0) := by omega
  unfold seqIndex?
  simp [a, h]
/-- no state stands more than nine times among the owners -/
theorem owners_count {os ex : List Int} {n : Nat} (h : os.Perm ((0 : Int) :: ((List.range n).map fun (k : Nat) => (1 : Int) + (k : Int)) ++ ex)) (few : ex.length ≤ 8) (s : Int) : os.count s ≤ 9 := by
  rw [h.count_eq]
  have nd : ((0 : Int) :: (List.range n).map fun (k : Nat) => (1 : Int) + (k : Int)).Nodup := by
    refine List.nodup_cons.mpr ⟨fun z => ?_, ?_⟩
    · obtain ⟨k, _, e⟩ := List.mem_map.mp z
      omega
    · unfold List.Nodup
      rw [List.pairwise_map]
      exact List.nodup_range.imp fun ne z => ne (by omega)
  rw [List.count_append]
  have c1 : ((0 : Int) :: (List.range n).map fun (k : Nat) => (1 : Int) + (k : Int)).count s ≤ 1 := List.nodup_iff_count.mp nd s
  have c2 : ex.count s ≤ ex.length := List.count_le_length
  omega
end Mk

set_option Elab.async false
set_option linter.unusedVariables false
set_option maxRecDepth 100000
set_option maxHeartbeats 16000000
namespace Mk
open PySem L2 Pk
abbrev nCopies : List PySem.Str := ["script", "at", "machine", "head", "row", "pool", "k", "owners", "total", "rules", "state", "rule", "mates", "pick", "yes", "odd", "spot", "gone", "other"]
theorem scCopies : FnScope nCopies ["script", "at", "machine"] (defScope sCopies) := ⟨rfl, rfl, rfl, by decide +kernel, rfl, by decide +kernel, by decide +kernel⟩
def copSizes : List Int := [8] ++ (List.replicate 24 [(997 : Int)]).flatten ++ [6, 997]
/-- owners and a model -/
structure Built (H : Hp) (q aO pM aR aY : Addr) (l : PySem.Str) (n : Nat) (os : List Int) (B : Kept) (ys : List Int) : Prop where
  at_ : H q = some (.lst [.ref aO, .ref pM])
  own : H aO = some (.lst (os.map V.int))
  len : os.length = n
  low : ∀ o ∈ os, 0 ≤ o ∧ o < 5
  mdl : Mdl H pM aR aY l (n : Int) B ys
  most : n ≤ 41
  few : B.length ≤ 1900
  fewY : ys.length ≤ 100
theorem RsAt.pop {H1 H' : Hp} {a : Addr} {l : PySem.Str} {n : Int} {m : Nat} {B : Kept} {i : Nat} (R : RsAt H1 H' a l n m B) (na : H1 a = none) (h : i < B.length) :
    RsAt H1 (upd H' a (.lst ((refsK B).eraseIdx i))) a l n (m - 1) (B.eraseIdx i) := by
  refine ⟨same_mut R.same na, ?_, fun p mp => ?_, fun p mp => R.ok p (erase_mem mp), ?_⟩
  · rw [upd_same, erase_kept]
  · have x := R.kept p (erase_mem mp)
    have pa : p.1 ≠ a := fun y => by
      rw [y, R.at_] at x
      cases x
    rw [upd_ne pa]
    exact x
  · have := erase_len (B := B) h
    have := R.few
    omega
theorem saidZ : lowB (PySem.Str.ofString "z") = true ∧ (PySem.Str.ofString "z").length ≤ 3 := by decide +kernel
theorem cut7 (r : Rl) : cutV r.vs none (some 7) = [.int r.st, .str r.sg, .str r.tp, .int r.af, .int r.mv, .str r.de, .str r.sy] := rfl
section
variable {P : Program} {w : World} {K : PySem.W.Frag} {mg : PySem.Str → Option Value} {base : Heap}
/-! _law_copies, its end -/
theorem copies_Z {f : Addr} (T : TM mg) (cdv : Value) (A : Around) (outer : List Env) (s : Shared) (H : Hp) (E : XK) :
    ∃ t : TS, PSs (cxOf CX0 P w K mg base nCopies "_law_copies" (defScope sCopies) f cdv A outer s H E).nox ((defBody sCopies).drop 9) t ∧
      ∀ (D : Ends) (H0 : Hp) (sc p aR aY aD aO aRs : Addr) (head : List Int) (at_ : Nat) (l : PySem.Str) (n : Int) (B : Kept) (ys os : List Int) (n1 : Nat) (e4 e5 e6 e10 e11 e12 e13 e14 e15 e16 e17 e18 : Option V)
        (k : ∀ (q pM aY' : Addr) (B' : Kept) (ys' : List Int) (H' : Hp), Same H0 H' → Built H' q aO pM aRs aY' l n1 os B' ys' → D.rt (.ref q) H') (H1 : Hp),
        Mdl H0 p aR aY l n B ys → H0 aD = some (.lst (head.map V.int)) → Digs copSizes head → H1 aO = some (.lst (os.map V.int)) → os.length = n1 → (∀ o ∈ os, 0 ≤ o ∧ o < 5) → 1 ≤ n1 → n1 ≤ 13 → H0 aRs = none → Rs H0 H1 aRs l (n1 : Int) 1278 →
        t D [some (.ref sc), some (.int (at_ : Int)), some (.ref p), some (.ref aD), e4, e5, e6, some (.ref aO), some (.int (n1 : Int)), some (.ref aRs), e10, e11, e12, e13, e14, e15, e16, e17, e18] H1 := by
  have nd := scCopies.nd
  refine ⟨_, (pss_cons (ps_setLc (i := 14) (own := [("state", 10)]) (g := gName 10) (by rfl) nd rfl rfl (sw_true rfl rfl rfl (by decide +kernel)) (pi_range1 (by rfl) T.range (pa_cons (pv 8) pa_nil)) (blkOk_by (own := [("state", 10)]) (N := nCopies) (sc := defScope sCopies) (by decide +kernel)) (fun _ _ _ _ _ => pg_name (i := 10) nd rfl (Or.inl rfl)) (fun _ _ _ _ _ => pts_one (pt_cmpR (r := rIn K false) op_in_seq (pe_ix (r := rIxL K) ix_list (pv 7) (pv 10) fun _ _ => rfl) (pe_ix (r := rIxL K) ix_list (pv 2) pe_int fun _ _ => rfl) rfl)) (fun _ _ _ _ _ => (pv 10)))
      (pss_cons (ps_set (i := 15) nd rfl (Or.inr rfl) (pe_op op_mod (pe_callTy call_int1 (by rfl) T.int PyProof.Rows.Boot.int (pa_cons (pe_ix ix_list (pv 3) pe_int fun _ _ => rfl) pa_nil)) (pv 8)))
      (C8.pss_cut (ps_if (PW.pt (pw_and (pt_cmpR op_eq (pe_ix ix_list (pv 3) pe_int fun _ _ => rfl) pe_int (nomark _)) (pw_and1 (pt_cmpR op_in_seq (pv 15) (pv 14) rfl))))
        (pss_one (ps_setLc (i := 14) (own := [("state", 10)]) (g := gName 10) (by rfl) nd rfl rfl (sw_true rfl rfl rfl (by decide +kernel)) (pi_list (pv 14)) (blkOk_by (own := [("state", 10)]) (N := nCopies) (sc := defScope sCopies) (by decide +kernel)) (fun _ _ _ _ _ => pg_name (i := 10) nd rfl (Or.inl rfl)) (fun _ _ _ _ _ => pts_one (pt_cmpR op_ne (pv 10) (pv 15) (nomark _))) (fun _ _ _ _ _ => (pv 10))))
        (pss_one (ps_if (pt_cmpR op_eq (pe_ix ix_list (pv 3) pe_int fun _ _ => rfl) pe_int (nomark _))
          (pss_one (ps_set (i := 14) nd rfl (Or.inl rfl) (pe_op op_cat (pv 14) (pe_lst (pa_cons (pv 15) pa_nil)))))
          pss_nil)))
      (C8.pss_cut (ps_if (PW.pt (pw_and (pt_cmpR op_gt (pe_ix ix_list (pv 3) pe_int fun _ _ => rfl) pe_int (nomark _)) (pw_and (pt_cmpR op_lt (pe_ix ix_list (pv 3) pe_int fun _ _ => rfl) pe_int (nomark _)) (pw_and1 (pt_cmpR op_gt (pe_callB call_len_seq (by rfl) T.len PySem.boot_len (pa_cons (pv 9) pa_nil)) pe_int (nomark _))))))
        (pss_cons (ps_set (i := 16) nd rfl (Or.inl rfl) (pe_op op_mod (pe_callTy call_int1 (by rfl) T.int PyProof.Rows.Boot.int (pa_cons (pe_ix ix_list (pv 3) pe_int fun _ _ => rfl) pa_nil)) (pe_callB call_len_seq (by rfl) T.len PySem.boot_len (pa_cons (pv 9) pa_nil))))
        (pss_cons (ps_set (i := 17) nd rfl (Or.inl rfl) (pe_bm PySem.F.plainAttrs_list PySem.F.slot_list_pop PySem.F.type_list_pop mt_popAt (pv 9) (pa_cons (pv 16) pa_nil)))
        (pss_one (ps_if (pt_cmpR op_eq (pe_ix ix_list (pv 3) pe_int fun _ _ => rfl) pe_int (nomark _))
          (pss_one (ps_expr (pe_bm PySem.F.plainAttrs_list PySem.F.slot_list_append PySem.F.type_list_append mt_append (pv 9) (pa_cons (pe_op op_catT (pe_slice sl_tup (pv 17) po_none (po_some pe_int)) (pe_tup (pa_cons pe_str pa_nil))) pa_nil))))
          pss_nil))))
        pss_nil)
      (pss_one (ps_ret (pe_lst (pa_cons (pv 7) (pa_cons (pe_lst (pa_cons (pe_ix ix_list (pv 2) pe_int fun _ _ => rfl) (pa_cons (pv 8) (pa_cons (pv 9) (pa_cons (pv 14) pa_nil))))) pa_nil))))))))), ?_⟩
  intro D H0 sc p aR aY aD aO aRs head at_ l n B ys os n1 e4 e5 e6 e10 e11 e12 e13 e14 e15 e16 e17 e18 k H1 M hD dg hO lO low n1p n13 naR hRs
  obtain ⟨d25, e25, b25⟩ := dig_nat dg 25 6 rfl
  obtain ⟨d26, e26, b26⟩ := dig_nat dg 26 997 rfl
  obtain ⟨B1, R1⟩ := hRs
  have s01 := R1.same
  have M1 := M.mono s01
  have lenO : (os.map V.int).length = os.length := List.length_map ..
  -- yes
  refine ⟨_, rfl, (n1 : Int), rfl, by omega, by omega, fun Dy nDy => lc_range (lo := 0) (n := ((n1 : Nat) : Int).toNat) (fun i H' => Same H1 H' ∧ ∃ zs : List Int, H' Dy = some (.lst (zs.map V.int)) ∧ zs.length ≤ i ∧ ∀ y ∈ zs, 0 ≤ y ∧ y ≤ (n1 : Int) - 1) ⟨same_new nDy, [], upd_same, Nat.zero_le _, fun y m => absurd m List.not_mem_nil⟩ ?_ ?_⟩
  · rintro i H3 hi ⟨s3, zs, hy, lz, okz⟩
    have i' : i < os.length := by omega
    have atO : atI (os.map V.int) (0 + (i : Int)) = some (.int os[i]) := by
      rw [show (0 : Int) + (i : Int) = ((i : Nat) : Int) by omega]
      exact atI_nat (by rw [List.getElem?_map, List.getElem?_eq_getElem i'] <;> rfl)
    have M3 := M1.mono s3
    refine ⟨rfl, ?_⟩
    refine ⟨_, rfl, _, rfl, aO, _, _, .int os[i], rfl, rfl, SqL.of (s3 _ _ hO), atO, _, rfl, p, _, 3, .ref aY, rfl, rfl, SqL.of M3.at_, rfl, aY, _, rfl, .inl (SqL.of M3.yl), rfl, ?_, _, rfl, ?_⟩
    · rw [List.all_map]
      exact List.all_eq_true.mpr fun x m => rfl
    refine ite2 (fun _ => ?_) (fun _ => ⟨s3, zs, hy, by omega, okz⟩)
    refine ⟨_, rfl, _, hy, ?_, same_mut s3 nDy, zs ++ [0 + (i : Int)], ?_, ?_, fun z m => ?_⟩
    · rw [List.length_map]
      exact Nat.lt_of_le_of_lt (show zs.length ≤ 50 by omega) (by decide)
    · rw [upd_same, List.map_append] <;> rfl
    · rw [List.length_append]
      show zs.length + 1 ≤ i + 1
      omega
    · rcases List.mem_append.mp m with m | m
      · exact okz z m
      · rw [List.mem_singleton.mp m]
        omega
  rintro H2 ⟨s2, zs, hy, lz, okz⟩
  have R2 := R1.mono s2
  have s02 := s01.trans s2
  have hO2 := s2 _ _ hO
  have nDy0 : H0 Dy = none := s01.free nDy
  have hD2 := s02 _ _ hD
  have DyN : Dy ≠ aRs := fun z => by
    rw [z, R1.at_] at nDy
    cases nDy
  clear nDy
  -- odd
  refine ⟨_, rfl, aD, _, 26, _, rfl, rfl, SqL.of hD2, at_map (j := 26) e26, .inl ⟨_, rfl, _, rfl, _, _, rfl, rfl, by omega, ?_⟩⟩
  have o0 : 0 ≤ (d26 : Int) % (n1 : Int) ∧ (d26 : Int) % (n1 : Int) ≤ (n1 : Int) - 1 := ⟨Int.emod_nonneg _ (by omega), by have := Int.emod_lt_of_pos (d26 : Int) (show (0 : Int) < (n1 : Int) by omega); omega⟩
  refine ⟨fun σ' H' => ∃ (a : Addr) (zs : List Int), σ' = [some (.ref sc), some (.int (at_ : Int)), some (.ref p), some (.ref aD), e4, e5, e6, some (.ref aO), some (.int (n1 : Int)), some (.ref aRs), e10, e11, e12, e13, some (.ref a), some (.int ((d26 : Int) % (n1 : Int))), e16, e17, e18] ∧ Same H2 H' ∧ H' a = some (.lst (zs.map V.int)) ∧ zs.length ≤ 14 ∧ (∀ y ∈ zs, 0 ≤ y ∧ y ≤ (n1 : Int) - 1) ∧ a ≠ aRs, ?_, ?_⟩
  · have inY : (zs.map V.int).all flatV = true := by
      rw [List.all_map]
      exact List.all_eq_true.mpr fun x m => rfl
    refine ⟨_, rfl, aD, _, 25, _, rfl, rfl, SqL.of hD2, at_map (j := 25) e25, rfl, _, rfl, ite2 (fun _ => ⟨_, rfl, _, rfl, Dy, _, rfl, .inl (SqL.of hy), rfl, inY, _, rfl, ite2 (fun _ => ?_) (fun _ => ?_)⟩) (fun _ => ?_)⟩
    · refine ⟨_, rfl, Dy, rfl, ⟨_, SqL.of hy⟩, fun Dn nDn => ?_⟩
      have DnN : Dn ≠ aRs := fun z => by
        rw [z, R2.at_] at nDn
        cases nDn
      refine lc_list (K := K) (a := Dy) (xs := zs.map V.int) (fun i' H' => Same H2 H' ∧ ∃ us : List Int, H' Dn = some (.lst (us.map V.int)) ∧ (∀ y ∈ us, y ∈ zs) ∧ us.length ≤ i') ⟨same_new nDn, [], upd_same, fun p m => absurd m List.not_mem_nil, Nat.zero_le _⟩ (fun i' H' _ h => SqL.of (h.1 _ _ hy)) ?_ ?_
      · rintro i' v H6 hi' ⟨s6, us, hu, sub, lu⟩
        rw [List.getElem?_map] at hi'
        obtain ⟨y, ey, rfl⟩ := Option.map_eq_some_iff.mp hi'
        have li : i' < zs.length := (List.getElem?_eq_some_iff.mp ey).1
        refine ⟨rfl, ?_⟩
        refine ⟨_, rfl, _, rfl, rfl, _, rfl, ite2 (fun _ => ?_) (fun _ => ⟨s6, us, hu, sub, by omega⟩)⟩
        refine ⟨_, rfl, _, hu, ?_, same_mut s6 nDn, us ++ [y], ?_, fun z m => ?_, ?_⟩
        · rw [List.length_map]
          exact Nat.lt_of_le_of_lt (show us.length ≤ 1000 by omega) (by decide)
        · rw [upd_same, List.map_append] <;> rfl
        · rcases List.mem_append.mp m with m | m
          · exact sub z m
          · rw [List.mem_singleton.mp m]; exact List.mem_of_getElem? ey
        · rw [List.length_append]
          show us.length + 1 ≤ i' + 1
          omega
      rintro H6 ⟨s6, us, hu, sub, lu⟩
      have lZ : (zs.map V.int).length = zs.length := List.length_map ..
      exact ⟨Dn, us, rfl, s6, hu, by omega, fun y m => okz y (sub y m), DnN⟩
    all_goals
      refine ⟨_, rfl, aD, _, 25, _, rfl, rfl, SqL.of hD2, at_map (j := 25) e25, rfl, _, rfl, ite2 (fun _ => ?_) (fun _ => ⟨Dy, zs, rfl, Same.refl _, hy, by omega, okz, DyN⟩)⟩
      refine ⟨_, rfl, _, rfl, show 1 ≤ sizeLine by decide, fun u nu => ⟨Dy, u, _, _, rfl, rfl, same_new nu _ _ hy, upd_same, ?_, fun v nv => ⟨v, zs ++ [(d26 : Int) % (n1 : Int)], rfl, (same_new nu).trans (same_new nv), ?_, ?_, ?_, fun z => by
        rw [z, (same_new nu) _ _ R2.at_] at nv
        cases nv⟩⟩⟩
      · rw [List.length_map]
        exact Nat.le_trans (show zs.length + 1 ≤ 50 by omega) (by decide)
      · rw [upd_same, List.map_append] <;> rfl
      · rw [List.length_append]
        show zs.length + 1 ≤ 14
        omega
      · intro y m
        rcases List.mem_append.mp m with m | m
        · exact okz y m
        · rw [List.mem_singleton.mp m]; exact o0
  generalize (d26 : Int) % (n1 : Int) = odd at o0 ⊢
  rintro _ H3 ⟨aZ, us, rfl, s3, hu, lu, oku, aZn⟩
  have R3 := R2.mono s3
  have hD3 := s3 _ _ hD2
  have hO3 := s3 _ _ hO2
  have lR : (refsK B1).length = B1.length := List.length_map ..
  have few := R3.few
  have naZ : H0 aZ = none ∨ True := .inr trivial
  clear hy hD2 hO2 R2 R1 nDy0 hO s01 s2 zs lz okz M1 naZ
  refine ⟨fun σ' H' => ∃ (B' : Kept) (e16 e17 : Option V), σ' = [some (.ref sc), some (.int (at_ : Int)), some (.ref p), some (.ref aD), e4, e5, e6, some (.ref aO), some (.int (n1 : Int)), some (.ref aRs), e10, e11, e12, e13, some (.ref aZ), some (.int odd), e16, e17, e18] ∧ Same H0 H' ∧ RsAt H0 H' aRs l (n1 : Int) 1300 B' ∧ (∀ b o, b ≠ aRs → H3 b = some o → H' b = some o), ?_, ?_⟩
  · have stay : ∃ (B' : Kept) (v16 v17 : Option V), [some (.ref sc), some (.int (at_ : Int)), some (.ref p), some (.ref aD), e4, e5, e6, some (.ref aO), some (.int (n1 : Int)), some (.ref aRs), e10, e11, e12, e13, some (.ref aZ), some (.int odd), e16, e17, e18] = [some (.ref sc), some (.int (at_ : Int)), some (.ref p), some (.ref aD), e4, e5, e6, some (.ref aO), some (.int (n1 : Int)), some (.ref aRs), e10, e11, e12, e13, some (.ref aZ), some (.int odd), v16, v17, e18] ∧ Same H0 H3 ∧ RsAt H0 H3 aRs l (n1 : Int) 1300 B' ∧ (∀ b o, b ≠ aRs → H3 b = some o → H3 b = some o) :=
      ⟨B1, _, _, rfl, R3.same, ⟨R3.same, R3.at_, R3.kept, R3.ok, by omega⟩, fun b o _ e => e⟩
    refine ⟨_, rfl, aD, _, 25, _, rfl, rfl, SqL.of hD3, at_map (j := 25) e25, _, _, rfl, rfl, _, rfl, ite2 (fun _ => ?_) (fun _ => stay)⟩
    refine ⟨_, rfl, aD, _, 25, _, rfl, rfl, SqL.of hD3, at_map (j := 25) e25, _, _, rfl, rfl, _, rfl, ite2 (fun _ => ?_) (fun _ => stay)⟩
    refine ⟨_, rfl, aRs, _, rfl, .inl (SqL.of R3.at_), _, _, rfl, rfl, _, rfl, ite2 (fun c => ?_) (fun _ => stay)⟩
    have pos : (0 : Int) < (((refsK B1).length : Nat) : Int) := of_decide_eq_true c
    refine ⟨_, rfl, aD, _, 26, _, rfl, rfl, SqL.of hD3, at_map (j := 26) e26, .inl ⟨_, rfl, _, rfl, aRs, _, rfl, .inl (SqL.of R3.at_), _, _, rfl, rfl, pos, ?_⟩⟩
    have ei : (d26 : Int) % (((refsK B1).length : Nat) : Int) = ((d26 % B1.length : Nat) : Int) := by
      rw [lR, Int.natCast_emod]
    have li : d26 % B1.length < B1.length := Nat.mod_lt _ (by omega)
    generalize d26 % B1.length = i at li ei
    obtain ⟨r, er⟩ : ∃ r, B1[i]? = some r := ⟨_, List.getElem?_eq_getElem li⟩
    have mr := List.mem_of_getElem? er
    have okr := R3.ok r mr
    have hr3 := R3.kept r mr
    have rne : r.1 ≠ aRs := fun y => by
      rw [y, R3.at_] at hr3
      cases hr3
    have Rp := R3.pop naR li
    have kp : ∀ b o, b ≠ aRs → H3 b = some o → (upd H3 aRs (.lst ((refsK B1).eraseIdx i))) b = some o := fun b o nb e => by rw [upd_ne nb]; exact e
    refine ⟨_, rfl, .inl ⟨rfl, _, SqL.of R3.at_⟩, _, rfl, aRs, _, (i : Int), i, .ref r.1, rfl, congrArg (fun z => [V.int z]) ei, R3.at_, by omega, by omega, seq_nat (by omega), by unfold refsK; rw [List.getElem?_map, er] <;> rfl, ?_⟩
    have aDn : aD ≠ aRs := fun z => by
      rw [z, naR] at hD
      cases hD
    have hDp := kp _ _ aDn hD3
    have hrp := kp _ _ rne hr3
    refine ⟨_, rfl, aD, _, 25, _, rfl, rfl, SqL.of hDp, at_map (j := 25) e25, rfl, _, rfl, ite2 (fun _ => ?_) (fun _ => ⟨B1.eraseIdx i, _, _, rfl, Rp.same, ⟨Rp.same, Rp.at_, Rp.kept, Rp.ok, by have := Rp.few; omega⟩, kp⟩)⟩
    have c7 : ¬ (HT.sIx 8 0 none = 0 ∧ HT.sIx 8 8 (some 7) = 8) := by decide
    refine ⟨_, rfl, .inl ⟨rfl, _, SqL.of Rp.at_⟩, _, rfl, 7, rfl, r.1, r.2.vs, rfl, .inl (.inl hrp), c7, fun q3 n3 => ⟨show 1 ≤ sizeLine by decide, fun u nu => ?_⟩⟩
    rw [cut7] at nu ⊢
    have t3 := same_new (o := HO.tup [V.int r.2.st, V.str r.2.sg, V.str r.2.tp, V.int r.2.af, V.int r.2.mv, V.str r.2.de, V.str r.2.sy]) n3
    have tu := same_new (o := HO.tup [V.str (PySem.Str.ofString "z")]) nu
    have RT := (Rp.mono t3).mono tu
    refine ⟨q3, u, _, [V.str (PySem.Str.ofString "z")], rfl, rfl, .inl (.inl (tu _ _ upd_same)), .inl (.inl upd_same), (fun z => nomatch z), show 7 + 1 ≤ sizeLine by decide, (fun z => nomatch z), fun _ w2 nw => ⟨aRs, _, _, rfl, rfl, RT.look nw, RT.sz (by omega), ?_⟩⟩
    have RA := RT.add naR nw (r := { r.2 with sa := PySem.Str.ofString "z" }) { okr with sa := saidZ }
    exact ⟨_, _, _, rfl, RA.same, ⟨RA.same, RA.at_, RA.kept, RA.ok, by have := RA.few; omega⟩, fun b o nb e => by rw [upd_ne nb]; exact same_new nw _ _ (tu _ _ (t3 _ _ (kp b o nb e)))⟩
  rintro _ H4 ⟨B', e16, e17, rfl, s4, R4, kp⟩
  have M4 := M.mono s4
  have few4 := R4.few
  have aOn : aO ≠ aRs := fun z => by
    rw [z, R3.at_] at hO3
    have z2 := HO.lst.inj (Option.some.inj hO3)
    cases B1 with
    | nil =>
      have z3 := congrArg List.length z2
      rw [List.length_map] at z3
      have z4 : (0 : Nat) = os.length := z3
      omega
    | cons x xs =>
      cases os with
      | nil => cases z2
      | cons o os => cases (List.cons.inj z2).1
  refine ⟨_, rfl, _, rfl, p, _, 0, .str l, rfl, rfl, SqL.of M4.at_, rfl, _, rfl, _, rfl, _, rfl, show 4 ≤ sizeLine by decide, fun pM nM => ⟨show 2 ≤ sizeLine by decide, fun q nq => ?_⟩⟩
  have tM := same_new (o := HO.lst [V.str l, V.int (n1 : Int), V.ref aRs, V.ref aZ]) nM
  have tq := same_new (o := HO.lst [V.ref aO, V.ref pM]) nq
  have R5 := (R4.mono tM).mono tq
  exact k q pM aZ B' us _ R5.same ⟨upd_same, tq _ _ (tM _ _ (kp _ _ aOn hO3)), lO, low, ⟨tq _ _ upd_same, M.al, M.l3, by omega, R5.at_, R5.kept, R5.ok, tq _ _ (tM _ _ (kp _ _ aZn hu)), oku⟩, by omega, by omega, by omega⟩
end
end Mk

set_option Elab.async false
set_option linter.unusedVariables false
set_option maxRecDepth 100000
set_option maxHeartbeats 16000000
namespace Mk
open PySem L2 Pk
theorem of_snoc (o : Int) (B : Kept) (p : Addr × Rl) : (ofSt o (B ++ [p])).length = (ofSt o B).length + (if p.2.st = o then 1 else 0) := by
  unfold ofSt
  rw [List.filter_append, List.length_append]
  by_cases c : p.2.st = o
  · rw [if_pos c, List.filter_cons, if_pos (decide_eq_true c)]; rfl
  · rw [if_neg c, List.filter_cons, if_neg (by rw [decide_eq_false c]; exact Bool.false_ne_true)]; rfl
section
variable {P : Program} {w : World} {K : PySem.W.Frag} {mg : PySem.Str → Option Value} {base : Heap}
/-! _law_copies, the rules of the copies -/
theorem copies_Y {f : Addr} (T : TM mg) (cdv : Value) (A : Around) (outer : List Env) (s : Shared) (H : Hp) (E : XK) :
    ∃ t : TS, PSs (cxOf CX0 P w K mg base nCopies "_law_copies" (defScope sCopies) f cdv A outer s H E).nox ((defBody sCopies).drop 6) t ∧
      ∀ (D : Ends) (H1 : Hp) (sc p aR aY aD aRow aO : Addr) (head row : List Int) (at_ : Nat) (l : PySem.Str) (n : Int) (B : Kept) (ys os : List Int) (e5 e6 e8 e9 e10 e11 e12 e13 e14 e15 e16 e17 e18 : Option V)
        (k : ∀ (q pM aR' aY' : Addr) (B' : Kept) (ys' : List Int) (H' : Hp), Same H1 H' → Built H' q aO pM aR' aY' l os.length os B' ys' → D.rt (.ref q) H'),
        Mdl H1 p aR aY l n B ys → B.length ≤ 71 → H1 aD = some (.lst (head.map V.int)) → Digs copSizes head → H1 aRow = some (.lst (row.map V.int)) → Digs (List.replicate 40 997) row → H1 aO = some (.lst (os.map V.int)) → (∀ o ∈ os, 0 ≤ o ∧ o < 5) → 1 ≤ os.length → os.length ≤ 13 →
        (∀ s : Int, 0 ≤ s → s ≤ n - 1 → s ∈ os) → (∀ s : Int, os.count s ≤ 9) →
        t D [some (.ref sc), some (.int (at_ : Int)), some (.ref p), some (.ref aD), some (.ref aRow), e5, e6, some (.ref aO), e8, e9, e10, e11, e12, e13, e14, e15, e16, e17, e18] H1 := by
  have nd := scCopies.nd
  obtain ⟨tZ, hZ, kZ⟩ := copies_Z (P := P) (w := w) (K := K) (base := base) (f := f) T cdv A outer s H E
  refine ⟨_, (pss_cons (ps_set (i := 8) nd rfl (Or.inl rfl) (pe_callB call_len_seq (by rfl) T.len PySem.boot_len (pa_cons (pv 7) pa_nil)))
      (pss_cons (ps_set (i := 9) nd rfl (Or.inl rfl) (pe_lst pa_nil))
      (pss_cons (ps_for PassesOwn.never rfl (pi_range1 (by rfl) T.range (pa_cons (pv 8) pa_nil)) (pg_name (i := 10) nd rfl (Or.inl rfl))
        (pss_one (ps_for PassesOwn.never rfl (pi_list (pe_ix ix_list (pv 2) pe_int fun _ _ => rfl)) (pg_name (i := 11) nd rfl (Or.inr rfl))
          (pss_one (ps_if (pt_cmpR op_eq (pe_ix ix_tup (pv 11) pe_int fun _ _ => rfl) (pe_ix ix_list (pv 7) (pv 10) fun _ _ => rfl) (nomark _))
            (pss_cons (ps_setLc (i := 12) (own := [("other", 18)]) (g := gName 18) (by rfl) nd rfl rfl (sw_true rfl rfl rfl (by decide +kernel)) (pi_range1 (by rfl) T.range (pa_cons (pv 8) pa_nil)) (blkOk_by (own := [("other", 18)]) (N := nCopies) (sc := defScope sCopies) (by decide +kernel)) (fun _ _ _ _ _ => pg_name (i := 18) nd rfl (Or.inl rfl)) (fun _ _ _ _ _ => pts_one (pt_cmpR op_eq (pe_ix (r := rIxL K) ix_list (pv 7) (pv 18) fun _ _ => rfl) (pe_ix (r := rIxT K) ix_tup (pv 11) pe_int fun _ _ => rfl) (nomark _))) (fun _ _ _ _ _ => (pv 18)))
            (pss_cons (ps_set (i := 13) nd rfl (Or.inl rfl) (pe_op op_add (pe_callTy call_int1 (by rfl) T.int PyProof.Rows.Boot.int (pa_cons (pe_ix ix_list (pv 4) (pe_op op_mod (pe_callB call_len_seq (by rfl) T.len PySem.boot_len (pa_cons (pv 9) pa_nil)) pe_int) fun _ _ => rfl) pa_nil)) (pe_op op_fdiv (pe_callB call_len_seq (by rfl) T.len PySem.boot_len (pa_cons (pv 9) pa_nil)) pe_int)))
            (pss_cons (ps_expr (pe_bm PySem.F.plainAttrs_list PySem.F.slot_list_append PySem.F.type_list_append mt_append (pv 9) (pa_cons (pe_op op_catT (pe_op op_catT (pe_op op_catT (pe_tup (pa_cons (pv 10) pa_nil)) (pe_slice sl_tup (pv 11) (po_some pe_int) (po_some pe_int))) (pe_tup (pa_cons (pe_ix ix_list (pv 12) (pe_op op_mod (pv 13) (pe_callB call_len_seq (by rfl) T.len PySem.boot_len (pa_cons (pv 12) pa_nil))) fun _ _ => rfl) pa_nil))) (pe_slice sl_tup (pv 11) (po_some pe_int) po_none)) pa_nil)))
            (pss_one (ps_if (PW.pt (pw_and (pt_cmpR op_eq (pe_ix ix_list (pv 3) pe_int fun _ _ => rfl) pe_int (nomark _)) (pw_and1 (pt_cmpR op_eq (pe_op op_mod (pv 13) pe_int) pe_int (nomark _)))))
              (pss_one (ps_expr (pe_bm PySem.F.plainAttrs_list PySem.F.slot_list_append PySem.F.type_list_append mt_append (pv 9) (pa_cons (pe_op op_catT (pe_op op_catT (pe_op op_catT (pe_tup (pa_cons (pv 10) pa_nil)) (pe_slice sl_tup (pv 11) (po_some pe_int) (po_some pe_int))) (pe_tup (pa_cons (pe_ix ix_list (pv 12) (pe_op op_mod (pe_callTy call_int1 (by rfl) T.int PyProof.Rows.Boot.int (pa_cons (pe_op op_add (pv 13) pe_int) pa_nil)) (pe_callB call_len_seq (by rfl) T.len PySem.boot_len (pa_cons (pv 12) pa_nil))) fun _ _ => rfl) pa_nil))) (pe_slice sl_tup (pv 11) (po_some pe_int) po_none)) pa_nil))))
              pss_nil)))))
            pss_nil)))))
      hZ))), ?_⟩
  intro D H1 sc p aR aY aD aRow aO head row at_ l n B ys os e5 e6 e8 e9 e10 e11 e12 e13 e14 e15 e16 e17 e18 k M few hD dg hRow dgR hO low pos n13 all cnt9
  obtain ⟨d25, e25, b25⟩ := dig_nat dg 25 6 rfl
  have lenO : (os.map V.int).length = os.length := List.length_map ..
  have T9 := tot_le cnt9 B
  have c13 : ¬ (HT.sIx 8 0 (some 1) = 0 ∧ HT.sIx 8 8 (some 3) = 8) := by decide
  have c4 : ¬ (HT.sIx 8 0 (some 4) = 0 ∧ HT.sIx 8 8 none = 8) := by decide
  refine ⟨_, rfl, aO, _, rfl, .inl (SqL.of hO), ?_⟩
  rw [lenO]
  refine ⟨Nat.zero_le _, fun aRs naR => ?_⟩
  have t0 := same_new (o := HO.lst []) naR
  have R0 : Rs H1 (upd H1 aRs (.lst [])) aRs l (os.length : Int) 0 := ⟨[], t0, upd_same, fun p m => absurd m List.not_mem_nil, fun p m => absurd m List.not_mem_nil, Nat.zero_le _⟩
  refine ⟨_, rfl, (os.length : Int), rfl, by omega, by omega, for_range (lo := 0) (n := ((os.length : Nat) : Int).toNat) (fun i σ H' => Rs H1 H' aRs l (os.length : Int) (2 * tot (os.take i) B) ∧ ∃ (v10 v11 v12 v13 : Option V), σ = [some (.ref sc), some (.int (at_ : Int)), some (.ref p), some (.ref aD), some (.ref aRow), e5, e6, some (.ref aO), some (.int (os.length : Int)), some (.ref aRs), v10, v11, v12, v13, e14, e15, e16, e17, e18])
    ⟨R0.le (Nat.zero_le _), _, _, _, _, rfl⟩ ?_ ?_⟩
  rotate_left
  · rintro σ H2 ⟨R, v10, v11, v12, v13, rfl⟩
    have z := tot_take os ((os.length : Nat) : Int).toNat B
    refine kZ D H1 sc p aR aY aD aO aRs head at_ l n B ys os os.length _ _ _ _ _ _ _ _ _ _ _ _ (fun q pM aY' B' ys' H' s' b => k q pM aRs aY' B' ys' H' s' b) H2 M hD dg (R.same _ _ hO) rfl low pos n13 naR (R.le (by omega))
  rintro i σ H2 hi ⟨R2, v10, v11, v12, v13, rfl⟩
  have i' : i < os.length := by omega
  obtain ⟨o, eo⟩ : ∃ o, os[i]? = some o := ⟨_, List.getElem?_eq_getElem i'⟩
  have atO : atI (os.map V.int) (0 + (i : Int)) = some (.int o) := by
    rw [show (0 : Int) + (i : Int) = ((i : Nat) : Int) by omega]
    exact atI_nat (by rw [List.getElem?_map, eo] <;> rfl)
  have M2 := M.mono R2.same
  have tS := tot_take os (i + 1) B
  rw [take_at eo, tot_snoc] at tS
  refine ⟨_, rfl, p, _, 2, .ref aR, rfl, rfl, SqL.of M2.at_, rfl, aR, rfl, ⟨_, SqL.of M2.rs⟩, for_list (K := K) (a := aR) (xs := refsK B) (fun j σ H' => Rs H1 H' aRs l (os.length : Int) (2 * tot (os.take i) B + 2 * (ofSt o (B.take j)).length) ∧ ∃ (v11 v12 v13 : Option V), σ = [some (.ref sc), some (.int (at_ : Int)), some (.ref p), some (.ref aD), some (.ref aRow), e5, e6, some (.ref aO), some (.int (os.length : Int)), some (.ref aRs), some (.int (0 + (i : Int))), v11, v12, v13, e14, e15, e16, e17, e18])
    ⟨R2.le (Nat.le_add_right _ _), _, _, _, rfl⟩ (fun j σ H' _ h => SqL.of (h.1.same _ _ M.rs)) ?_ ?_⟩
  rotate_left
  · rintro σ H3 ⟨R3, v11, v12, v13, rfl⟩
    have lB : (refsK B).length = B.length := List.length_map ..
    refine ⟨?_, _, _, _, _, rfl⟩
    rw [take_at eo, tot_snoc]
    rw [lB, List.take_of_length_le (Nat.le_refl _)] at R3
    exact R3.le (by omega)
  rintro j v σ H3 hj ⟨⟨B3, R3⟩, v11, v12, v13, rfl⟩
  obtain ⟨r, er, rfl⟩ := at_refs hj
  have mr := List.mem_of_getElem? er
  have okr := M.ok r mr
  have s13 := R3.same
  have hr3 := s13 _ _ (M.kept r mr)
  have hO3 := s13 _ _ hO
  have oS := of_snoc o (B.take j) r
  rw [← take_at er] at oS
  have oL : (ofSt o (B.take (j + 1))).length ≤ (ofSt o B).length := by
    unfold ofSt
    exact (List.Sublist.filter _ (List.take_sublist _ _)).length_le
  refine ⟨_, rfl, r.1, r.2.vs, 0, .int r.2.st, rfl, rfl, .inl (.inl hr3), vs_st r.2, _, rfl, _, rfl, aO, _, _, .int o, rfl, rfl, SqL.of hO3, atO, rfl, _, rfl, ite2 (fun c => ?_) (fun _ => ⟨Rs.le ⟨_, R3⟩ (by omega), _, _, _, rfl⟩)⟩
  have ec : r.2.st = o := V.int.inj (of_decide_eq_true c)
  rw [if_pos ec] at oS
  -- mates
  refine ⟨_, rfl, (os.length : Int), rfl, by omega, by omega, fun Dm nDm => lc_range (lo := 0) (n := ((os.length : Nat) : Int).toNat) (fun q H' => Same H3 H' ∧ ∃ ms : List Int, H' Dm = some (.lst (ms.map V.int)) ∧ ms.length ≤ q ∧ (∀ y ∈ ms, 0 ≤ y ∧ y ≤ (os.length : Int) - 1) ∧ (ms ≠ [] ∨ ∀ z < q, os[z]? ≠ some r.2.af)) ⟨same_new nDm, [], upd_same, Nat.zero_le _, fun y m => absurd m List.not_mem_nil, .inr fun z h => absurd h (Nat.not_lt_zero _)⟩ ?_ ?_⟩
  · rintro q H4 hq ⟨s4, ms, hm, lm, okm, why⟩
    have q' : q < os.length := by omega
    obtain ⟨oq, eq⟩ : ∃ o, os[q]? = some o := ⟨_, List.getElem?_eq_getElem q'⟩
    have atQ : atI (os.map V.int) (0 + (q : Int)) = some (.int oq) := by
      rw [show (0 : Int) + (q : Int) = ((q : Nat) : Int) by omega]
      exact atI_nat (by rw [List.getElem?_map, eq] <;> rfl)
    refine ⟨rfl, ?_⟩
    refine ⟨_, rfl, _, rfl, aO, _, _, .int oq, rfl, rfl, SqL.of (s4 _ _ hO3), atQ, _, rfl, r.1, r.2.vs, 3, .int r.2.af, rfl, rfl, .inl (.inl (s4 _ _ hr3)), vs_af r.2, rfl, _, rfl, ite2 (fun _ => ?_) (fun cn => ?_)⟩
    · refine ⟨_, rfl, _, hm, ?_, same_mut s4 nDm, ms ++ [0 + (q : Int)], ?_, ?_, fun z m => ?_, .inl (by simp)⟩
      · rw [List.length_map]
        exact Nat.lt_of_le_of_lt (show ms.length ≤ 50 by omega) (by decide)
      · rw [upd_same, List.map_append] <;> rfl
      · rw [List.length_append]
        show ms.length + 1 ≤ q + 1
        omega
      · rcases List.mem_append.mp m with m | m
        · exact okm z m
        · rw [List.mem_singleton.mp m]
          omega
    · refine ⟨s4, ms, hm, by omega, okm, why.imp id fun h z lz e => ?_⟩
      by_cases ez : z = q
      · rw [ez, eq] at e
        exact cn (decide_eq_true (by rw [Option.some.inj e]))
      · exact h z (by omega) e
  rintro H4 ⟨s4, ms, hm, lm, okm, why⟩
  have nem : ms ≠ [] := by
    rcases why with h | h
    · exact h
    · obtain ⟨z, lz, ez⟩ := List.mem_iff_getElem?.mp (all r.2.af okr.af.1 okr.af.2) |>.elim fun z ez => (⟨z, (List.getElem?_eq_some_iff.mp ez).1, ez⟩ : ∃ z, z < os.length ∧ os[z]? = some r.2.af)
      exact absurd ez (h z (by omega))
  have pm : 0 < ms.length := List.length_pos_iff.mpr nem
  have lM : (ms.map V.int).length = ms.length := List.length_map ..
  have posm : (0 : Int) < (((ms.map V.int).length : Nat) : Int) := by rw [lM]; omega
  have pick : ∀ z : Int, ∃ mt, mt ∈ ms ∧ atI (ms.map V.int) (z % (((ms.map V.int).length : Nat) : Int)) = some (.int mt) := fun z => by
    have h0 := Int.emod_nonneg z (show (((ms.map V.int).length : Nat) : Int) ≠ 0 by omega)
    have h1 := Int.emod_lt_of_pos z posm
    obtain ⟨g, eg⟩ : ∃ g : Nat, z % (((ms.map V.int).length : Nat) : Int) = (g : Int) := ⟨_, (Int.toNat_of_nonneg h0).symm⟩
    rw [eg] at h1 ⊢
    obtain ⟨mt, et⟩ : ∃ mt, ms[g]? = some mt := ⟨_, List.getElem?_eq_getElem (by omega)⟩
    exact ⟨mt, List.mem_of_getElem? et, atI_nat (by rw [List.getElem?_map, et] <;> rfl)⟩
  have R4 := R3.mono s4
  have hr4 := s4 _ _ hr3
  have lR : (refsK B3).length = B3.length := List.length_map ..
  have hRow4 := (s13.trans s4) _ _ hRow
  have hD4 := (s13.trans s4) _ _ hD
  -- pick
  obtain ⟨dr, edr, _⟩ := dig_nat dgR (B3.length % 40) 997 (by
    rw [List.getElem?_replicate, if_pos (Nat.mod_lt _ (by decide))])
  have ei : (((refsK B3).length : Nat) : Int) % 40 = ((B3.length % 40 : Nat) : Int) := by rw [lR, Int.natCast_emod] <;> rfl
  refine ⟨_, rfl, _, rfl, aRs, _, rfl, .inl (SqL.of R4.at_), _, _, rfl, rfl, show (0 : Int) < 40 by decide, aRow, _, _, .int (dr : Int), rfl, rfl, SqL.of hRow4, by rw [ei]; exact at_map edr, .inl ⟨_, rfl, _, rfl, aRs, _, rfl, .inl (SqL.of R4.at_), _, _, rfl, rfl, ⟨by decide, by decide⟩, _, _, rfl, rfl, ?_⟩⟩
  have c25 := at_map (j := 25) e25
  have few3 := R3.few
  have s14 := s13.trans s4
  have hS2 : ∀ {mt : Int} {Hx : Hp} {B4 : Kept}, True := fun {_ _ _} => trivial
  obtain ⟨mt, mmt, et⟩ := pick ((dr : Int) + (((refsK B3).length : Nat) : Int) / 40)
  obtain ⟨mt2, mmt2, et2⟩ := pick ((dr : Int) + (((refsK B3).length : Nat) : Int) / 40 + 1)
  refine ⟨_, rfl, .inl ⟨rfl, _, SqL.of R4.at_⟩, _, rfl, show 1 ≤ sizeLine by decide, fun u1a nu1a => ?_⟩
  have t1a := same_new (o := HO.tup [V.int (0 + (i : Int))]) nu1a
  refine ⟨_, rfl, 1, rfl, 3, rfl, r.1, r.2.vs, rfl, .inl (.inl (t1a _ _ hr4)), c13, fun q2a n2a => ?_⟩
  have t2a := same_new (o := HO.tup [V.str r.2.sg, V.str r.2.tp]) n2a
  refine ⟨u1a, q2a, [V.int (0 + (i : Int))], [V.str r.2.sg, V.str r.2.tp], rfl, rfl, .inl (.inl (t2a _ _ upd_same)), .inl (.inl upd_same), (fun z => nomatch z), show 1 + 2 ≤ sizeLine by decide, (fun z => nomatch z), fun _ w1a nw1a => ?_⟩
  have t3a := same_new (o := HO.tup [V.int (0 + (i : Int)), V.str r.2.sg, V.str r.2.tp]) nw1a
  have s13a := (t1a.trans t2a).trans t3a
  refine ⟨_, rfl, _, rfl, _, rfl, Dm, _, rfl, .inl (SqL.of (s13a _ _ hm)), _, _, rfl, rfl, posm, Dm, _, _, .int mt, rfl, rfl, SqL.of (s13a _ _ hm), et, show 1 ≤ sizeLine by decide, fun u4a nu4a => ?_⟩
  have t4a := same_new (o := HO.tup [V.int mt]) nu4a
  refine ⟨w1a, u4a, [V.int (0 + (i : Int)), V.str r.2.sg, V.str r.2.tp], [V.int mt], rfl, rfl, .inl (.inl (t4a _ _ upd_same)), .inl (.inl upd_same), (fun z => nomatch z), show 3 + 1 ≤ sizeLine by decide, (fun z => nomatch z), fun _ w5a nw5a => ?_⟩
  have t5a := same_new (o := HO.tup [V.int (0 + (i : Int)), V.str r.2.sg, V.str r.2.tp, V.int mt]) nw5a
  have s15a := (s13a.trans t4a).trans t5a
  refine ⟨_, rfl, 4, rfl, r.1, r.2.vs, rfl, .inl (.inl (s15a _ _ hr4)), c4, fun q6a n6a => ?_⟩
  have t6a := same_new (o := HO.tup [V.int r.2.mv, V.str r.2.de, V.str r.2.sy, V.str r.2.sa]) n6a
  have RX6a := R4.mono (s15a.trans t6a)
  refine ⟨w5a, q6a, [V.int (0 + (i : Int)), V.str r.2.sg, V.str r.2.tp, V.int mt], [V.int r.2.mv, V.str r.2.de, V.str r.2.sy, V.str r.2.sa], rfl, rfl, .inl (.inl (t6a _ _ upd_same)), .inl (.inl upd_same), (fun z => nomatch z), show 4 + 4 ≤ sizeLine by decide, (fun z => nomatch z), fun _ w7a nw7a => ⟨aRs, _, _, rfl, rfl, RX6a.look nw7a, RX6a.sz (by omega), ?_⟩⟩
  have RAa := RX6a.add naR nw7a (r := ⟨0 + (i : Int), r.2.sg, r.2.tp, mt, r.2.mv, r.2.de, r.2.sy, r.2.sa⟩) (mkRl (by omega) okr.sg okr.tp (okm _ mmt) okr.mv okr.de okr.sa)
  have RA4 := RAa
  have hmA : ∀ {Hx : Hp} {o : HO}, Same H4 Hx → (upd Hx aRs o) Dm = some (.lst (ms.map V.int)) := fun {Hx o} sx => by
    have dne : Dm ≠ aRs := fun z => by
      rw [z, R3.at_] at nDm
      cases nDm
    rw [upd_ne dne]
    exact sx _ _ hm
  have hmB := hmA (o := HO.lst (refsK B3 ++ [V.ref w7a])) (((s15a.trans t6a)).trans (same_new (o := HO.tup (⟨0 + (i : Int), r.2.sg, r.2.tp, mt, r.2.mv, r.2.de, r.2.sy, r.2.sa⟩ : Rl).vs) nw7a))
  have rne : r.1 ≠ aRs := fun z => by
    rw [z, R4.at_] at hr4
    cases hr4
  have hrB : (upd (upd _ w7a (.tup (⟨0 + (i : Int), r.2.sg, r.2.tp, mt, r.2.mv, r.2.de, r.2.sy, r.2.sa⟩ : Rl).vs)) aRs (.lst (refsK B3 ++ [V.ref w7a]))) r.1 = some (.tup r.2.vs) := RA4.same _ _ (M.kept r mr)
  have hDB := RA4.same _ _ hD
  refine ⟨_, rfl, aD, _, 25, _, rfl, rfl, SqL.of hDB, c25, rfl, _, rfl, ite2 (fun _ => ?_) (fun _ => ⟨Rs.le ⟨_, RA4⟩ (by omega), _, _, _, rfl⟩)⟩
  refine ⟨_, rfl, _, _, rfl, rfl, show (0 : Int) < 5 by decide, rfl, _, rfl, ite2 (fun _ => ?_) (fun _ => ⟨Rs.le ⟨_, RA4⟩ (by omega), _, _, _, rfl⟩)⟩
  refine ⟨_, rfl, .inl ⟨rfl, _, SqL.of RA4.at_⟩, _, rfl, show 1 ≤ sizeLine by decide, fun u1b nu1b => ?_⟩
  have t1b := same_new (o := HO.tup [V.int (0 + (i : Int))]) nu1b
  refine ⟨_, rfl, 1, rfl, 3, rfl, r.1, r.2.vs, rfl, .inl (.inl (t1b _ _ hrB)), c13, fun q2b n2b => ?_⟩
  have t2b := same_new (o := HO.tup [V.str r.2.sg, V.str r.2.tp]) n2b
  refine ⟨u1b, q2b, [V.int (0 + (i : Int))], [V.str r.2.sg, V.str r.2.tp], rfl, rfl, .inl (.inl (t2b _ _ upd_same)), .inl (.inl upd_same), (fun z => nomatch z), show 1 + 2 ≤ sizeLine by decide, (fun z => nomatch z), fun _ w1b nw1b => ?_⟩
  have t3b := same_new (o := HO.tup [V.int (0 + (i : Int)), V.str r.2.sg, V.str r.2.tp]) nw1b
  have s13b := (t1b.trans t2b).trans t3b
  refine ⟨_, rfl, _, rfl, _, _, rfl, rfl, .inl ⟨_, rfl, _, rfl, Dm, _, rfl, .inl (SqL.of (s13b _ _ hmB)), _, _, rfl, rfl, posm, Dm, _, _, .int mt2, rfl, rfl, SqL.of (s13b _ _ hmB), et2, show 1 ≤ sizeLine by decide, fun u4b nu4b => ?_⟩⟩
  have t4b := same_new (o := HO.tup [V.int mt2]) nu4b
  refine ⟨w1b, u4b, [V.int (0 + (i : Int)), V.str r.2.sg, V.str r.2.tp], [V.int mt2], rfl, rfl, .inl (.inl (t4b _ _ upd_same)), .inl (.inl upd_same), (fun z => nomatch z), show 3 + 1 ≤ sizeLine by decide, (fun z => nomatch z), fun _ w5b nw5b => ?_⟩
  have t5b := same_new (o := HO.tup [V.int (0 + (i : Int)), V.str r.2.sg, V.str r.2.tp, V.int mt2]) nw5b
  have s15b := (s13b.trans t4b).trans t5b
  refine ⟨_, rfl, 4, rfl, r.1, r.2.vs, rfl, .inl (.inl (s15b _ _ hrB)), c4, fun q6b n6b => ?_⟩
  have t6b := same_new (o := HO.tup [V.int r.2.mv, V.str r.2.de, V.str r.2.sy, V.str r.2.sa]) n6b
  have RX6b := RA4.mono (s15b.trans t6b)
  refine ⟨w5b, q6b, [V.int (0 + (i : Int)), V.str r.2.sg, V.str r.2.tp, V.int mt2], [V.int r.2.mv, V.str r.2.de, V.str r.2.sy, V.str r.2.sa], rfl, rfl, .inl (.inl (t6b _ _ upd_same)), .inl (.inl upd_same), (fun z => nomatch z), show 4 + 4 ≤ sizeLine by decide, (fun z => nomatch z), fun _ w7b nw7b => ⟨aRs, _, _, rfl, rfl, RX6b.look nw7b, RX6b.sz (by omega), ?_⟩⟩
  have RAb := RX6b.add naR nw7b (r := ⟨0 + (i : Int), r.2.sg, r.2.tp, mt2, r.2.mv, r.2.de, r.2.sy, r.2.sa⟩) (mkRl (by omega) okr.sg okr.tp (okm _ mmt2) okr.mv okr.de okr.sa)
  exact ⟨Rs.le ⟨_, RAb⟩ (by omega), _, _, _, rfl⟩
end
end Mk

set_option Elab.async false
set_option linter.unusedVariables false
set_option maxRecDepth 100000
set_option maxHeartbeats 16000000
namespace Mk
open PySem L2 Pk
theorem cop_997 : ∀ k, k < 24 → copSizes[1 + k]? = some (997 : Int) := by decide
def copMenu : List V := [V.int 3, V.int 1, V.int 2, V.int 5, V.int 4, V.int 8, V.int 0, V.int 6]
theorem cop_at {d : Nat} (h : d < 8) : ∃ m : Nat, atI copMenu (d : Int) = some (.int (m : Int)) ∧ m ≤ 8 := by
  have c : d = 0 ∨ d = 1 ∨ d = 2 ∨ d = 3 ∨ d = 4 ∨ d = 5 ∨ d = 6 ∨ d = 7 := by omega
  rcases c with rfl | rfl | rfl | rfl | rfl | rfl | rfl | rfl
  all_goals first | exact ⟨0, rfl, by decide⟩ | exact ⟨1, rfl, by decide⟩ | exact ⟨2, rfl, by decide⟩ | exact ⟨3, rfl, by decide⟩ | exact ⟨4, rfl, by decide⟩ | exact ⟨5, rfl, by decide⟩ | exact ⟨6, rfl, by decide⟩ | exact ⟨8, rfl, by decide⟩
theorem erase_ints : ∀ (l : List Int) (i : Nat), (l.map V.int).eraseIdx i = (l.eraseIdx i).map V.int
  | [], i => rfl
  | x :: l, 0 => rfl
  | x :: l, i + 1 => congrArg (V.int x :: ·) (erase_ints l i)
def upTo (m : Nat) : List Int := (List.range m).map fun (k : Nat) => (1 : Int) + (k : Int)
theorem upTo_succ (m : Nat) : upTo (m + 1) = upTo m ++ [(1 : Int) + (m : Int)] := by
  unfold upTo
  rw [List.range_succ, List.map_append] <;> rfl
theorem upTo_len (m : Nat) : (upTo m).length = m := by
  unfold upTo
  rw [List.length_map, List.length_range]
theorem upTo_mem {m : Nat} {y : Int} : y ∈ upTo m ↔ 1 ≤ y ∧ y ≤ (m : Int) := by
  unfold upTo
  rw [List.mem_map]
  constructor
  · rintro ⟨k, mk, e⟩
    rw [List.mem_range] at mk
    omega
  · rintro ⟨a, b⟩
    exact ⟨(y - 1).toNat, List.mem_range.mpr (by omega), by omega⟩
section
variable {P : Program} {w : World} {K : PySem.W.Frag} {mg : PySem.Str → Option Value} {base : Heap}
/-! _law_copies -/
def spCopies (K : PySem.W.Frag) : Sp := fun vs H Q _ => ∃ (sc : Addr) (ns : List Int) (at_ : Nat) (p aR aY : Addr) (l : PySem.Str) (n : Int) (B : Kept) (ys : List Int), vs = [.ref sc, .int (at_ : Int), .ref p] ∧ SqL K H sc (ns.map V.int) ∧ Mdl H p aR aY l n B ys ∧ n ≤ 5 ∧ B.length ≤ 71 ∧
  ∀ (q aO pM aR' aY' : Addr) (n' : Nat) (os : List Int) (B' : Kept) (ys' : List Int) (H' : Hp), Same H H' → Built H' q aO pM aR' aY' l n' os B' ys' → Q (.ref q) H'
theorem ok_copies {f : Addr} {fd : FuncData} (F : Fun K "_law_copies" "_law_copies" sCopies f fd) (T : TM mg) (G : GenDefs P w K mg base) : FnOk P w K mg base CX0 2 f fd ["script", "at", "machine"] (spCopies K) := by
  refine F.ok scCopies (fun vs H Q E h => ?_) (fun cdv A outer s H vs Q E hr h => ?_)
  · obtain ⟨sc, ns, at_, p, aR, aY, l, n, B, ys, rfl, _⟩ := h
    rfl
  · obtain ⟨sc, ns, at_, p, aR, aY, l, n, B, ys, rfl, hSc, M, n5, bB, k⟩ := h
    have nd := scCopies.nd
    have h1 := hr
    obtain ⟨tY, hY, kY⟩ := copies_Y (P := P) (w := w) (K := K) (base := base) (f := f) T cdv A outer s H E
    refine ⟨_, (pss_cons (ps_set (i := 3) nd rfl (Or.inl rfl) (pe_got G.digits h1 (by rfl) (pa_cons (pe_got G.cell h1 (by rfl) (pa_cons (pv 0) (pa_cons (pv 1) pa_nil))) (pa_cons (pe_op op_cat (pe_op op_cat (pe_lst (pa_cons pe_int pa_nil)) (pe_op op_rep (pe_lst (pa_cons pe_int pa_nil)) pe_int)) (pe_lst (pa_cons pe_int (pa_cons pe_int pa_nil)))) pa_nil))))
      (pss_cons (ps_set (i := 4) nd rfl (Or.inl rfl) (pe_got G.digits h1 (by rfl) (pa_cons (pe_got G.cell h1 (by rfl) (pa_cons (pv 0) (pa_cons (pe_op op_add (pv 1) pe_int) pa_nil))) (pa_cons (pe_op op_rep (pe_lst (pa_cons pe_int pa_nil)) pe_int) pa_nil))))
      (pss_cons (ps_setLc (i := 5) (own := [("k", 6)]) (g := gName 6) (tt := tYes) (by rfl) nd rfl rfl (sw_true rfl rfl rfl (by decide +kernel)) (pi_range2 (by rfl) T.range (pa_cons pe_int (pa_cons (pe_ix ix_list (pv 2) pe_int fun _ _ => rfl) pa_nil))) (blkOk_by (own := [("k", 6)]) (N := nCopies) (sc := defScope sCopies) (by decide +kernel)) (fun _ _ _ _ _ => pg_name (i := 6) nd rfl (Or.inl rfl)) (fun _ _ _ _ _ => pts_nil) (fun _ _ _ _ _ => (pv 6)))
      (pss_cons (ps_for PassesOwn.never rfl (pi_range1 (by rfl) T.range (pa_cons (pe_ix ix_list (pe_lst (pa_cons pe_int (pa_cons pe_int (pa_cons pe_int (pa_cons pe_int (pa_cons pe_int (pa_cons pe_int (pa_cons pe_int (pa_cons pe_int pa_nil))))))))) (pe_ix ix_list (pv 3) pe_int fun _ _ => rfl) fun _ _ => rfl) pa_nil)) (pg_name (i := 6) nd rfl (Or.inl rfl))
        (pss_one (ps_expr (pe_bm PySem.F.plainAttrs_list PySem.F.slot_list_append PySem.F.type_list_append mt_append (pv 5) (pa_cons (pe_op op_mod (pe_callTy call_int1 (by rfl) T.int PyProof.Rows.Boot.int (pa_cons (pe_ix ix_list (pv 3) (pe_op op_add pe_int (pv 6)) fun _ _ => rfl) pa_nil)) (pe_ix ix_list (pv 2) pe_int fun _ _ => rfl)) pa_nil)))))
      (pss_cons (ps_set (i := 7) nd rfl (Or.inr rfl) (pe_lst (pa_cons pe_int pa_nil)))
      (pss_cons (ps_for PassesOwn.never rfl (pi_range1 (by rfl) T.range (pa_cons (pe_callB call_len_seq (by rfl) T.len PySem.boot_len (pa_cons (pv 5) pa_nil)) pa_nil)) (pg_name (i := 6) nd rfl (Or.inl rfl))
        (pss_one (ps_expr (pe_bm PySem.F.plainAttrs_list PySem.F.slot_list_append PySem.F.type_list_append mt_append (pv 7) (pa_cons (pe_bm PySem.F.plainAttrs_list PySem.F.slot_list_pop PySem.F.type_list_pop mt_popAt (pv 5) (pa_cons (pe_op op_mod (pe_callTy call_int1 (by rfl) T.int PyProof.Rows.Boot.int (pa_cons (pe_ix ix_list (pv 3) (pe_op op_add pe_int (pv 6)) fun _ _ => rfl) pa_nil)) (pe_callB call_len_seq (by rfl) T.len PySem.boot_len (pa_cons (pv 5) pa_nil))) pa_nil)) pa_nil)))))
      hY)))))), ?_⟩
    refine ⟨_, rfl, _, rfl, sc, ns, at_, rfl, hSc, fun z0 => ⟨show 1 ≤ sizeLine by decide, fun q1 m1 => ⟨show 1 ≤ sizeLine by decide, fun q2 m2 => ⟨q2, 24, _, rfl, rfl, upd_same, by decide, by decide, by decide, fun q3 m3 => ?_⟩⟩⟩⟩
    refine ⟨q1, q3, _, _, rfl, rfl, same_new m3 _ _ (same_new m2 _ _ upd_same), upd_same, show 25 ≤ sizeLine by decide, fun q4 m4 => ⟨show 2 ≤ sizeLine by decide, fun q5 m5 => ⟨q4, q5, _, _, rfl, rfl, same_new m5 _ _ upd_same, upd_same, show 27 ≤ sizeLine by decide, fun q6 m6 => ?_⟩⟩⟩
    refine ⟨z0, q6, copSizes, rfl, SqL.of upd_same, by decide, by decide, fun head aD H1 dg np s1 hD => ?_⟩
    have sA : Same H H1 := ((((((same_new m1).trans (same_new m2)).trans (same_new m3)).trans (same_new m4)).trans (same_new m5)).trans (same_new m6)).trans s1
    clear s1 np m1 m2 m3 m4 m5 m6
    have ej : (at_ : Int) + 1 = ((at_ + 1 : Nat) : Int) := by omega
    refine ⟨_, rfl, _, rfl, _, _, rfl, rfl, sc, ns, at_ + 1, by rw [← ej] <;> rfl, sA.seq hSc, fun z1 => ⟨show 1 ≤ sizeLine by decide, fun r1 o1 => ⟨r1, 40, _, rfl, rfl, upd_same, by decide, by decide, by decide, fun r2 o2 => ?_⟩⟩⟩
    refine ⟨z1, r2, List.replicate 40 997, rfl, SqL.of upd_same, by decide, by decide, fun row aRow H2 dgR npR s2 hRow => ?_⟩
    have s12 : Same H1 H2 := ((same_new o1).trans (same_new o2)).trans s2
    have s02 := sA.trans s12
    have hD2 := s12 _ _ hD
    have M2 := M.mono s02
    clear s2 npR o1 o2
    have n1 := M.n1
    -- pool
    refine ⟨_, rfl, p, _, 1, .int n, rfl, rfl, SqL.of M2.at_, rfl, 1, n, rfl, ⟨by decide, by decide, by omega, by omega⟩, fun aP nP => lc_range (lo := 1) (n := (n - 1).toNat) (fun i H' => Same H2 H' ∧ H' aP = some (.lst ((upTo i).map V.int))) ⟨same_new nP, upd_same⟩ ?_ ?_⟩
    · rintro i H3 hi ⟨s3, h3⟩
      refine ⟨rfl, ?_⟩
      refine ⟨_, rfl, _, h3, ?_, same_mut s3 nP, ?_⟩
      · rw [List.length_map, upTo_len]
        exact Nat.lt_of_le_of_lt (show i ≤ 50 by omega) (by decide)
      · rw [upd_same, upTo_succ, List.map_append] <;> rfl
    rintro H3 ⟨s3, hP3⟩
    obtain ⟨d0, e0, b0⟩ := dig_nat dg 0 8 rfl
    obtain ⟨m, em, m8⟩ := cop_at (d := d0) (by omega)
    have hD3 := s3 _ _ hD2
    refine ⟨show 8 ≤ sizeLine by decide, fun q0 nq0 => ?_⟩
    have t0 := same_new (o := HO.lst copMenu) nq0
    refine ⟨_, rfl, aD, _, _, _, rfl, rfl, SqL.of (t0 _ _ hD3), at_map (j := 0) e0, q0, _, _, .int (m : Int), rfl, rfl, SqL.of upd_same, em, _, rfl, by omega, by omega, for_range (lo := 0) (n := ((m : Nat) : Int).toNat) (fun i σ H' => Same H2 H' ∧ ∃ (v6 : Option V) (ex : List Int), σ = [some (.ref sc), some (.int (at_ : Int)), some (.ref p), some (.ref aD), some (.ref aRow), some (.ref aP), v6, none, none, none, none, none, none, none, none, none, none, none, none] ∧ H' aP = some (.lst ((upTo (n - 1).toNat ++ ex).map V.int)) ∧ ex.length = i ∧ ∀ y ∈ ex, 0 ≤ y ∧ y ≤ n - 1)
      ⟨s3.trans t0, _, [], rfl, by rw [List.append_nil]; exact t0 _ _ hP3, rfl, fun y m => absurd m List.not_mem_nil⟩ ?_ ?_⟩
    · rintro i σ H4 hi ⟨s4, v6, ex, rfl, hP4, lex, okx⟩
      obtain ⟨d, ed, bd⟩ := dig_nat dg (1 + i) 997 (cop_997 i (by omega))
      have hD4 := s4 _ _ hD2
      have M4 := M2.mono s4
      refine ⟨_, rfl, .inl ⟨rfl, _, SqL.of hP4⟩, _, rfl, _, rfl, _, _, rfl, rfl, aD, _, _, .int (d : Int), rfl, rfl, SqL.of hD4, by rw [show (1 : Int) + (0 + (i : Int)) = ((1 + i : Nat) : Int) by omega]; exact at_map ed, .inl ⟨_, rfl, _, rfl, p, _, 1, .int n, rfl, rfl, SqL.of M4.at_, rfl, _, _, rfl, rfl, by omega, aP, _, _, rfl, rfl, hP4, ?_, ?_⟩⟩
      · rw [List.length_map, List.length_append, upTo_len]
        exact Nat.lt_of_le_of_lt (show (n - 1).toNat + ex.length ≤ 50 by omega) (by decide)
      · refine ⟨same_mut s4 nP, _, ex ++ [(d : Int) % n], rfl, ?_, by rw [List.length_append, lex]; rfl, fun y m => ?_⟩
        · rw [upd_same, ← List.append_assoc, List.map_append (l₁ := upTo (n - 1).toNat ++ ex) (l₂ := [(d : Int) % n])] <;> rfl
        · rcases List.mem_append.mp m with m | m
          · exact okx y m
          · rw [List.mem_singleton.mp m]
            exact ⟨Int.emod_nonneg _ (by omega), by have := Int.emod_lt_of_pos (d : Int) (show 0 < n by omega); omega⟩
    rintro σ H4 ⟨s4, v6, ex, rfl, hP4, lex, okx⟩
    have lex8 : ex.length ≤ 8 := by omega
    clear hP3 hD3 s3 t0 nq0 em e0
    generalize hP0 : upTo (n - 1).toNat ++ ex = pool at hP4
    have lP : pool.length = (n - 1).toNat + ex.length := by rw [← hP0, List.length_append, upTo_len]
    have lPv : (pool.map V.int).length = pool.length := List.length_map ..
    -- owners
    refine ⟨show 1 ≤ sizeLine by decide, fun aO nO => ?_⟩
    have tO := same_new (o := HO.lst [V.int 0]) nO
    have aPO : aP ≠ aO := fun z => by
      rw [z, nO] at hP4
      cases hP4
    have nO2 := s4.free nO
    refine ⟨_, rfl, aP, _, rfl, .inl (SqL.of (tO _ _ hP4)), _, rfl, by omega, by omega, for_range (lo := 0) (n := (((pool.map V.int).length : Nat) : Int).toNat) (fun i σ H' => Same H2 H' ∧ ∃ (v6 : Option V) (os rest : List Int), σ = [some (.ref sc), some (.int (at_ : Int)), some (.ref p), some (.ref aD), some (.ref aRow), some (.ref aP), v6, some (.ref aO), none, none, none, none, none, none, none, none, none, none, none] ∧ H' aP = some (.lst (rest.map V.int)) ∧ H' aO = some (.lst (os.map V.int)) ∧ (os ++ rest).Perm ((0 : Int) :: pool) ∧ rest.length + i = pool.length ∧ os.length = 1 + i)
      ⟨s4.trans tO, _, [0], pool, rfl, tO _ _ hP4, upd_same, .refl _, rfl, rfl⟩ ?_ ?_⟩
    · rintro i σ H5 hi ⟨s5, v6, os, rest, rfl, hP5, hO5, pm, lr, lo⟩
      have ir : 0 < rest.length := by omega
      obtain ⟨d, ed, bd⟩ := dig_nat dg (1 + (8 + i)) 997 (cop_997 (8 + i) (by omega))
      have hD5 := s5 _ _ hD2
      have lrv : (rest.map V.int).length = rest.length := List.length_map ..
      have ei : (d : Int) % (((rest.map V.int).length : Nat) : Int) = ((d % rest.length : Nat) : Int) := by rw [lrv, Int.natCast_emod]
      have lg : d % rest.length < rest.length := Nat.mod_lt _ ir
      generalize d % rest.length = g at ei lg
      obtain ⟨x, ex'⟩ : ∃ x, rest[g]? = some x := ⟨_, List.getElem?_eq_getElem lg⟩
      refine ⟨_, rfl, .inl ⟨rfl, _, SqL.of hO5⟩, _, rfl, .inl ⟨rfl, _, SqL.of hP5⟩, _, rfl, _, rfl, _, _, rfl, rfl, aD, _, _, .int (d : Int), rfl, rfl, SqL.of hD5, by rw [show (9 : Int) + (0 + (i : Int)) = ((1 + (8 + i) : Nat) : Int) by omega]; exact at_map ed, .inl ⟨_, rfl, _, rfl, aP, _, rfl, .inl (SqL.of hP5), _, _, rfl, rfl, by omega, ?_⟩⟩
      refine ⟨aP, _, (g : Int), g, .int x, rfl, congrArg (fun z => [V.int z]) ei, hP5, by omega, by omega, seq_nat (by omega), by rw [List.getElem?_map, ex'] <;> rfl, ?_⟩
      refine ⟨aO, os.map V.int, .int x, rfl, rfl, ?_, ?_, ?_⟩
      · rw [upd_ne aPO.symm]; exact hO5
      · rw [List.length_map]
        exact Nat.lt_of_le_of_lt (show os.length ≤ 50 by omega) (by decide)
      · refine ⟨same_mut (same_mut s5 nP) nO2, _, os ++ [x], rest.eraseIdx g, rfl, ?_, ?_, ?_, ?_, ?_⟩
        · rw [upd_ne aPO, upd_same, erase_ints]
        · rw [upd_same, List.map_append] <;> rfl
        · rw [List.append_assoc]
          exact (List.Perm.append_left os (erase_perm ex')).trans pm
        · have := erase_len lg
          omega
        · rw [List.length_append, lo] <;> rfl
    rintro σ H5 ⟨s5, v6, os, rest, rfl, hP5, hO5, pm, lr, lo⟩
    have r0 : rest = [] := List.eq_nil_of_length_eq_zero (by omega)
    subst r0
    rw [List.append_nil, ← hP0] at pm
    have s05 := s02.trans s5
    have mem : ∀ y, y ∈ os ↔ y = 0 ∨ y ∈ upTo (n - 1).toNat ∨ y ∈ ex := fun y => by
      rw [pm.mem_iff, List.mem_cons, List.mem_append]
    refine kY _ H5 sc p aR aY aD aRow aO head row at_ l n B ys os _ _ _ _ _ _ _ _ _ _ _ _ _ ?_ (M.mono s05) bB (s5 _ _ hD2) dg (s5 _ _ hRow) dgR hO5 (fun o mo => ?_) (by omega) (by omega) (fun y a b => ?_) (owners_count pm lex8)
    · exact fun q pM aR' aY' B' ys' H' s' b => k q aO pM aR' aY' os.length os B' ys' H' (s05.trans s') b
    · rcases (mem o).mp mo with e | m | m
      · omega
      · have := upTo_mem.mp m
        omega
      · have := okx o m
        omega
    · refine (mem y).mpr ?_
      by_cases e : y = 0
      · exact .inl e
      · exact .inr (.inl (upTo_mem.mpr ⟨by omega, by omega⟩))
end
end Mk

set_option Elab.async false
set_option linter.unusedVariables false
set_option maxRecDepth 100000
set_option maxHeartbeats 16000000
namespace Mk
open PySem L2 Pk
abbrev nRing : List PySem.Str := ["script", "at", "letters", "head", "many", "seats", "rules", "yes", "k"]
theorem scRing : FnScope nRing ["script", "at", "letters"] (defScope sRing) := ⟨rfl, rfl, rfl, by decide +kernel, rfl, by decide +kernel, by decide +kernel⟩
def ringSizes : List Int := [39, 2, 6, 4, 40, 2]
section
variable {P : Program} {w : World} {K : PySem.W.Frag} {mg : PySem.Str → Option Value} {base : Heap}
/-! _law_ring -/
def spRing (K : PySem.W.Frag) : Sp := fun vs H Q _ => ∃ (sc : Addr) (ns : List Int) (at_ : Nat) (l : PySem.Str), vs = [.ref sc, .int (at_ : Int), .str l] ∧ SqL K H sc (ns.map V.int) ∧ Alpha l ∧ l.length ≤ 3 ∧
  ∀ (q aO pM aR' aY' : Addr) (n' : Nat) (os : List Int) (B' : Kept) (ys' : List Int) (H' : Hp), Same H H' → Built H' q aO pM aR' aY' l n' os B' ys' → Q (.ref q) H'
theorem ok_ring {f : Addr} {fd : FuncData} (F : Fun K "_law_ring" "_law_ring" sRing f fd) (T : TM mg) (G : GenDefs P w K mg base) : FnOk P w K mg base CX0 2 f fd ["script", "at", "letters"] (spRing K) := by
  refine F.ok scRing (fun vs H Q E h => ?_) (fun cdv A outer s H vs Q E hr h => ?_)
  · obtain ⟨sc, ns, at_, l, rfl, _⟩ := h
    rfl
  · obtain ⟨sc, ns, at_, l, rfl, hSc, al, l3, k⟩ := h
    have nd := scRing.nd
    have h1 := hr
    refine ⟨_, (pss_cons (ps_set (i := 3) nd rfl (Or.inr rfl) (pe_got G.digits h1 (by rfl) (pa_cons (pe_got G.cell h1 (by rfl) (pa_cons (pv 0) (pa_cons (pv 1) pa_nil))) (pa_cons (pe_lst (pa_cons pe_int (pa_cons pe_int (pa_cons pe_int (pa_cons pe_int (pa_cons pe_int (pa_cons pe_int pa_nil))))))) pa_nil))))
      (pss_cons (ps_set (i := 4) nd rfl (Or.inr rfl) (pe_op op_add (pe_ix ix_list (pv 3) pe_int fun _ _ => rfl) pe_int))
      (pss_cons (ps_set (i := 5) nd rfl (Or.inr rfl) (pe_lc (own := [("k", 8)]) (g := gName 8) (tt := tYes) (by rfl) nd (pi_range1 (by rfl) T.range (pa_cons (pv 4) pa_nil)) (blkOk_by (own := [("k", 8)]) (N := nRing) (sc := defScope sRing) (by decide +kernel)) (fun _ _ _ _ _ => pg_name (i := 8) nd rfl (Or.inl rfl)) (fun _ _ _ _ _ => pts_nil) (fun _ _ _ _ _ => (pe_ix (r := rIxL K) ix_list (pe_lst (pa_cons (pv 8) (pa_cons (pe_op op_mod (pe_callTy call_int1 (by rfl) T.int PyProof.Rows.Boot.int (pa_cons (pe_op op_sub (pv 4) (pv 8)) pa_nil)) (pv 4)) pa_nil))) (pe_ix (r := rIxL K) ix_list (pv 3) pe_int fun _ _ => rfl) fun _ _ => rfl))))
      (pss_cons (ps_setLc (i := 6) (own := [("k", 8)]) (g := gName 8) (tt := tYes) (by rfl) nd rfl rfl (sw_true rfl rfl rfl (by decide +kernel)) (pi_range1 (by rfl) T.range (pa_cons (pe_op op_sub (pv 4) pe_int) pa_nil)) (blkOk_by (own := [("k", 8)]) (N := nRing) (sc := defScope sRing) (by decide +kernel)) (fun _ _ _ _ _ => pg_name (i := 8) nd rfl (Or.inl rfl)) (fun _ _ _ _ _ => pts_nil) (fun _ _ _ _ _ => (pe_tup (pa_cons (pe_ix (r := rIxL K) ix_list (pv 5) (pv 8) fun _ _ => rfl) (pa_cons pe_str (pa_cons pe_str (pa_cons (pe_ix (r := rIxL K) ix_list (pv 5) (pe_op op_add (pv 8) pe_int) fun _ _ => rfl) (pa_cons pe_int (pa_cons pe_str (pa_cons pe_str (pa_cons pe_str pa_nil)))))))))))
      (C8.pss_cut (ps_if (pt_cmpR op_eq (pe_ix ix_list (pv 3) pe_int fun _ _ => rfl) pe_int (nomark _))
        (pss_one (ps_expr (pe_bm PySem.F.plainAttrs_list PySem.F.slot_list_append PySem.F.type_list_append mt_append (pv 6) (pa_cons (pe_tup (pa_cons (pe_ix ix_list (pv 5) (pe_op op_sub (pv 4) pe_int) fun _ _ => rfl) (pa_cons pe_str (pa_cons pe_str (pa_cons pe_int (pa_cons pe_int (pa_cons pe_str (pa_cons pe_str (pa_cons pe_str pa_nil))))))))) pa_nil))))
        pss_nil)
      (C8.pss_cut (ps_if (pt_cmpR op_eq (pe_ix ix_list (pv 3) pe_int fun _ _ => rfl) pe_int (nomark _))
        (pss_one (ps_expr (pe_bm PySem.F.plainAttrs_list PySem.F.slot_list_append PySem.F.type_list_append mt_append (pv 6) (pa_cons (pe_tup (pa_cons (pe_ix ix_list (pv 5) (pe_op op_sub (pv 4) pe_int) fun _ _ => rfl) (pa_cons pe_str (pa_cons pe_str (pa_cons (pe_ix ix_list (pv 5) (pe_op op_mod (pe_callTy call_int1 (by rfl) T.int PyProof.Rows.Boot.int (pa_cons (pe_ix ix_list (pv 3) pe_int fun _ _ => rfl) pa_nil)) (pv 4)) fun _ _ => rfl) (pa_cons pe_int (pa_cons pe_str (pa_cons pe_str (pa_cons pe_str pa_nil))))))))) pa_nil))))
        pss_nil)
      (pss_cons (ps_setLc (i := 7) (own := [("k", 8)]) (g := gName 8) (by rfl) nd rfl rfl (sw_true rfl rfl rfl (by decide +kernel)) (pi_range1 (by rfl) T.range (pa_cons (pv 4) pa_nil)) (blkOk_by (own := [("k", 8)]) (N := nRing) (sc := defScope sRing) (by decide +kernel)) (fun _ _ _ _ _ => pg_name (i := 8) nd rfl (Or.inl rfl)) (fun _ _ _ _ _ => pts_one (pt_cmpR op_eq (pe_op op_mod (pe_callTy call_int1 (by rfl) T.int PyProof.Rows.Boot.int (pa_cons (pv 8) pa_nil)) (pe_op op_add (pe_ix (r := rIxL K) ix_list (pv 3) pe_int fun _ _ => rfl) pe_int)) pe_int (nomark _))) (fun _ _ _ _ _ => (pe_ix (r := rIxL K) ix_list (pv 5) (pv 8) fun _ _ => rfl)))
      (C8.pss_cut (ps_if (pt_cmpR op_eq (pe_ix ix_list (pv 3) pe_int fun _ _ => rfl) pe_int (nomark _))
        (pss_one (ps_set (i := 7) nd rfl (Or.inl rfl) (pe_lst (pa_cons (pe_ix ix_list (pv 5) (pe_op op_sub (pv 4) pe_int) fun _ _ => rfl) pa_nil))))
        pss_nil)
      (pss_one (ps_ret (pe_lst (pa_cons (pe_op op_rep (pe_lst (pa_cons pe_int pa_nil)) (pv 4)) (pa_cons (pe_lst (pa_cons (pv 2) (pa_cons (pv 4) (pa_cons (pv 6) (pa_cons (pv 7) pa_nil))))) pa_nil))))))))))))), ?_⟩
    refine ⟨_, rfl, _, rfl, sc, ns, at_, rfl, hSc, fun z0 => ⟨show 6 ≤ sizeLine by decide, fun q1 m1 => ?_⟩⟩
    refine ⟨z0, q1, ringSizes, rfl, SqL.of upd_same, by decide, by decide, fun head aD H1 dg np s1 hD => ?_⟩
    have sA : Same H H1 := (same_new m1).trans s1
    clear s1 np m1
    obtain ⟨d0, e0, b0⟩ := dig_nat dg 0 39 rfl
    obtain ⟨d1, e1, b1⟩ := dig_nat dg 1 2 rfl
    obtain ⟨d2, e2, b2⟩ := dig_nat dg 2 6 rfl
    obtain ⟨d3, e3, b3⟩ := dig_nat dg 3 4 rfl
    obtain ⟨d4, e4, b4⟩ := dig_nat dg 4 40 rfl
    obtain ⟨d5, e5, b5⟩ := dig_nat dg 5 2 rfl
    have emod : ∀ z : Int, 0 ≤ z % ((d0 : Int) + 2) ∧ z % ((d0 : Int) + 2) ≤ (d0 : Int) + 2 - 1 := fun z => ⟨Int.emod_nonneg _ (by omega), by have := Int.emod_lt_of_pos z (show (0 : Int) < (d0 : Int) + 2 by omega); omega⟩
    refine ⟨_, rfl, aD, _, _, _, rfl, rfl, SqL.of hD, at_map (j := 0) e0, _, _, rfl, rfl, ?_⟩
    -- seats
    refine ⟨_, rfl, (d0 : Int) + 2, rfl, by omega, by omega, fun aS nS => lc_range (lo := 0) (n := ((d0 : Int) + 2).toNat) (fun i H' => Same H1 H' ∧ ∃ se : List Int, H' aS = some (.lst (se.map V.int)) ∧ se.length = i ∧ ∀ y ∈ se, 0 ≤ y ∧ y ≤ (d0 : Int) + 2 - 1) ⟨same_new nS, [], upd_same, rfl, fun y m => absurd m List.not_mem_nil⟩ ?_ ?_⟩
    · rintro i H3 hi ⟨s3, se, hs, ls, oks⟩
      refine ⟨rfl, ?_⟩
      obtain ⟨v, ev, v0⟩ : ∃ v : Int, atI [V.int (0 + (i : Int)), V.int (((d0 : Int) + 2 - (0 + (i : Int))) % ((d0 : Int) + 2))] (d1 : Int) = some (.int v) ∧ 0 ≤ v ∧ v ≤ (d0 : Int) + 2 - 1 := by
        have c : d1 = 0 ∨ d1 = 1 := by omega
        rcases c with rfl | rfl
        · exact ⟨_, rfl, by omega, by omega⟩
        · exact ⟨_, rfl, emod _⟩
      refine ⟨_, rfl, _, rfl, _, rfl, _, _, rfl, rfl, .inl ⟨_, rfl, _, rfl, _, _, rfl, rfl, by omega, show 2 ≤ sizeLine by decide, fun u nu => ?_⟩⟩
      have tu := same_new (o := HO.lst [V.int (0 + (i : Int)), V.int (((d0 : Int) + 2 - (0 + (i : Int))) % ((d0 : Int) + 2))]) nu
      have s4 := s3.trans tu
      refine ⟨_, rfl, aD, _, _, _, rfl, rfl, SqL.of (s4 _ _ hD), at_map (j := 1) e1, u, _, _, .int v, rfl, rfl, SqL.of upd_same, ev, _, tu _ _ hs, ?_, same_mut s4 nS, se ++ [v], ?_, ?_, fun z m => ?_⟩
      · rw [List.length_map]
        exact Nat.lt_of_le_of_lt (show se.length ≤ 50 by omega) (by decide)
      · rw [upd_same, List.map_append] <;> rfl
      · rw [List.length_append, ls] <;> rfl
      · rcases List.mem_append.mp m with m | m
        · exact oks z m
        · rw [List.mem_singleton.mp m]; exact v0
    rintro H2 ⟨s2, se, hS, ls, oks⟩
    have lsN : se.length = d0 + 2 := by omega
    have seat : ∀ {g : Int} {j : Nat}, g = (j : Int) → j < d0 + 2 → ∃ v : Int, atI (se.map V.int) g = some (.int v) ∧ 0 ≤ v ∧ v ≤ (((d0 + 2 : Nat) : Int)) - 1 := fun {g j} eg lj => by
      obtain ⟨v, ev⟩ : ∃ v, se[j]? = some v := ⟨_, List.getElem?_eq_getElem (by omega)⟩
      have := oks v (List.mem_of_getElem? ev)
      refine ⟨v, ?_, by omega, by omega⟩
      rw [eg]
      exact atI_nat (by rw [List.getElem?_map, ev] <;> rfl)
    have okR : ∀ {a b : Int}, 0 ≤ a ∧ a ≤ (((d0 + 2 : Nat) : Int)) - 1 → 0 ≤ b ∧ b ≤ (((d0 + 2 : Nat) : Int)) - 1 → RlOk l ((d0 + 2 : Nat) : Int) ⟨a, lt0, nil0, b, 0, keep0, nil0, PySem.Str.ofString "k"⟩ := fun ha hb => mkRl ha (sgnLt l) (.inr rfl) hb (mv0 _) (keepD _) saidK
    have hD2 := s2 _ _ hD
    -- rules
    refine ⟨_, rfl, _, _, rfl, rfl, (d0 : Int) + 2 - 1, rfl, by omega, by omega, fun aRs nR => lc_range (lo := 0) (n := ((d0 : Int) + 2 - 1).toNat) (fun i H' => Rs H2 H' aRs l ((d0 + 2 : Nat) : Int) i) ⟨[], same_new nR, upd_same, fun p m => absurd m List.not_mem_nil, fun p m => absurd m List.not_mem_nil, Nat.le_refl _⟩ ?_ ?_⟩
    · rintro i H3 hi ⟨B3, R3⟩
      obtain ⟨v, ev, v0⟩ := seat (g := 0 + (i : Int)) (j := i) (by omega) (by omega)
      obtain ⟨v', ev', v0'⟩ := seat (g := 0 + (i : Int) + 1) (j := i + 1) (by omega) (by omega)
      have hS3 := R3.same _ _ hS
      refine ⟨rfl, ?_⟩
      refine ⟨_, rfl, _, rfl, aS, _, _, .int v, rfl, rfl, SqL.of hS3, ev, _, rfl, _, rfl, _, _, rfl, rfl, aS, _, _, .int v', rfl, rfl, SqL.of hS3, ev', show 8 ≤ sizeLine by decide, fun u nu => ⟨_, R3.look nu, R3.sz (by omega), ?_⟩⟩
      exact ⟨_, R3.add nR nu (okR v0 v0')⟩
    rintro H3 ⟨B3, R3⟩
    have s03 : Same H H3 := (sA.trans s2).trans R3.same
    have hS3 := R3.same _ _ hS
    have hD3 := R3.same _ _ hD2
    have s23 := R3.same
    obtain ⟨vz, evz, vz0⟩ := seat (g := (d0 : Int) + 2 - 1) (j := d0 + 1) (by omega) (by omega)
    obtain ⟨vh, evh, vh0⟩ := seat (g := (d4 : Int) % ((d0 : Int) + 2)) (j := ((d4 : Int) % ((d0 : Int) + 2)).toNat) (by have := emod (d4 : Int); omega) (by have := emod (d4 : Int); omega)
    have few3 : B3.length ≤ 41 := by have := R3.few; omega
    refine ⟨fun σ' H' => σ' = [some (.ref sc), some (.int (at_ : Int)), some (.str l), some (.ref aD), some (.int ((d0 : Int) + 2)), some (.ref aS), some (.ref aRs), none, none] ∧ Rs H2 H' aRs l ((d0 + 2 : Nat) : Int) 42, ?_, ?_⟩
    · refine ⟨_, rfl, aD, _, 3, _, rfl, rfl, SqL.of hD3, at_map (j := 3) e3, rfl, _, rfl, ite2 (fun _ => ?_) (fun _ => ⟨rfl, Rs.le ⟨_, R3⟩ (by omega)⟩)⟩
      refine ⟨_, rfl, .inl ⟨rfl, _, SqL.of R3.at_⟩, _, rfl, _, rfl, _, _, rfl, rfl, aS, _, _, .int vz, rfl, rfl, SqL.of hS3, evz, show 8 ≤ sizeLine by decide, fun u nu => ⟨aRs, _, _, rfl, rfl, R3.look nu, R3.sz (by omega), rfl, ?_⟩⟩
      exact Rs.le ⟨_, R3.add nR nu (okR vz0 ⟨by omega, by omega⟩)⟩ (by omega)
    rintro _ H4 ⟨rfl, B4, R4⟩
    have hS4 := R4.same _ _ hS
    have hD4 := R4.same _ _ hD2
    refine ⟨fun σ' H' => σ' = [some (.ref sc), some (.int (at_ : Int)), some (.str l), some (.ref aD), some (.int ((d0 : Int) + 2)), some (.ref aS), some (.ref aRs), none, none] ∧ Rs H2 H' aRs l ((d0 + 2 : Nat) : Int) 43, ?_, ?_⟩
    · refine ⟨_, rfl, aD, _, 3, _, rfl, rfl, SqL.of hD4, at_map (j := 3) e3, rfl, _, rfl, ite2 (fun _ => ?_) (fun _ => ⟨rfl, Rs.le ⟨_, R4⟩ (by omega)⟩)⟩
      refine ⟨_, rfl, .inl ⟨rfl, _, SqL.of R4.at_⟩, _, rfl, _, rfl, _, _, rfl, rfl, aS, _, _, .int vz, rfl, rfl, SqL.of hS4, evz, _, rfl, _, rfl, aD, _, 4, _, rfl, rfl, SqL.of hD4, at_map (j := 4) e4, .inl ⟨_, rfl, _, rfl, _, _, rfl, rfl, by omega, aS, _, _, .int vh, rfl, rfl, SqL.of hS4, evh, show 8 ≤ sizeLine by decide, fun u nu => ⟨aRs, _, _, rfl, rfl, R4.look nu, R4.sz (by omega), rfl, ?_⟩⟩⟩
      exact Rs.le ⟨_, R4.add nR nu (okR vz0 vh0)⟩ (by omega)
    rintro _ H5 ⟨rfl, B5, R5⟩
    have hS5 := R5.same _ _ hS
    have hD5 := R5.same _ _ hD2
    have few5 := R5.few
    -- yes
    refine ⟨_, rfl, (d0 : Int) + 2, rfl, by omega, by omega, fun aY nY => lc_range (lo := 0) (n := ((d0 : Int) + 2).toNat) (fun i H' => Same H5 H' ∧ ∃ zs : List Int, H' aY = some (.lst (zs.map V.int)) ∧ zs.length ≤ i ∧ ∀ y ∈ zs, 0 ≤ y ∧ y ≤ (((d0 + 2 : Nat) : Int)) - 1) ⟨same_new nY, [], upd_same, Nat.le_refl _, fun y m => absurd m List.not_mem_nil⟩ ?_ ?_⟩
    · rintro i H6 hi ⟨s6, zs, hz, lz, okz⟩
      obtain ⟨v, ev, v0⟩ := seat (g := 0 + (i : Int)) (j := i) (by omega) (by omega)
      refine ⟨rfl, ?_⟩
      refine ⟨_, rfl, .inl ⟨_, rfl, _, rfl, aD, _, 2, _, rfl, rfl, SqL.of (s6 _ _ hD5), at_map (j := 2) e2, _, _, rfl, rfl, _, _, rfl, rfl, by omega, rfl, _, rfl, ite2 (fun _ => ?_) (fun _ => ⟨s6, zs, hz, by omega, okz⟩)⟩⟩
      refine ⟨_, rfl, _, rfl, aS, _, _, .int v, rfl, rfl, SqL.of (s6 _ _ hS5), ev, _, hz, ?_, same_mut s6 nY, zs ++ [v], ?_, ?_, fun z m => ?_⟩
      · rw [List.length_map]
        exact Nat.lt_of_le_of_lt (show zs.length ≤ 50 by omega) (by decide)
      · rw [upd_same, List.map_append] <;> rfl
      · rw [List.length_append]
        show zs.length + 1 ≤ i + 1
        omega
      · rcases List.mem_append.mp m with m | m
        · exact okz z m
        · rw [List.mem_singleton.mp m]; exact v0
    rintro H6 ⟨s6, zs, hz, lz, okz⟩
    refine ⟨fun σ' H' => ∃ (a : Addr) (zs : List Int), σ' = [some (.ref sc), some (.int (at_ : Int)), some (.str l), some (.ref aD), some (.int ((d0 : Int) + 2)), some (.ref aS), some (.ref aRs), some (.ref a), none] ∧ Same H5 H' ∧ H' a = some (.lst (zs.map V.int)) ∧ zs.length ≤ 41 ∧ ∀ y ∈ zs, 0 ≤ y ∧ y ≤ (((d0 + 2 : Nat) : Int)) - 1, ?_, ?_⟩
    · refine ⟨_, rfl, aD, _, 5, _, rfl, rfl, SqL.of (s6 _ _ hD5), at_map (j := 5) e5, rfl, _, rfl, ite2 (fun _ => ?_) (fun _ => ⟨aY, zs, rfl, s6, hz, by omega, okz⟩)⟩
      refine ⟨_, rfl, _, rfl, _, _, rfl, rfl, aS, _, _, .int vz, rfl, rfl, SqL.of (s6 _ _ hS5), evz, show 1 ≤ sizeLine by decide, fun u nu => ⟨u, [vz], rfl, s6.trans (same_new nu), upd_same, (show 1 ≤ 41 by decide), fun y m => by rw [List.mem_singleton.mp m]; exact vz0⟩⟩
    rintro _ H7 ⟨aY', us, rfl, s7, hu, lu, oku⟩
    refine ⟨show 1 ≤ sizeLine by decide, fun u1 nu1 => ?_⟩
    have t1 := same_new (o := HO.lst [V.int 0]) nu1
    have ek : ((d0 : Int) + 2).toNat = d0 + 2 := by omega
    refine ⟨_, rfl, u1, (d0 : Int) + 2, _, rfl, rfl, upd_same, by omega, by omega, ?_, fun u2 nu2 => ?_⟩
    · rw [ek]
      exact Nat.le_trans (show 1 * (d0 + 2) ≤ 100 by omega) (by decide)
    have flat : (List.replicate ((d0 : Int) + 2).toNat [V.int 0]).flatten = (List.replicate (d0 + 2) (0 : Int)).map V.int := by
      rw [ek, List.map_replicate]
      generalize d0 + 2 = g
      induction g with
      | zero => rfl
      | succ g ih => rw [List.replicate_succ, List.flatten_cons, ih]; rfl
    have t2 := same_new (o := HO.lst (List.replicate ((d0 : Int) + 2).toNat [V.int 0]).flatten) nu2
    have hu2 : (upd (upd H7 u1 (.lst [V.int 0])) u2 (.lst (List.replicate ((d0 : Int) + 2).toNat [V.int 0]).flatten)) u2 = some (.lst ((List.replicate (d0 + 2) (0 : Int)).map V.int)) := by rw [upd_same, flat]
    refine ⟨_, rfl, _, rfl, _, rfl, _, rfl, show 4 ≤ sizeLine by decide, fun pM nM => ⟨show 2 ≤ sizeLine by decide, fun q nq => ?_⟩⟩
    have t3 := same_new (o := HO.lst [V.str l, V.int ((d0 : Int) + 2), V.ref aRs, V.ref aY']) nM
    have t4 := same_new (o := HO.lst [V.ref u2, V.ref pM]) nq
    have s57 := s7.trans (((t1.trans t2).trans t3).trans t4)
    have R7 := R5.mono s57
    exact k q u2 pM aRs aY' (d0 + 2) (List.replicate (d0 + 2) 0) B5 us _ ((sA.trans s2).trans R7.same) ⟨upd_same, t4 _ _ (t3 _ _ hu2), List.length_replicate, fun o m => by rw [List.eq_of_mem_replicate m]; decide,
      ⟨t4 _ _ upd_same, al, l3, by omega, R7.at_, R7.kept, R7.ok, t4 _ _ (t3 _ _ (t2 _ _ (t1 _ _ hu))), oku⟩, by omega, by omega, by omega⟩
end
end Mk

set_option Elab.async false
set_option linter.unusedVariables false
set_option maxRecDepth 100000
set_option maxHeartbeats 16000000
namespace Mk
open PySem L2 Pk
/-! a sorted list, each once -/
section
variable {α : Type} [DecidableEq α]
def ddFrom (p : α) : List α → List α
  | [] => []
  | y :: l => if p = y then ddFrom y l else y :: ddFrom y l
def dd : List α → List α
  | [] => []
  | x :: l => x :: ddFrom x l
theorem ddFrom_snoc (p x : α) : ∀ (l : List α) (q : α), ddFrom q (l ++ [p] ++ [x]) = ddFrom q (l ++ [p]) ++ (if p = x then [] else [x])
  | [], q => by
    show (if q = p then ddFrom p [x] else p :: ddFrom p [x]) = (if q = p then ddFrom p [] else p :: ddFrom p []) ++ _
    have e : ddFrom p [x] = if p = x then [] else [x] := rfl
    rw [e]
    split <;> rfl
  | y :: l, q => by
    have ih := ddFrom_snoc p x l y
    show (if q = y then ddFrom y (l ++ [p] ++ [x]) else y :: ddFrom y (l ++ [p] ++ [x])) = (if q = y then ddFrom y (l ++ [p]) else y :: ddFrom y (l ++ [p])) ++ _
    rw [ih]
    split <;> rfl
theorem dd_snoc (p x : α) (l : List α) : dd (l ++ [p] ++ [x]) = dd (l ++ [p]) ++ (if p = x then [] else [x]) := by
  cases l with
  | nil => rfl
  | cons y l =>
    show y :: ddFrom y (l ++ [p] ++ [x]) = y :: ddFrom y (l ++ [p]) ++ _
    rw [ddFrom_snoc]
    rfl
theorem dd_step {o : List α} {j : Nat} {y x : α} (ey : o[j]? = some y) (ex : o[j + 1]? = some x) : dd (o.take (j + 1 + 1)) = dd (o.take (j + 1)) ++ (if y = x then [] else [x]) := by
  rw [take_at ex, take_at ey, dd_snoc]
theorem ddFrom_sub (l : List α) : ∀ p : α, (ddFrom p l).Sublist l := by
  induction l with
  | nil => exact fun p => List.Sublist.slnil
  | cons y l ih =>
    intro p
    unfold ddFrom
    split
    · exact (ih y).cons y
    · exact (ih y).cons_cons y
theorem dd_sub (l : List α) : (dd l).Sublist l := by
  cases l with
  | nil => exact .slnil
  | cons x l => exact (ddFrom_sub l x).cons_cons x
theorem dd_len (l : List α) : (dd l).length ≤ l.length := (dd_sub l).length_le
theorem ddFrom_mem (z : α) : ∀ (l : List α) (p : α), z ∈ l → z = p ∨ z ∈ ddFrom p l
  | [], p, m => by cases m
  | y :: l, p, m => by
    unfold ddFrom
    split
    · rename_i c
      rcases List.mem_cons.mp m with e | m
      · exact .inl (e.trans c.symm)
      · rcases ddFrom_mem z l y m with e | h
        · exact .inl (e.trans c.symm)
        · exact .inr h
    · right
      rcases List.mem_cons.mp m with e | m
      · rw [e]; exact List.mem_cons_self
      · rcases ddFrom_mem z l y m with e | h
        · rw [e]; exact List.mem_cons_self
        · exact List.mem_cons_of_mem _ h
theorem dd_mem (l : List α) (z : α) : z ∈ dd l ↔ z ∈ l := by
  refine ⟨fun m => (dd_sub l).subset m, fun m => ?_⟩
  cases l with
  | nil => cases m
  | cons x l =>
    rcases List.mem_cons.mp m with e | m
    · rw [e]; exact List.mem_cons_self
    · rcases ddFrom_mem z l x m with e | h
      · rw [e]; exact List.mem_cons_self
      · exact List.mem_cons_of_mem _ h
theorem ddFrom_nodup {lt : α → α → Bool} (O : Sx.Lin lt) : ∀ (l : List α) (p : α), Sx.Up lt (p :: l) → (p :: ddFrom p l).Nodup
  | [], p, _ => List.nodup_cons.mpr ⟨List.not_mem_nil, List.nodup_nil⟩
  | y :: l, p, u => by
    have u2 := List.pairwise_cons.mp u
    have ih := ddFrom_nodup O l y u2.2
    unfold ddFrom
    split
    · rename_i c
      rw [c]
      exact ih
    · rename_i c
      refine List.nodup_cons.mpr ⟨fun m => ?_, ih⟩
      rcases List.mem_cons.mp m with e | m
      · exact c e
      · have m' := (ddFrom_sub l y).subset m
        exact c (O.anti ((List.pairwise_cons.mp u2.2).1 p m') (u2.1 y List.mem_cons_self))
theorem dd_asc {lt : α → α → Bool} (O : Sx.Lin lt) {o m : List α} (u : Sx.Up lt o) (h : ∀ x, x ∈ o ↔ x ∈ m) : dd o = Sx.asc lt m := by
  refine O.is_asc ?_ (List.Pairwise.sublist (dd_sub o) u) fun x => (dd_mem o x).trans (h x)
  cases o with
  | nil => exact List.nodup_nil
  | cons x l => exact ddFrom_nodup O l x u
end
abbrev nAscend : List PySem.Str := ["row", "ordered", "k"]
theorem scAscend : FnScope nAscend ["row"] (defScope sAscend) := ⟨rfl, rfl, rfl, by decide +kernel, rfl, by decide +kernel, by decide +kernel⟩
section
variable {P : Program} {w : World} {K : PySem.W.Frag} {mg : PySem.Str → Option Value} {base : Heap}
/-! _law_ascending -/
def spAscI (K : PySem.W.Frag) : Sp := fun vs H Q _ => ∃ (a : Addr) (ys : List Int), vs = [.ref a] ∧ SqL K H a (ys.map V.int) ∧ ys.length ≤ 10000 ∧ ∀ (p : Addr) (H' : Hp), Same H H' → H' p = some (.tup ((intsOf ys).map V.int)) → Q (.ref p) H'
def spAscS (K : PySem.W.Frag) : Sp := fun vs H Q _ => ∃ (a : Addr) (ys : List PySem.Str), vs = [.ref a] ∧ SqL K H a (ys.map V.str) ∧ ys.length ≤ 10000 ∧ ∀ (p : Addr) (H' : Hp), Same H H' → H' p = some (.tup ((Sx.asc Sx.ltText ys).map V.str)) → Q (.ref p) H'
def spAscT (K : PySem.W.Frag) : Sp := fun vs H Q _ => ∃ (a : Addr) (R : Sx.Rows) (c : Bool) (sh : List Bool), vs = [.ref a] ∧ SqL K H a (Sx.refsOf R) ∧ Sx.TupsIn H R ∧ (∀ p ∈ R, Sx.shp p.2 = c :: sh) ∧ (∀ p ∈ R, ∀ x ∈ p.2, KeyOk x) ∧ R.length ≤ 10000 ∧
  ∀ (p : Addr) (R' : Sx.Rows) (H' : Hp), Same H H' → H' p = some (.tup (Sx.refsOf R')) → Sx.TupsIn H' R' → R'.map (·.2) = Sx.asc Sx.ltT (R.map (·.2)) → Q (.ref p) H'

theorem ok_ascI {f : Addr} {fd : FuncData} (F : Fun K "_law_ascending" "_law_ascending" sAscend f fd) (T : TM mg) : FnOk P w K mg base CX0 1 f fd ["row"] (spAscI K) := by
  refine F.ok scAscend (fun vs H Q E h => ?_) (fun cdv A outer s H vs Q E hr h => ?_)
  · obtain ⟨a, ys, rfl, _⟩ := h
    rfl
  · obtain ⟨a, ys, rfl, hS, few, k⟩ := h
    have nd := scAscend.nd
    refine ⟨_, (pss_cons (ps_set (i := 1) nd rfl (Or.inr rfl) (pe_callB cr_sortedI (by rfl) T.sorted (by decide +kernel) (pa_cons (pv 0) pa_nil)))
      (pss_one (ps_ret (pe_callTy call_tuple_of (by rfl) T.tuple PyProof.Rows.Boot.tuple (pa_cons (pe_lc (own := [("k", 2)]) (g := gName 2) (by rfl) nd (pi_range1 (by rfl) T.range (pa_cons (pe_callB call_len_seq (by rfl) T.len PySem.boot_len (pa_cons (pv 1) pa_nil)) pa_nil)) (blkOk_by (own := [("k", 2)]) (N := nAscend) (sc := defScope sAscend) (by decide +kernel)) (fun _ _ _ _ _ => pg_name (i := 2) nd rfl (Or.inl rfl)) (fun _ _ _ _ _ => pts_one (PW.pt (pw_or (pt_cmpR op_eq (pv 2) pe_int (nomark _)) (pw_or1 (pt_cmpR op_ne (pe_ix (r := rIxL K) ix_list (pv 1) (pv 2) fun _ _ => rfl) (pe_ix (r := rIxL K) ix_list (pv 1) (pe_op op_sub (pv 2) pe_int) fun _ _ => rfl) (nomark _)))))) (fun _ _ _ _ _ => (pe_ix (r := rIxL K) ix_list (pv 1) (pv 2) fun _ _ => rfl))) pa_nil))))), ?_⟩
    refine ⟨_, rfl, a, ys, rfl, hS, fun o q pm up nq => ?_⟩
    have s01 := same_new (o := HO.lst (o.map V.int)) nq
    have hq : (upd H q (.lst (o.map V.int))) q = some (.lst (o.map V.int)) := upd_same
    dsimp only [gName]
    generalize upd H q (.lst (o.map V.int)) = H1 at s01 hq ⊢
    have lens := pm.length_eq
    have eqA : dd o = intsOf ys := dd_asc lin_int (up.imp fun {x y} h => decide_eq_false (by omega)) fun x => pm.mem_iff
    have lo : (o.map V.int).length = o.length := List.length_map ..
    refine ⟨_, rfl, q, _, rfl, .inl (SqL.of hq), _, rfl, by omega, by omega, fun Dn nDn => lc_range (lo := 0) (n := (((o.map V.int).length : Nat) : Int).toNat) (fun i H' => Same H1 H' ∧ H' Dn = some (.lst ((dd (o.take i)).map V.int))) ⟨same_new nDn, upd_same⟩ ?_ ?_⟩
    · rintro i H2 hi ⟨s2, h2⟩
      have i' : i < o.length := by omega
      obtain ⟨x, ex⟩ : ∃ x, o[i]? = some x := ⟨_, List.getElem?_eq_getElem i'⟩
      have atx : atI (o.map V.int) (0 + (i : Int)) = some (.int x) := by
        rw [show (0 : Int) + (i : Int) = ((i : Nat) : Int) by omega]
        exact atI_nat (by rw [List.getElem?_map, ex] <;> rfl)
      have hq2 := s2 _ _ hq
      have dl : (dd (o.take i)).length < sizeLine := Nat.lt_of_le_of_lt (Nat.le_trans (dd_len _) (by rw [List.length_take]; exact Nat.le_trans (Nat.min_le_right _ _) (show o.length ≤ 10000 by omega))) (by decide)
      have put : dd (o.take (i + 1)) = dd (o.take i) ++ [x] → Same H1 (upd H2 Dn (.lst ((dd (o.take i)).map V.int ++ [V.int x]))) ∧ (upd H2 Dn (.lst ((dd (o.take i)).map V.int ++ [V.int x]))) Dn = some (.lst ((dd (o.take (i + 1))).map V.int)) := fun e => by
        refine ⟨same_mut s2 nDn, ?_⟩
        rw [upd_same, e, List.map_append] <;> rfl
      refine ⟨rfl, ?_⟩
      refine ⟨_, rfl, rfl, _, rfl, ite2 (fun c => ?_) (fun c => ?_)⟩
      · have i0 : i = 0 := by
          have := V.int.inj (of_decide_eq_true c)
          omega
        refine ⟨_, rfl, _, rfl, q, _, _, .int x, rfl, rfl, SqL.of hq2, atx, _, h2, by rw [List.length_map]; exact dl, put ?_⟩
        subst i0
        rw [take_at ex]
        rfl
      · have ni : i ≠ 0 := fun z => c (decide_eq_true (by rw [z] <;> rfl))
        obtain ⟨j, rfl⟩ : ∃ j, i = j + 1 := ⟨i - 1, by omega⟩
        obtain ⟨y, ey⟩ : ∃ y, o[j]? = some y := ⟨_, List.getElem?_eq_getElem (by omega)⟩
        have aty : atI (o.map V.int) (0 + ((j + 1 : Nat) : Int) - 1) = some (.int y) := by
          rw [show (0 : Int) + ((j + 1 : Nat) : Int) - 1 = ((j : Nat) : Int) by omega]
          exact atI_nat (by rw [List.getElem?_map, ey] <;> rfl)
        have st := dd_step ey ex
        refine ⟨_, rfl, _, rfl, q, _, _, .int x, rfl, rfl, SqL.of hq2, atx, _, rfl, _, rfl, _, _, rfl, rfl, q, _, _, .int y, rfl, rfl, SqL.of hq2, aty, rfl, _, rfl, ite2 (fun c2 => ?_) (fun c2 => ?_)⟩
        · have ne : ¬ (y = x) := fun z => by
            rw [z, decide_eq_true rfl] at c2
            cases c2
          rw [if_neg ne] at st
          exact ⟨_, rfl, _, rfl, q, _, _, .int x, rfl, rfl, SqL.of hq2, atx, _, h2, by rw [List.length_map]; exact dl, put st⟩
        · have e : y = x := Classical.byContradiction fun z => c2 (by rw [decide_eq_false (fun u => z (V.int.inj u).symm)]; rfl)
          rw [if_pos e, List.append_nil] at st
          exact ⟨s2, by rw [st]; exact h2⟩
    rintro H2 ⟨s2, h2⟩
    rw [List.take_of_length_le (by omega), eqA] at h2
    exact ⟨Dn, _, rfl, .inl ⟨SqL.of h2, fun p np => k p _ ((s01.trans s2).trans (same_new np)) upd_same⟩⟩

theorem ok_ascS {f : Addr} {fd : FuncData} (F : Fun K "_law_ascending" "_law_ascending" sAscend f fd) (T : TM mg) : FnOk P w K mg base CX0 1 f fd ["row"] (spAscS K) := by
  refine F.ok scAscend (fun vs H Q E h => ?_) (fun cdv A outer s H vs Q E hr h => ?_)
  · obtain ⟨a, ys, rfl, _⟩ := h
    rfl
  · obtain ⟨a, ys, rfl, hS, few, k⟩ := h
    have nd := scAscend.nd
    refine ⟨_, (pss_cons (ps_set (i := 1) nd rfl (Or.inr rfl) (pe_callB Sx.cr_sortS (by rfl) T.sorted (by decide +kernel) (pa_cons (pv 0) pa_nil)))
      (pss_one (ps_ret (pe_callTy call_tuple_of (by rfl) T.tuple PyProof.Rows.Boot.tuple (pa_cons (pe_lc (own := [("k", 2)]) (g := gName 2) (by rfl) nd (pi_range1 (by rfl) T.range (pa_cons (pe_callB call_len_seq (by rfl) T.len PySem.boot_len (pa_cons (pv 1) pa_nil)) pa_nil)) (blkOk_by (own := [("k", 2)]) (N := nAscend) (sc := defScope sAscend) (by decide +kernel)) (fun _ _ _ _ _ => pg_name (i := 2) nd rfl (Or.inl rfl)) (fun _ _ _ _ _ => pts_one (PW.pt (pw_or (pt_cmpR op_eq (pv 2) pe_int (nomark _)) (pw_or1 (pt_cmpR op_ne (pe_ix (r := rIxL K) ix_list (pv 1) (pv 2) fun _ _ => rfl) (pe_ix (r := rIxL K) ix_list (pv 1) (pe_op op_sub (pv 2) pe_int) fun _ _ => rfl) (nomark _)))))) (fun _ _ _ _ _ => (pe_ix (r := rIxL K) ix_list (pv 1) (pv 2) fun _ _ => rfl))) pa_nil))))), ?_⟩
    refine ⟨_, rfl, a, ys, rfl, hS, fun q nq => ?_⟩
    obtain ⟨o, eo⟩ : ∃ o, o = Sx.srt Sx.ltText ys := ⟨_, rfl⟩
    rw [← eo]
    have s01 := same_new (o := HO.lst (o.map V.str)) nq
    have hq : (upd H q (.lst (o.map V.str))) q = some (.lst (o.map V.str)) := upd_same
    dsimp only [gName]
    generalize upd H q (.lst (o.map V.str)) = H1 at s01 hq ⊢
    have pm : o.Perm ys := by rw [eo]; exact Sx.srt_perm _ _
    have lens := pm.length_eq
    have eqA : dd o = Sx.asc Sx.ltText ys := dd_asc Sx.lin_text (by rw [eo]; exact Sx.lin_text.srt_up ys) fun x => pm.mem_iff
    have lo : (o.map V.str).length = o.length := List.length_map ..
    refine ⟨_, rfl, q, _, rfl, .inl (SqL.of hq), _, rfl, by omega, by omega, fun Dn nDn => lc_range (lo := 0) (n := (((o.map V.str).length : Nat) : Int).toNat) (fun i H' => Same H1 H' ∧ H' Dn = some (.lst ((dd (o.take i)).map V.str))) ⟨same_new nDn, upd_same⟩ ?_ ?_⟩
    · rintro i H2 hi ⟨s2, h2⟩
      have i' : i < o.length := by omega
      obtain ⟨x, ex⟩ : ∃ x, o[i]? = some x := ⟨_, List.getElem?_eq_getElem i'⟩
      have atx : atI (o.map V.str) (0 + (i : Int)) = some (.str x) := by
        rw [show (0 : Int) + (i : Int) = ((i : Nat) : Int) by omega]
        exact atI_nat (by rw [List.getElem?_map, ex] <;> rfl)
      have hq2 := s2 _ _ hq
      have dl : (dd (o.take i)).length < sizeLine := Nat.lt_of_le_of_lt (Nat.le_trans (dd_len _) (by rw [List.length_take]; exact Nat.le_trans (Nat.min_le_right _ _) (show o.length ≤ 10000 by omega))) (by decide)
      have put : dd (o.take (i + 1)) = dd (o.take i) ++ [x] → Same H1 (upd H2 Dn (.lst ((dd (o.take i)).map V.str ++ [V.str x]))) ∧ (upd H2 Dn (.lst ((dd (o.take i)).map V.str ++ [V.str x]))) Dn = some (.lst ((dd (o.take (i + 1))).map V.str)) := fun e => by
        refine ⟨same_mut s2 nDn, ?_⟩
        rw [upd_same, e, List.map_append] <;> rfl
      refine ⟨rfl, ?_⟩
      refine ⟨_, rfl, rfl, _, rfl, ite2 (fun c => ?_) (fun c => ?_)⟩
      · have i0 : i = 0 := by
          have := V.int.inj (of_decide_eq_true c)
          omega
        refine ⟨_, rfl, _, rfl, q, _, _, .str x, rfl, rfl, SqL.of hq2, atx, _, h2, by rw [List.length_map]; exact dl, put ?_⟩
        subst i0
        rw [take_at ex]
        rfl
      · have ni : i ≠ 0 := fun z => c (decide_eq_true (by rw [z] <;> rfl))
        obtain ⟨j, rfl⟩ : ∃ j, i = j + 1 := ⟨i - 1, by omega⟩
        obtain ⟨y, ey⟩ : ∃ y, o[j]? = some y := ⟨_, List.getElem?_eq_getElem (by omega)⟩
        have aty : atI (o.map V.str) (0 + ((j + 1 : Nat) : Int) - 1) = some (.str y) := by
          rw [show (0 : Int) + ((j + 1 : Nat) : Int) - 1 = ((j : Nat) : Int) by omega]
          exact atI_nat (by rw [List.getElem?_map, ey] <;> rfl)
        have st := dd_step ey ex
        refine ⟨_, rfl, _, rfl, q, _, _, .str x, rfl, rfl, SqL.of hq2, atx, _, rfl, _, rfl, _, _, rfl, rfl, q, _, _, .str y, rfl, rfl, SqL.of hq2, aty, rfl, _, rfl, ite2 (fun c2 => ?_) (fun c2 => ?_)⟩
        · have ne : ¬ (y = x) := fun z => by
            rw [z, decide_eq_true rfl] at c2
            cases c2
          rw [if_neg ne] at st
          exact ⟨_, rfl, _, rfl, q, _, _, .str x, rfl, rfl, SqL.of hq2, atx, _, h2, by rw [List.length_map]; exact dl, put st⟩
        · have e : y = x := Classical.byContradiction fun z => c2 (by rw [decide_eq_false (fun u => z (V.str.inj u).symm)]; rfl)
          rw [if_pos e, List.append_nil] at st
          exact ⟨s2, by rw [st]; exact h2⟩
    rintro H2 ⟨s2, h2⟩
    rw [List.take_of_length_le (by omega), eqA] at h2
    exact ⟨Dn, _, rfl, .inl ⟨SqL.of h2, fun p np => k p _ ((s01.trans s2).trans (same_new np)) upd_same⟩⟩

theorem ok_ascT {f : Addr} {fd : FuncData} (F : Fun K "_law_ascending" "_law_ascending" sAscend f fd) (T : TM mg) : FnOk P w K mg base CX0 1 f fd ["row"] (spAscT K) := by
  refine F.ok scAscend (fun vs H Q E h => ?_) (fun cdv A outer s H vs Q E hr h => ?_)
  · obtain ⟨a, R, c, sh, rfl, _⟩ := h
    rfl
  · obtain ⟨a, R, c, sh, rfl, hS, hT, hsh, hok, few, k⟩ := h
    have nd := scAscend.nd
    have hu64 := hr.units
    refine ⟨_, (pss_cons (ps_set (i := 1) nd rfl (Or.inr rfl) (pe_callB Sx.cr_sortM (by rfl) T.sorted (by decide +kernel) (pa_cons (pv 0) pa_nil)))
      (pss_one (ps_ret (pe_callTy call_tuple_of (by rfl) T.tuple PyProof.Rows.Boot.tuple (pa_cons (pe_lc (own := [("k", 2)]) (g := gName 2) (by rfl) nd (pi_range1 (by rfl) T.range (pa_cons (pe_callB call_len_seq (by rfl) T.len PySem.boot_len (pa_cons (pv 1) pa_nil)) pa_nil)) (blkOk_by (own := [("k", 2)]) (N := nAscend) (sc := defScope sAscend) (by decide +kernel)) (fun _ _ _ _ _ => pg_name (i := 2) nd rfl (Or.inl rfl)) (fun _ _ _ _ _ => pts_one (PW.pt (pw_or (pt_cmpR op_eq (pv 2) pe_int (nomark _)) (pw_or1 (pt_cmpR (r := rNeD K) (op_neD hu64) (pe_ix (r := rIxL K) ix_list (pv 1) (pv 2) fun _ _ => rfl) (pe_ix (r := rIxL K) ix_list (pv 1) (pe_op op_sub (pv 2) pe_int) fun _ _ => rfl) (nomark _)))))) (fun _ _ _ _ _ => (pe_ix (r := rIxL K) ix_list (pv 1) (pv 2) fun _ _ => rfl))) pa_nil))))), ?_⟩
    refine ⟨_, rfl, a, R, c, sh, rfl, hS, hT, hsh, fun o q pm up nq => ?_⟩
    have s01 := same_new (o := HO.lst (Sx.refsOf o)) nq
    have hq : (upd H q (.lst (Sx.refsOf o))) q = some (.lst (Sx.refsOf o)) := upd_same
    dsimp only [gName]
    generalize upd H q (.lst (Sx.refsOf o)) = H1 at s01 hq ⊢
    have lens := pm.length_eq
    have hTo : ∀ p ∈ o, H p.1 = some (.tup (p.2.map kV)) := fun p m => hT p (pm.mem_iff.mp m)
    have hko : ∀ p ∈ o, ∀ x ∈ p.2, KeyOk x := fun p m => hok p (pm.mem_iff.mp m)
    have eqA : dd (o.map (·.2)) = Sx.asc Sx.ltT (R.map (·.2)) := dd_asc Sx.lin_tup (List.pairwise_map.mpr up) fun x => (pm.map (·.2)).mem_iff
    have lo : (Sx.refsOf o).length = o.length := List.length_map ..
    refine ⟨_, rfl, q, _, rfl, .inl (SqL.of hq), _, rfl, by omega, by omega, fun Dn nDn => lc_range (lo := 0) (n := (((Sx.refsOf o).length : Nat) : Int).toNat) (fun i H' => Same H1 H' ∧ ∃ R' : Sx.Rows, H' Dn = some (.lst (Sx.refsOf R')) ∧ (∀ p ∈ R', p ∈ o) ∧ R'.map (·.2) = dd ((o.map (·.2)).take i)) ⟨same_new nDn, [], upd_same, fun p m => absurd m List.not_mem_nil, rfl⟩ ?_ ?_⟩
    · rintro i H2 hi ⟨s2, R', h2, sub, eR⟩
      have i' : i < o.length := by omega
      obtain ⟨x, ex⟩ : ∃ x, o[i]? = some x := ⟨_, List.getElem?_eq_getElem i'⟩
      have mx := List.mem_of_getElem? ex
      have ek : (o.map (·.2))[i]? = some x.2 := by rw [List.getElem?_map, ex] <;> rfl
      have atx : atI (Sx.refsOf o) (0 + (i : Int)) = some (.ref x.1) := by
        rw [show (0 : Int) + (i : Int) = ((i : Nat) : Int) by omega]
        exact atI_nat (by unfold Sx.refsOf; rw [List.getElem?_map, ex] <;> rfl)
      have hq2 := s2 _ _ hq
      have lR : R'.length ≤ 10000 := by
        have z := congrArg List.length eR
        rw [List.length_map] at z
        have y := dd_len ((o.map (·.2)).take i)
        rw [List.length_take, List.length_map] at y
        omega
      have dl : (Sx.refsOf R').length < sizeLine := by
        unfold Sx.refsOf
        rw [List.length_map]
        exact Nat.lt_of_le_of_lt lR (by decide)
      have put : dd ((o.map (·.2)).take (i + 1)) = dd ((o.map (·.2)).take i) ++ [x.2] → Same H1 (upd H2 Dn (.lst (Sx.refsOf R' ++ [V.ref x.1]))) ∧ ∃ R'' : Sx.Rows, (upd H2 Dn (.lst (Sx.refsOf R' ++ [V.ref x.1]))) Dn = some (.lst (Sx.refsOf R'')) ∧ (∀ p ∈ R'', p ∈ o) ∧ R''.map (·.2) = dd ((o.map (·.2)).take (i + 1)) := fun e => by
        refine ⟨same_mut s2 nDn, R' ++ [x], ?_, fun p m => ?_, ?_⟩
        · rw [upd_same]
          unfold Sx.refsOf
          rw [List.map_append] <;> rfl
        · rcases List.mem_append.mp m with m | m
          · exact sub p m
          · rw [List.mem_singleton.mp m]; exact mx
        · rw [e, List.map_append, eR] <;> rfl
      refine ⟨rfl, ?_⟩
      refine ⟨_, rfl, rfl, _, rfl, ite2 (fun c => ?_) (fun c => ?_)⟩
      · have i0 : i = 0 := by
          have := V.int.inj (of_decide_eq_true c)
          omega
        refine ⟨_, rfl, _, rfl, q, _, _, .ref x.1, rfl, rfl, SqL.of hq2, atx, _, h2, dl, put ?_⟩
        subst i0
        rw [take_at ek]
        rfl
      · have ni : i ≠ 0 := fun z => c (decide_eq_true (by rw [z] <;> rfl))
        obtain ⟨j, rfl⟩ : ∃ j, i = j + 1 := ⟨i - 1, by omega⟩
        obtain ⟨y, ey⟩ : ∃ y, o[j]? = some y := ⟨_, List.getElem?_eq_getElem (by omega)⟩
        have my := List.mem_of_getElem? ey
        have ekj : (o.map (·.2))[j]? = some y.2 := by rw [List.getElem?_map, ey] <;> rfl
        have aty : atI (Sx.refsOf o) (0 + ((j + 1 : Nat) : Int) - 1) = some (.ref y.1) := by
          rw [show (0 : Int) + ((j + 1 : Nat) : Int) - 1 = ((j : Nat) : Int) by omega]
          exact atI_nat (by unfold Sx.refsOf; rw [List.getElem?_map, ey] <;> rfl)
        have st := dd_step ekj ek
        have s02 := s01.trans s2
        refine ⟨_, rfl, _, rfl, q, _, _, .ref x.1, rfl, rfl, SqL.of hq2, atx, _, rfl, _, rfl, _, _, rfl, rfl, q, _, _, .ref y.1, rfl, rfl, SqL.of hq2, aty, _, _, dp_keys (s02 _ _ (hTo x mx)), dp_keys (s02 _ _ (hTo y my)), shaped_keys (hko x mx), shaped_keys (hko y my), _, rfl, ?_⟩
        rw [eqv_keys]
        refine ite2 (fun c2 => ?_) (fun c2 => ?_)
        · have ne : ¬ (y.2 = x.2) := fun z => by
            rw [z, decide_eq_true rfl] at c2
            cases c2
          rw [if_neg ne] at st
          exact ⟨_, rfl, _, rfl, q, _, _, .ref x.1, rfl, rfl, SqL.of hq2, atx, _, h2, dl, put st⟩
        · have e : y.2 = x.2 := Classical.byContradiction fun z => c2 (by rw [decide_eq_false (fun u => z u.symm)]; rfl)
          rw [if_pos e, List.append_nil] at st
          exact ⟨s2, R', h2, sub, by rw [st]; exact eR⟩
    rintro H2 ⟨s2, R', h2, sub, eR⟩
    rw [List.take_of_length_le (by rw [List.length_map]; omega), eqA] at eR
    have s02 := s01.trans s2
    exact ⟨Dn, _, rfl, .inl ⟨SqL.of h2, fun p np => k p R' _ (s02.trans (same_new np)) upd_same (fun z m => same_new np _ _ (s02 _ _ (hTo z (sub z m)))) eR⟩⟩
end
end Mk

set_option Elab.async false
set_option linter.unusedVariables false
set_option maxRecDepth 100000
set_option maxHeartbeats 16000000
namespace Mk
open PySem L2 Pk
theorem fil_step {L : List PySem.Str} {i : Nat} {x : PySem.Str} (e : L[i]? = some x) : (L.take (i + 1)).filter (fun x => decide (x ≠ nil0)) = (L.take i).filter (fun x => decide (x ≠ nil0)) ++ (if x ≠ nil0 then [x] else []) := by
  rw [take_at e, List.filter_append, List.filter_cons]
  by_cases c : x ≠ nil0
  · rw [if_pos (decide_eq_true c), if_pos c]; rfl
  · rw [if_neg (by rw [decide_eq_false c]; exact Bool.false_ne_true), if_neg c]; rfl
theorem adjK_take {κ : Type} [DecidableEq κ] : ∀ {l : List κ} {j : Nat} {a : κ}, adjK (l.take j) = some a → adjK l = some a
  | [], j, a, h => by rw [List.take_nil] at h; exact h
  | x :: l, 0, a, h => by cases h
  | [x], j + 1, a, h => by rw [List.take_succ_cons, List.take_nil] at h; exact h
  | x :: y :: l, 1, a, h => by cases h
  | x :: y :: l, j + 2, a, h => by
    have e1 : adjK ((x :: y :: l).take (j + 2)) = if x = y then some x else adjK ((y :: l).take (j + 1)) := rfl
    have e2 : adjK (x :: y :: l) = if x = y then some x else adjK (y :: l) := rfl
    rw [e1] at h
    rw [e2]
    split
    · rename_i c
      rw [if_pos c] at h
      exact h
    · rename_i c
      rw [if_neg c] at h
      exact adjK_take h
abbrev nFound : List PySem.Str := ["rules", "found", "rule"]
theorem scFound : FnScope nFound ["rules"] (defScope sFound) := ⟨rfl, rfl, rfl, by decide +kernel, rfl, by decide +kernel, by decide +kernel⟩
abbrev nGuessL : List PySem.Str := ["due", "k"]
theorem scGuessL : FnScope nGuessL ["due"] (defScope sGuessL) := ⟨rfl, rfl, rfl, by decide +kernel, rfl, by decide +kernel, by decide +kernel⟩
section
variable {P : Program} {w : World} {K : PySem.W.Frag} {mg : PySem.Str → Option Value} {base : Heap}
/-! _law_found -/
def spFound : Sp := fun vs H Q _ => ∃ (a : Addr) (R : Kept), vs = [.ref a] ∧ H a = some (.tup (refsK R)) ∧ KeptAt H R ∧ R.length ≤ 1999 ∧ ∀ (p : Addr) (H' : Hp), Same H H' → H' p = some (.tup ((symsL (R.map (·.2))).map V.str)) → Q (.ref p) H'
theorem ok_found {f : Addr} {fd : FuncData} (F : Fun K "_law_found" "_law_found" sFound f fd) (T : TM mg) (G : Got P w K mg base "_law_ascending" 1 ["row"] (spAscS K)) : FnOk P w K mg base CX0 2 f fd ["rules"] spFound := by
  refine F.ok scFound (fun vs H Q E h => ?_) (fun cdv A outer s H vs Q E hr h => ?_)
  · obtain ⟨a, R, rfl, _⟩ := h
    rfl
  · obtain ⟨a, R, rfl, ha, hK, few, k⟩ := h
    have nd := scFound.nd
    refine ⟨_, (pss_cons (ps_setLc (i := 1) (own := [("rule", 2)]) (g := gName 2) (by rfl) nd rfl rfl (sw_true rfl rfl rfl (by decide +kernel)) (pi_tup (pv 0)) (blkOk_by (own := [("rule", 2)]) (N := nFound) (sc := defScope sFound) (by decide +kernel)) (fun _ _ _ _ _ => pg_name (i := 2) nd rfl (Or.inl rfl)) (fun _ _ _ _ _ => pts_one (pt_cmpR op_ne (pe_ix (r := rIxT K) ix_tup (pv 2) pe_int fun _ _ => rfl) pe_str (nomark _))) (fun _ _ _ _ _ => (pe_ix (r := rIxT K) ix_tup (pv 2) pe_int fun _ _ => rfl)))
      (pss_one (ps_ret (pe_got G hr (by rfl) (pa_cons (pe_op op_cat (pv 1) (pe_lc (own := [("rule", 2)]) (g := gName 2) (by rfl) nd (pi_tup (pv 0)) (blkOk_by (own := [("rule", 2)]) (N := nFound) (sc := defScope sFound) (by decide +kernel)) (fun _ _ _ _ _ => pg_name (i := 2) nd rfl (Or.inl rfl)) (fun _ _ _ _ _ => pts_one (pt_cmpR op_ne (pe_ix (r := rIxT K) ix_tup (pv 2) pe_int fun _ _ => rfl) pe_str (nomark _))) (fun _ _ _ _ _ => (pe_ix (r := rIxT K) ix_tup (pv 2) pe_int fun _ _ => rfl)))) pa_nil))))), ?_⟩
    have kk := hK
    have lR : (refsK R).length = R.length := List.length_map ..
    refine ⟨_, rfl, a, rfl, ⟨_, .inl (.inl ha)⟩, fun D nD => lc_tup (K := K) (a := a) (xs := refsK R) (fun i' H' => Same H H' ∧ H' D = some (.lst (((((R.map (·.2)).map Rl.tp).take i').filter fun x => decide (x ≠ nil0)).map V.str))) ⟨same_new nD, upd_same⟩ (fun i' H' _ h => .inl (.inl (h.1 _ _ ha))) ?_ ?_⟩
    · rintro i' v H5 hi' ⟨s5, h5⟩
      obtain ⟨r, er, rfl⟩ := at_refs hi'
      have mr := List.mem_of_getElem? er
      have er' : ((R.map (·.2)).map Rl.tp)[i']? = some r.2.tp := by rw [List.getElem?_map, List.getElem?_map, er] <;> rfl
      have st := fil_step er'
      have hr5 := s5 _ _ (kk r mr)
      refine ⟨rfl, ?_⟩
      refine ⟨_, rfl, r.1, r.2.vs, 2, .str r.2.tp, rfl, rfl, .inl (.inl hr5), rfl, rfl, _, rfl, ite2 (fun c => ?_) (fun c => ?_)⟩
      · have ne : r.2.tp ≠ nil0 := fun z => by
          rw [z, decide_eq_true rfl] at c
          cases c
        rw [if_pos ne] at st
        refine ⟨_, rfl, r.1, r.2.vs, 2, .str r.2.tp, rfl, rfl, .inl (.inl hr5), rfl, _, h5, ?_, same_mut s5 nD, ?_⟩
        · rw [List.length_map]
          exact Nat.lt_of_le_of_lt (Nat.le_trans (List.length_filter_le _ _) (by rw [List.length_take, List.length_map, List.length_map]; omega)) (show 2000 < sizeLine by decide)
        · rw [upd_same, st, List.map_append] <;> rfl
      · have e : r.2.tp = nil0 := Classical.byContradiction fun z => c (by rw [decide_eq_false (fun u => z (V.str.inj u))]; rfl)
        rw [if_neg (fun z => z e), List.append_nil] at st
        exact ⟨s5, by rw [st]; exact h5⟩

    rintro H1 ⟨s1, hD⟩
    have ha1 := s1 _ _ ha
    replace kk : KeptAt H1 R := hK.mono s1
    refine ⟨_, rfl, _, rfl, a, rfl, ⟨_, .inl (.inl ha1)⟩, fun D2 nD2 => lc_tup (K := K) (a := a) (xs := refsK R) (fun i' H' => Same H1 H' ∧ H' D2 = some (.lst (((((R.map (·.2)).map Rl.sy).take i').filter fun x => decide (x ≠ nil0)).map V.str))) ⟨same_new nD2, upd_same⟩ (fun i' H' _ h => .inl (.inl (h.1 _ _ ha1))) ?_ ?_⟩
    · rintro i' v H5 hi' ⟨s5, h5⟩
      obtain ⟨r, er, rfl⟩ := at_refs hi'
      have mr := List.mem_of_getElem? er
      have er' : ((R.map (·.2)).map Rl.sy)[i']? = some r.2.sy := by rw [List.getElem?_map, List.getElem?_map, er] <;> rfl
      have st := fil_step er'
      have hr5 := s5 _ _ (kk r mr)
      refine ⟨rfl, ?_⟩
      refine ⟨_, rfl, r.1, r.2.vs, 6, .str r.2.sy, rfl, rfl, .inl (.inl hr5), rfl, rfl, _, rfl, ite2 (fun c => ?_) (fun c => ?_)⟩
      · have ne : r.2.sy ≠ nil0 := fun z => by
          rw [z, decide_eq_true rfl] at c
          cases c
        rw [if_pos ne] at st
        refine ⟨_, rfl, r.1, r.2.vs, 6, .str r.2.sy, rfl, rfl, .inl (.inl hr5), rfl, _, h5, ?_, same_mut s5 nD2, ?_⟩
        · rw [List.length_map]
          exact Nat.lt_of_le_of_lt (Nat.le_trans (List.length_filter_le _ _) (by rw [List.length_take, List.length_map, List.length_map]; omega)) (show 2000 < sizeLine by decide)
        · rw [upd_same, st, List.map_append] <;> rfl
      · have e : r.2.sy = nil0 := Classical.byContradiction fun z => c (by rw [decide_eq_false (fun u => z (V.str.inj u))]; rfl)
        rw [if_neg (fun z => z e), List.append_nil] at st
        exact ⟨s5, by rw [st]; exact h5⟩

    rintro H2 ⟨s2, hD2⟩
    have lr : (R.map (·.2)).length = R.length := List.length_map ..
    rw [List.take_of_length_le (by rw [List.length_map, List.length_map]; omega)] at hD hD2
    have l1 : (((R.map (·.2)).map Rl.tp).filter fun x => decide (x ≠ nil0)).length ≤ 1999 := Nat.le_trans (List.length_filter_le _ _) (by rw [List.length_map]; omega)
    have l2 : (((R.map (·.2)).map Rl.sy).filter fun x => decide (x ≠ nil0)).length ≤ 1999 := Nat.le_trans (List.length_filter_le _ _) (by rw [List.length_map]; omega)
    refine ⟨D, D2, _, _, rfl, rfl, s2 _ _ hD, hD2, ?_, fun u nu => ⟨u, (((R.map (·.2)).map Rl.tp).filter fun x => decide (x ≠ nil0)) ++ (((R.map (·.2)).map Rl.sy).filter fun x => decide (x ≠ nil0)), rfl, SqL.of (by rw [upd_same, List.map_append]), ?_, fun p H' s' hp => k p H' (((s1.trans s2).trans (same_new nu)).trans s') ?_⟩⟩
    · rw [List.length_map, List.length_map]
      exact Nat.le_trans (show _ ≤ 5000 by omega) (by decide)
    · rw [List.length_append]
      omega
    · unfold symsL
      rw [List.filter_append]
      exact hp
/-! _law_guess -/
def spGuessL : Sp := fun vs H Q _ => ∃ (a : Addr) (R : Kept), vs = [.ref a] ∧ H a = some (.tup (refsK R)) ∧ KeptAt H R ∧ (∀ p ∈ R, ∀ x ∈ p.2.key, KeyOk x) ∧ R.length ≤ 1999 ∧ ∀ (v : V) (H' : Hp), Same H H' → GuessV H' v (adjK ((R.map (·.2)).map Rl.k3)) → Q v H'
theorem ok_guessL {f : Addr} {fd : FuncData} (F : Fun K "_law_guess" "_law_guess" sGuessL f fd) (T : TM mg) : FnOk P w K mg base CX0 1 f fd ["due"] spGuessL := by
  refine F.ok scGuessL (fun vs H Q E h => ?_) (fun cdv A outer s H vs Q E hr h => ?_)
  · obtain ⟨a, R, rfl, _⟩ := h
    rfl
  · obtain ⟨a, R, rfl, ha, hK, okR, few, k⟩ := h
    have nd := scGuessL.nd
    have hu64 := hr.units
    refine ⟨_, (pss_cons (ps_for PassesOwn.never rfl (pi_range2 (by rfl) T.range (pa_cons pe_int (pa_cons (pe_callB call_len_seq (by rfl) T.len PySem.boot_len (pa_cons (pv 0) pa_nil)) pa_nil))) (pg_name (i := 1) nd rfl (Or.inl rfl))
        (pss_one (ps_if (pt_cmpR (op_eqD hu64) (pe_slice sl_tup (pe_ix ix_tup (pv 0) (pv 1) fun _ _ => rfl) po_none (po_some pe_int)) (pe_slice sl_tup (pe_ix ix_tup (pv 0) (pe_op op_sub (pv 1) pe_int) fun _ _ => rfl) po_none (po_some pe_int)) (nomark _))
          (pss_one (ps_ret (pe_slice sl_tup (pe_ix ix_tup (pv 0) (pv 1) fun _ _ => rfl) po_none (po_some pe_int))))
          pss_nil)))
      (pss_one (ps_ret pe_non))), ?_⟩
    have lR : (refsK R).length = R.length := List.length_map ..
    have c3 : ¬ (HT.sIx 8 0 none = 0 ∧ HT.sIx 8 8 (some 3) = 8) := by decide
    obtain ⟨ks, hks⟩ : ∃ ks, ks = (R.map (·.2)).map Rl.k3 := ⟨_, rfl⟩
    rw [← hks] at k
    have lks : ks.length = R.length := by rw [hks, List.length_map, List.length_map]
    refine ⟨_, rfl, a, _, rfl, .inr (.inl (.inl ha)), 1, _, rfl, ⟨by decide, by decide, by omega, by omega⟩, for_range (lo := 1) (n := ((((refsK R).length : Nat) : Int) - 1).toNat) (fun i σ H' => Same H H' ∧ adjK (ks.take (i + 1)) = none ∧ ∃ v : Option V, σ = [some (.ref a), v]) ⟨Same.refl _, ?_, _, rfl⟩ ?_ ?_⟩
    · cases ks with
      | nil => rfl
      | cons x r => rfl
    · rintro i σ H2 hi ⟨s2, ad, v, rfl⟩
      obtain ⟨r, er⟩ : ∃ r, R[i]? = some r := ⟨_, List.getElem?_eq_getElem (by omega)⟩
      obtain ⟨q, eq⟩ : ∃ r, R[i + 1]? = some r := ⟨_, List.getElem?_eq_getElem (by omega)⟩
      have mr := List.mem_of_getElem? er
      have mq := List.mem_of_getElem? eq
      have kr : ks[i]? = some r.2.k3 := by rw [hks, List.getElem?_map, List.getElem?_map, er] <;> rfl
      have kq : ks[i + 1]? = some q.2.k3 := by rw [hks, List.getElem?_map, List.getElem?_map, eq] <;> rfl
      have st := adjK_step kr kq
      rw [ad] at st
      have atq : atI (refsK R) (1 + (i : Int)) = some (.ref q.1) := by
        rw [show (1 : Int) + (i : Int) = ((i + 1 : Nat) : Int) by omega]
        exact atI_nat (by unfold refsK; rw [List.getElem?_map, eq] <;> rfl)
      have atr : atI (refsK R) (1 + (i : Int) - 1) = some (.ref r.1) := by
        rw [show (1 : Int) + (i : Int) - 1 = ((i : Nat) : Int) by omega]
        exact atI_nat (by unfold refsK; rw [List.getElem?_map, er] <;> rfl)
      have ha2 := s2 _ _ ha
      have k3q : ∀ x ∈ q.2.k3, KeyOk x := k3_sub (okR q mq)
      have k3r : ∀ x ∈ r.2.k3, KeyOk x := k3_sub (okR r mr)
      refine ⟨_, rfl, _, rfl, a, _, _, .ref q.1, rfl, rfl, .inl (.inl ha2), atq, 3, rfl, q.1, q.2.vs, rfl, .inl (.inl (s2 _ _ (hK q mq))), c3, fun u1 n1 => ?_⟩
      have t1 := same_new (o := HO.tup (cutV q.2.vs none (some 3))) n1
      have hu1 : (upd H2 u1 (.tup (cutV q.2.vs none (some 3)))) u1 = some (.tup (q.2.k3.map kV)) := upd_same
      have s3 := s2.trans t1
      refine ⟨_, rfl, _, rfl, _, _, rfl, rfl, a, _, _, .ref r.1, rfl, rfl, .inl (.inl (s3 _ _ ha)), atr, 3, rfl, r.1, r.2.vs, rfl, .inl (.inl (s3 _ _ (hK r mr))), c3, fun u2 n2 => ?_⟩
      have t2 := same_new (o := HO.tup (cutV r.2.vs none (some 3))) n2
      have hu2 : (upd (upd H2 u1 (.tup (cutV q.2.vs none (some 3)))) u2 (.tup (cutV r.2.vs none (some 3)))) u2 = some (.tup (r.2.k3.map kV)) := upd_same
      have s4 := s3.trans t2
      refine ⟨_, _, dp_keys (t2 _ _ hu1), dp_keys hu2, shaped_keys k3q, shaped_keys k3r, _, rfl, ?_⟩
      rw [eqv_keys]
      refine ite2 (fun c => ?_) (fun c => ?_)
      · have e : q.2.k3 = r.2.k3 := of_decide_eq_true c
        refine ⟨_, rfl, _, rfl, a, _, _, .ref q.1, rfl, rfl, .inl (.inl (s4 _ _ ha)), atq, 3, rfl, q.1, q.2.vs, rfl, .inl (.inl (s4 _ _ (hK q mq))), c3, fun u3 n3 => ?_⟩
        refine k _ _ (s4.trans (same_new n3)) ?_
        have whole : adjK ks = some q.2.k3 := by
          refine adjK_take (j := i + 2) ?_
          rw [st]
          show (if r.2.k3 = q.2.k3 then some r.2.k3 else none) = _
          rw [if_pos e.symm, e]
        rw [whole]
        exact ⟨u3, rfl, upd_same⟩
      · refine ⟨s4, ?_, _, rfl⟩
        rw [st]
        show (if r.2.k3 = q.2.k3 then some r.2.k3 else none) = _
        exact if_neg fun z => c (decide_eq_true z.symm)
    · rintro σ H2 ⟨s2, ad, v, rfl⟩
      rw [List.take_of_length_le (by omega)] at ad
      refine k _ _ s2 ?_
      rw [ad]
      exact rfl
end
end Mk

set_option Elab.async false
set_option linter.unusedVariables false
set_option maxRecDepth 100000
set_option maxHeartbeats 16000000
namespace Mk
open PySem L2 Pk
theorem asc_ext {α : Type} [DecidableEq α] {lt : α → α → Bool} (O : Sx.Lin lt) {a b : List α} (e : ∀ x, x ∈ a ↔ x ∈ b) : Sx.asc lt a = Sx.asc lt b :=
  O.is_asc (Sx.asc_nodup lt a) (O.asc_up a) fun x => (Sx.asc_mem lt a x).trans (e x)
theorem rulesOf_ext {a b : List Rl} (e : ∀ r, r ∈ a ↔ r ∈ b) : rulesOf a = rulesOf b := by
  unfold rulesOf
  rw [asc_ext Sx.lin_tup (a := a.map Rl.key) (b := b.map Rl.key) fun x => ?_]
  constructor
  · intro m
    obtain ⟨r, mr, rfl⟩ := List.mem_map.mp m
    exact List.mem_map.mpr ⟨r, (e r).mp mr, rfl⟩
  · intro m
    obtain ⟨r, mr, rfl⟩ := List.mem_map.mp m
    exact List.mem_map.mpr ⟨r, (e r).mpr mr, rfl⟩
theorem MachAt.same_rules {K : PySem.W.Frag} {H : Hp} {C x : Addr} {l : PySem.Str} {n : Int} {a b : List Rl} {ys : List Int} (h : MachAt K H C x l n a ys) (e : rulesOf a = rulesOf b) : MachAt K H C x l n b ys := by
  obtain ⟨dx, aR, aY, aS, aA, g, R, h1, h2, h3, h4, h5, h6, h7, h8⟩ := h.ex
  rw [e] at h4 h6 h7 h8
  exact ⟨dx, aR, aY, aS, aA, g, R, h1, h2, h3, h4, h5, h6, h7, h8⟩
/-- what is handed to Machine: from a list of drawn rules -/
theorem right_hand {K : PySem.W.Frag} {H H' : Hp} {p aR aY : Addr} {l : PySem.Str} {n : Int} {B : Kept} {ys : List Int} (M : Mdl H p aR aY l n B ys) (s : Same H H') (n41 : n ≤ 41) (few : B.length ≤ 1900) (fewY : ys.length ≤ 100)
    {a b : Addr} {bR bY : Bool} {R : Hand} (hR : SqB bR K H' a (refsH R)) (sub : ∀ q ∈ R, ∃ r ∈ B, q.2.2 = r.2) (hat : ∀ q ∈ R, SqB q.2.1 K H' q.1 q.2.2.vs) (raw : ∀ q ∈ R, q.2.1 = false → H' q.1 = some (.tup q.2.2.vs)) (len : R.length ≤ 1900) (hY : SqB bY K H' b (ys.map V.int)) : Right K H' l n a b bR bY R ys where
  args := {
    alpha := M.al
    num := ⟨M.n1, by omega⟩
    rs := hR
    hand := { at_ := hat, ok := fun q m => (sub q m).elim fun r h => by rw [h.2]; exact M.ok r h.1, most := by omega }
    yes := hY
    in_ := M.yok
    few := by omega }
  raw := raw
  few := len
  fewY := by omega
def asTup (B : Kept) : Hand := B.map fun p => (p.1, false, p.2)
theorem asTup_refs (B : Kept) : refsH (asTup B) = refsK B := by
  unfold refsH asTup refsK
  rw [List.map_map] <;> rfl
theorem asTup_rs (B : Kept) : rsOf (asTup B) = B.map (·.2) := by
  unfold rsOf asTup
  rw [List.map_map] <;> rfl
def lenSq (K : PySem.W.Frag) : List V → Hp → VK → Prop := fun xs H Q => ∃ p ys, xs = [V.ref p] ∧ (SqL K H p ys ∨ SqT K H p ys) ∧ Q (V.int (ys.length : Int)) H
def rListOf (K : PySem.W.Frag) : List V → Hp → VK → Prop := fun xs H Q => ∃ p ys, xs = [V.ref p] ∧ (SqL K H p ys ∨ SqT K H p ys) ∧ ∀ l : Addr, H l = none → Q (V.ref l) (upd H l (HO.lst ys))
abbrev nHand : List PySem.Str := ["machine", "shape", "rules", "rule", "k"]
theorem scHand : FnScope nHand ["machine", "shape"] (defScope sHand) := ⟨rfl, rfl, rfl, by decide +kernel, rfl, by decide +kernel, by decide +kernel⟩
section
variable {P : Program} {w : World} {K : PySem.W.Frag} {mg : PySem.Str → Option Value} {base : Heap}
/-! _law_hand -/
def spHand (K : PySem.W.Frag) (C : Addr) : Sp := fun vs H Q _ => ∃ (p aR aY : Addr) (d : Nat) (l : PySem.Str) (n : Int) (B : Kept) (ys : List Int), vs = [.ref p, .int (d : Int)] ∧ Mdl H p aR aY l n B ys ∧ n ≤ 41 ∧ B.length ≤ 1900 ∧ ys.length ≤ 100 ∧
  ∀ (x : Addr) (H' : Hp), Same H H' → MachAt K H' C x l n (B.map (·.2)) ys → Q (.ref x) H'
theorem ok_hand {f C fI e0 : Addr} {fd fdI : FuncData} (F : Fun K "_law_hand" "_law_hand" sHand f fd) (T : TM mg) (M : MDef P w K mg base C fI e0 fdI) : FnOk P w K mg base CX0 8 f fd ["machine", "shape"] (spHand K C) := by
  refine F.ok scHand (fun vs H Q E h => ?_) (fun cdv A outer s H vs Q E hr h => ?_)
  · obtain ⟨p, aR, aY, d, l, n, B, ys, rfl, _⟩ := h
    rfl
  · obtain ⟨p, aR, aY, d, l, n, B, ys, rfl, D, n41, few, fewY, k⟩ := h
    have nd := scHand.nd
    refine ⟨_, (pss_cons (ps_set (i := 2) nd rfl (Or.inr rfl) (pe_ix ix_list (pv 0) pe_int fun _ _ => rfl))
      (C8.pss_cut (ps_if (pt_cmpR op_eq (pv 1) pe_int (nomark _))
        (pss_one (ps_ret (pe_make M.maker M.init hr (by rfl) M.name M.b4 .nil pass0 (pa_cons (pe_ix ix_list (pv 0) pe_int fun _ _ => rfl) (pa_cons (pe_ix ix_list (pv 0) pe_int fun _ _ => rfl) (pa_cons (pe_callTy call_list_of (by rfl) T.list PyProof.Rows.Boot.list (pa_cons (pv 2) pa_nil)) (pa_cons (pe_callTy call_list_of (by rfl) T.list PyProof.Rows.Boot.list (pa_cons (pe_ix ix_list (pv 0) pe_int fun _ _ => rfl) pa_nil)) pa_nil)))))))
        pss_nil)
      (C8.pss_cut (ps_if (pt_cmpR op_eq (pv 1) pe_int (nomark _))
        (pss_one (ps_ret (pe_make M.maker M.init hr (by rfl) M.name M.b4 .nil pass0 (pa_cons (pe_ix ix_list (pv 0) pe_int fun _ _ => rfl) (pa_cons (pe_ix ix_list (pv 0) pe_int fun _ _ => rfl) (pa_cons (pe_callTy call_tuple_of (by rfl) T.tuple PyProof.Rows.Boot.tuple (pa_cons (pe_lc (own := [("rule", 3)]) (g := gName 3) (tt := tYes) (by rfl) nd (pi_list (pv 2)) (blkOk_by (own := [("rule", 3)]) (N := nHand) (sc := defScope sHand) (by decide +kernel)) (fun _ _ _ _ _ => pg_name (i := 3) nd rfl (Or.inl rfl)) (fun _ _ _ _ _ => pts_nil) (fun _ _ _ _ _ => (pe_callTy (r := rListOf K) call_list_of (by rfl) T.list PyProof.Rows.Boot.list (pa_cons (pv 3) pa_nil)))) pa_nil)) (pa_cons (pe_callTy call_tuple_of (by rfl) T.tuple PyProof.Rows.Boot.tuple (pa_cons (pe_ix ix_list (pv 0) pe_int fun _ _ => rfl) pa_nil)) pa_nil)))))))
        pss_nil)
      (pss_one (ps_ret (pe_make M.maker M.init hr (by rfl) M.name M.b4 .nil pass0 (pa_cons (pe_ix ix_list (pv 0) pe_int fun _ _ => rfl) (pa_cons (pe_ix ix_list (pv 0) pe_int fun _ _ => rfl) (pa_cons (pe_lc (own := [("k", 4)]) (g := gName 4) (tt := tYes) (by rfl) nd (pi_range1 (by rfl) T.range (pa_cons (pe_callB call_len_seq (by rfl) T.len PySem.boot_len (pa_cons (pv 2) pa_nil)) pa_nil)) (blkOk_by (own := [("k", 4)]) (N := nHand) (sc := defScope sHand) (by decide +kernel)) (fun _ _ _ _ _ => pg_name (i := 4) nd rfl (Or.inl rfl)) (fun _ _ _ _ _ => pts_nil) (fun _ _ _ _ _ => (pe_ix (r := rIxL K) ix_list (pv 2) (pe_op op_sub (pe_op op_sub (pe_callB (r := lenSq K) call_len_seq (by rfl) T.len PySem.boot_len (pa_cons (pv 2) pa_nil)) pe_int) (pv 4)) fun _ _ => rfl))) (pa_cons (pe_callTy call_tuple_of (by rfl) T.tuple PyProof.Rows.Boot.tuple (pa_cons (pe_ix ix_list (pv 0) pe_int fun _ _ => rfl) pa_nil)) pa_nil)))))))))), ?_⟩
    have lB : (refsK B).length = B.length := List.length_map ..
    have subT : ∀ q ∈ asTup B, ∃ r ∈ B, q.2.2 = r.2 := fun q m => by
      obtain ⟨r, mr, rfl⟩ := List.mem_map.mp m
      exact ⟨r, mr, rfl⟩
    refine ⟨_, rfl, p, _, 2, .ref aR, rfl, rfl, SqL.of D.at_, rfl, ?_⟩
    refine ⟨fun σ' H' => σ' = [some (.ref p), some (.int (d : Int)), some (.ref aR), none, none] ∧ H' = H, ?_, ?_⟩
    · refine ⟨_, rfl, rfl, _, rfl, ite2 (fun _ => ?_) (fun _ => ⟨rfl, rfl⟩)⟩
      refine ⟨_, rfl, p, _, 0, .str l, rfl, rfl, SqL.of D.at_, rfl, _, rfl, p, _, 1, .int n, rfl, rfl, SqL.of D.at_, rfl, _, rfl, aR, _, rfl, .inl (SqL.of D.rs), fun a2 n2 => ?_⟩
      have t2 := same_new (o := HO.lst (refsK B)) n2
      have D2 := D.mono t2
      refine ⟨_, rfl, p, _, 3, .ref aY, rfl, rfl, SqL.of D2.at_, rfl, aY, _, rfl, .inl (SqL.of D2.yl), fun a3 n3 => ?_⟩
      have t3 := same_new (o := HO.lst (ys.map V.int)) n3
      have s3 := t2.trans t3
      refine fun x dx nx ndx ne => ?_
      have hat : ∀ q ∈ asTup B, (upd (upd H a2 (.lst (refsK B))) a3 (.lst (ys.map V.int))) q.1 = some (.tup q.2.2.vs) := fun q m => by
        obtain ⟨r, mr, rfl⟩ := List.mem_map.mp m
        exact s3 _ _ (D.kept r mr)
      have hRT : (upd (upd H a2 (.lst (refsK B))) a3 (.lst (ys.map V.int))) a2 = some (.lst (refsH (asTup B))) := by
        rw [asTup_refs]
        exact t3 _ _ upd_same
      have RT : Right K _ l n a2 a3 true true (asTup B) ys := right_hand (K := K) D s3 n41 few fewY (bR := true) (bY := true) (SqL.of (K := K) hRT) subT (fun q m => by
        obtain ⟨r, mr, rfl⟩ := List.mem_map.mp m
        exact .inl (.inl (hat _ m))) (fun q m _ => hat q m) (by unfold asTup; rw [List.length_map]; exact few) (SqL.of (K := K) upd_same)
      refine made_as nx ndx rfl RT fun H8 s8 hM => ?_
      rw [asTup_rs] at hM
      exact ⟨rfl, k x H8 (s3.trans s8) hM⟩
    rintro _ H1 ⟨rfl, e1⟩
    subst e1
    refine ⟨fun σ' H' => σ' = [some (.ref p), some (.int (d : Int)), some (.ref aR), none, none] ∧ H' = H1, ?_, ?_⟩
    · refine ⟨_, rfl, rfl, _, rfl, ite2 (fun _ => ?_) (fun _ => ⟨rfl, rfl⟩)⟩
      refine ⟨_, rfl, p, _, 0, .str l, rfl, rfl, SqL.of D.at_, rfl, _, rfl, p, _, 1, .int n, rfl, rfl, SqL.of D.at_, rfl, _, rfl, aR, rfl, ⟨_, SqL.of D.rs⟩, fun Dn nDn => lc_list (K := K) (a := aR) (xs := refsK B) (fun i' H' => Same H1 H' ∧ ∃ R : Hand, H' Dn = some (.lst (refsH R)) ∧ (∀ q ∈ R, q.2.1 = true ∧ H' q.1 = some (.lst q.2.2.vs) ∧ q.1 ≠ Dn) ∧ rsOf R = (B.take i').map (·.2)) ⟨same_new nDn, [], upd_same, fun p m => absurd m List.not_mem_nil, rfl⟩ (fun i' H' _ h => SqL.of (h.1 _ _ D.rs)) ?_ ?_⟩
      · rintro i' v H5 hi' ⟨s5, R, h5, hq, eR⟩
        obtain ⟨r, er, rfl⟩ := at_refs hi'
        have mr := List.mem_of_getElem? er
        have hr5 := s5 _ _ (D.kept r mr)
        have li : i' < B.length := (List.getElem?_eq_some_iff.mp er).1
        have lR : R.length = i' := by
          have z := congrArg List.length eR
          unfold rsOf at z
          rw [List.length_map, List.length_map, List.length_take] at z
          omega
        refine ⟨rfl, ?_⟩
        refine ⟨_, rfl, r.1, r.2.vs, rfl, .inr (.inl (.inl hr5)), fun q nq => ?_⟩
        have tq := same_new (o := HO.lst r.2.vs) nq
        have qD : q ≠ Dn := fun z => by
          rw [z, h5] at nq
          cases nq
        refine ⟨_, tq _ _ h5, ?_, same_mut (s5.trans tq) nDn, R ++ [(q, true, r.2)], ?_, fun z m => ?_, ?_⟩
        · unfold refsH
          rw [List.length_map]
          exact Nat.lt_of_le_of_lt (show R.length ≤ 2000 by omega) (by decide)
        · rw [upd_same]
          unfold refsH
          rw [List.map_append] <;> rfl
        · rcases List.mem_append.mp m with m | m
          · obtain ⟨z1, z2, z3⟩ := hq z m
            exact ⟨z1, by rw [upd_ne z3]; exact tq _ _ z2, z3⟩
          · rw [List.mem_singleton.mp m]
            exact ⟨rfl, by rw [upd_ne qD]; exact upd_same, qD⟩
        · unfold rsOf at eR ⊢
          rw [List.map_append, eR, take_at er, List.map_append] <;> rfl
      rintro H5 ⟨s5, R, h5, hq, eR⟩
      rw [List.take_of_length_le (by omega)] at eR
      have lR : R.length = B.length := by
        have z := congrArg List.length eR
        unfold rsOf at z
        rw [List.length_map, List.length_map] at z
        exact z
      refine ⟨Dn, _, rfl, .inl ⟨SqL.of h5, fun a2 n2 => ?_⟩⟩
      have t2 := same_new (o := HO.tup (refsH R)) n2
      have D2 := D.mono (s5.trans t2)
      refine ⟨_, rfl, p, _, 3, .ref aY, rfl, rfl, SqL.of D2.at_, rfl, aY, _, rfl, .inl ⟨SqL.of D2.yl, fun a3 n3 => ?_⟩⟩
      have t3 := same_new (o := HO.tup (ys.map V.int)) n3
      have s3 := (s5.trans t2).trans t3
      refine fun x dx nx ndx ne => ?_
      have RT : Right K _ l n a2 a3 false false R ys := right_hand (K := K) D s3 n41 few fewY (bR := false) (bY := false) (.inl (.inl (t3 _ _ upd_same))) (fun q m => by
        have z : q.2.2 ∈ rsOf R := List.mem_map.mpr ⟨q, m, rfl⟩
        rw [eR] at z
        obtain ⟨r, mr, e⟩ := List.mem_map.mp z
        exact ⟨r, mr, e.symm⟩) (fun q m => by
        obtain ⟨z1, z2, _⟩ := hq q m
        rw [z1]
        exact SqL.of (t3 _ _ (t2 _ _ z2))) (fun q m z => by
        rw [(hq q m).1] at z
        cases z) (by omega) (.inl (.inl upd_same))
      refine made_as nx ndx rfl RT fun H8 s8 hM => ?_
      rw [eR] at hM
      exact ⟨rfl, k x H8 (s3.trans s8) hM⟩
    rintro _ H2 ⟨rfl, e2⟩
    subst e2
    refine ⟨_, rfl, p, _, 0, .str l, rfl, rfl, SqL.of D.at_, rfl, _, rfl, p, _, 1, .int n, rfl, rfl, SqL.of D.at_, rfl, _, rfl, aR, _, rfl, .inl (SqL.of D.rs), _, rfl, by omega, by omega, fun Dn nDn => lc_range (lo := 0) (n := (((refsK B).length : Nat) : Int).toNat) (fun i' H' => Same H2 H' ∧ ∃ B' : Kept, H' Dn = some (.lst (refsK B')) ∧ B'.length = i' ∧ (∀ p ∈ B', p ∈ B) ∧ ∀ j : Nat, ∀ p, B[j]? = some p → B.length - 1 - j < i' → p ∈ B') ⟨same_new nDn, [], upd_same, rfl, fun p m => absurd m List.not_mem_nil, fun j p _ h => absurd h (Nat.not_lt_zero _)⟩ ?_ ?_⟩
    · rintro i' H5 hi' ⟨s5, B', h5, lb, sub, cov⟩
      have li : i' < B.length := by omega
      obtain ⟨r, er⟩ : ∃ r, B[B.length - 1 - i']? = some r := ⟨_, List.getElem?_eq_getElem (by omega)⟩
      have mr := List.mem_of_getElem? er
      have atr : atI (refsK B) ((((refsK B).length : Nat) : Int) - 1 - (0 + (i' : Int))) = some (.ref r.1) := by
        rw [show (((refsK B).length : Nat) : Int) - 1 - (0 + (i' : Int)) = ((B.length - 1 - i' : Nat) : Int) by omega]
        exact atI_nat (by unfold refsK; rw [List.getElem?_map, er] <;> rfl)
      have hR5 := s5 _ _ D.rs
      refine ⟨rfl, ?_⟩
      refine ⟨_, rfl, _, rfl, aR, _, rfl, .inl (SqL.of hR5), _, _, rfl, rfl, _, rfl, _, _, rfl, rfl, aR, _, _, .ref r.1, rfl, rfl, SqL.of hR5, atr, _, h5, ?_, same_mut s5 nDn, B' ++ [r], ?_, ?_, fun z m => ?_, fun j z ej lj => ?_⟩
      · unfold refsK
        rw [List.length_map]
        exact Nat.lt_of_le_of_lt (show B'.length ≤ 2000 by omega) (by decide)
      · rw [upd_same]
        unfold refsK
        rw [List.map_append] <;> rfl
      · rw [List.length_append, lb] <;> rfl
      · rcases List.mem_append.mp m with m | m
        · exact sub z m
        · rw [List.mem_singleton.mp m]; exact mr
      · by_cases e : B.length - 1 - j < i'
        · exact List.mem_append_left _ (cov j z ej e)
        · have lj2 : j < B.length := (List.getElem?_eq_some_iff.mp ej).1
          have ejj : j = B.length - 1 - i' := by omega
          rw [ejj, er] at ej
          rw [← Option.some.inj ej]
          exact List.mem_append_right _ (List.mem_singleton.mpr rfl)
    rintro H5 ⟨s5, B', h5, lb, sub, cov⟩
    have D5 := D.mono s5
    refine ⟨_, rfl, p, _, 3, .ref aY, rfl, rfl, SqL.of D5.at_, rfl, aY, _, rfl, .inl ⟨SqL.of D5.yl, fun a3 n3 => ?_⟩⟩
    have t3 := same_new (o := HO.tup (ys.map V.int)) n3
    have s3 := s5.trans t3
    refine fun x dx nx ndx ne => ?_
    have hRT : (upd H5 a3 (.tup (ys.map V.int))) Dn = some (.lst (refsH (asTup B'))) := by
      rw [asTup_refs]
      exact t3 _ _ h5
    have RT : Right K _ l n Dn a3 true false (asTup B') ys := right_hand (K := K) D s3 n41 few fewY (bR := true) (bY := false) (SqL.of (K := K) hRT) (fun q m => by
      obtain ⟨r, mr, rfl⟩ := List.mem_map.mp m
      exact ⟨r, sub r mr, rfl⟩) (fun q m => by
      obtain ⟨r, mr, rfl⟩ := List.mem_map.mp m
      exact .inl (.inl (s3 _ _ (D.kept r (sub r mr))))) (fun q m _ => by
      obtain ⟨r, mr, rfl⟩ := List.mem_map.mp m
      exact s3 _ _ (D.kept r (sub r mr))) (by unfold asTup; rw [List.length_map]; omega) (.inl (.inl upd_same))
    refine made_as nx ndx rfl RT fun H8 s8 hM => ?_
    rw [asTup_rs] at hM
    refine ⟨rfl, k x H8 (s3.trans s8) (hM.same_rules (rulesOf_ext fun r => ?_))⟩
    rw [List.mem_map, List.mem_map]
    constructor
    · rintro ⟨z, m, e⟩
      exact ⟨z, sub z m, e⟩
    · rintro ⟨z, m, e⟩
      obtain ⟨j, ej⟩ := List.mem_iff_getElem?.mp m
      have lj : j < B.length := (List.getElem?_eq_some_iff.mp ej).1
      exact ⟨z, cov j z ej (by omega), e⟩
end
end Mk

set_option Elab.async false
set_option linter.unusedVariables false
set_option maxRecDepth 100000
set_option maxHeartbeats 16000000
namespace Mk
open PySem L2 Pk
theorem iteF27 {A B : Prop} (h : B) : if false = true then A else B := h
/-- rising rows of rules are the kept rules -/
theorem kept_of {H : Hp} {L2 : Sx.Rows} {rs : List Rl} (tl : Sx.TupsIn H L2) (keys : L2.map (·.2) = (rulesOf rs).map Rl.key) : ∃ R : Kept, refsK R = Sx.refsOf L2 ∧ R.map (·.2) = rulesOf rs ∧ KeptAt H R := by
  have key2 : ∀ p ∈ L2, (unkey p.2).key = p.2 := fun p mp => by
    have z : p.2 ∈ (rulesOf rs).map Rl.key := by rw [← keys]; exact List.mem_map.mpr ⟨p, mp, rfl⟩
    obtain ⟨r, _, e⟩ := List.mem_map.mp z
    rw [← e, unkey_key]
  refine ⟨L2.map fun p => (p.1, unkey p.2), ?_, ?_, fun p mp => ?_⟩
  · show (L2.map _).map _ = L2.map _
    rw [List.map_map] <;> rfl
  · have z := congrArg (List.map unkey) keys
    rw [List.map_map, List.map_map] at z
    have e1 : (unkey ∘ Rl.key) = id := by funext r; rfl
    rw [e1, List.map_id] at z
    rw [List.map_map]
    exact z
  · obtain ⟨p0, m0, rfl⟩ := List.mem_map.mp mp
    have z := tl p0 m0
    show H p0.1 = some (HO.tup ((unkey p0.2).vs))
    rw [← key_vs, key2 p0 m0]
    exact z
def rowsB (B : Kept) : Sx.Rows := B.map fun p => (p.1, p.2.key)
theorem rowsB_refs (B : Kept) : Sx.refsOf (rowsB B) = refsK B := by
  unfold Sx.refsOf rowsB refsK
  rw [List.map_map] <;> rfl
theorem rowsB_keys (B : Kept) : (rowsB B).map (·.2) = (B.map (·.2)).map Rl.key := by
  unfold rowsB
  rw [List.map_map, List.map_map] <;> rfl
theorem rowsB_in {H : Hp} {B : Kept} (h : KeptAt H B) : Sx.TupsIn H (rowsB B) := fun p m => by
  obtain ⟨r, mr, rfl⟩ := List.mem_map.mp m
  exact h r mr
theorem symsL_rules (rs : List Rl) : symsL (rulesOf rs) = symsL rs := by
  rw [← syms_same, ← syms_same, rulesOf_ext fun r => rulesOf_mem rs r]
theorem deep_keys (n : Nat) : ∀ k : List Key, k.length ≤ 100000 → depthOk (n + 2) (.tuple (k.map keyD)) := fun k h => ⟨by rw [List.length_map]; exact h, fun d m => by
  obtain ⟨x, _, rfl⟩ := List.mem_map.mp m
  cases x <;> exact trivial⟩
theorem GuessV.mono {H H' : Hp} (s : Same H H') {v : V} {g : Option (List Key)} (h : GuessV H v g) : GuessV H' v g := by
  cases g with
  | none => exact h
  | some k =>
    obtain ⟨q, e, t⟩ := h
    exact ⟨q, e, s _ _ t⟩
theorem adjK_mem {κ : Type} [DecidableEq κ] : ∀ {l : List κ} {a : κ}, adjK l = some a → a ∈ l
  | [], a, h => by cases h
  | [x], a, h => by cases h
  | x :: y :: l, a, h => by
    have e2 : adjK (x :: y :: l) = if x = y then some x else adjK (y :: l) := rfl
    rw [e2] at h
    by_cases c : x = y
    · rw [if_pos c] at h
      rw [← Option.some.inj h]
      exact List.mem_cons_self
    · rw [if_neg c] at h
      exact List.mem_cons_of_mem _ (adjK_mem h)
abbrev nIs : List PySem.Str := ["made", "letters", "states", "rules", "yes", "due"]
theorem scIs : FnScope nIs ["made", "letters", "states", "rules", "yes"] (defScope sIs) := ⟨rfl, rfl, rfl, by decide +kernel, rfl, by decide +kernel, by decide +kernel⟩
section
variable {P : Program} {w : World} {K : PySem.W.Frag} {mg : PySem.Str → Option Value} {base : Heap}
structure IsDefs (P : Program) (w : World) (K : PySem.W.Frag) (mg : PySem.Str → Option Value) (base : Heap) : Prop where
  ascT : Got P w K mg base "_law_ascending" 1 ["row"] (spAscT K)
  ascI : Got P w K mg base "_law_ascending" 1 ["row"] (spAscI K)
  found : Got P w K mg base "_law_found" 2 ["rules"] spFound
  guess : Got P w K mg base "_law_guess" 1 ["due"] spGuessL
  same : Got P w K mg base "_law_same" 5 ["told", "due"] (spSame K 3)
/-! _law_is -/
def spIs (K : PySem.W.Frag) (C : Addr) : Sp := fun vs H Q _ => ∃ (x p aR aY : Addr) (l : PySem.Str) (n : Int) (B : Kept) (ys : List Int), vs = [.ref x, .str l, .int n, .ref aR, .ref aY] ∧ MachAt K H C x l n (B.map (·.2)) ys ∧ Mdl H p aR aY l n B ys ∧ B.length ≤ 1900 ∧ ys.length ≤ 100 ∧ ∀ H', Same H H' → Q (.bl true) H'
theorem ok_is {f C : Addr} {fd : FuncData} (F : Fun K "_law_is" "_law_is" sIs f fd) (T : TM mg) (G : IsDefs P w K mg base) (M : MCls K C) (IC : C8.InsC K C) (nm : mg "Machine" = some (.ref C)) : FnOk P w K mg base CX0 6 f fd ["made", "letters", "states", "rules", "yes"] (spIs K C) := by
  refine F.ok scIs (fun vs H Q E h => ?_) (fun cdv A outer s H vs Q E hr h => ?_)
  · obtain ⟨x, p, aR, aY, l, n, B, ys, rfl, _⟩ := h
    rfl
  · obtain ⟨x, p, aR, aY, l, n, B, ys, rfl, hm, D, few, fewY, k⟩ := h
    have nd := scIs.nd
    have h5 := hr
    have h1 := hr.mono (show 1 ≤ 5 by decide)
    have h2 := hr.mono (show 2 ≤ 5 by decide)
    refine ⟨_, (pss_cons (ps_set (i := 5) nd rfl (Or.inl rfl) (pe_got G.ascT h1 (by rfl) (pa_cons (pv 3) pa_nil)))
      (pss_cons (ps_if (PW.pt (pw_or (pt_not (pt_val (pe_callB (C8.call_isC IC) (by rfl) T.isi (by decide +kernel) (pa_cons (pv 0) (pa_cons (pe_glob (v := .ref C) (by rfl) nm rfl) pa_nil))))) (pw_or (pt_not (pt_val (pe_got G.same h5 (by rfl) (pa_cons (pe_fld (pv 0) rfl) (pa_cons (pv 1) pa_nil))))) (pw_or1 (pt_not (pt_val (pe_got G.same h5 (by rfl) (pa_cons (pe_fld (pv 0) rfl) (pa_cons (pv 2) pa_nil)))))))))
        (pss_one (ps_ret pe_bl)) pss_nil)
      (pss_cons (ps_if (PW.pt (pw_or (pt_not (pt_val (pe_got G.same h5 (by rfl) (pa_cons (pe_fld (pv 0) rfl) (pa_cons (pv 5) pa_nil))))) (pw_or1 (pt_not (pt_val (pe_got G.same h5 (by rfl) (pa_cons (pe_fld (pv 0) rfl) (pa_cons (pe_got G.ascI h1 (by rfl) (pa_cons (pv 4) pa_nil)) pa_nil))))))))
        (pss_one (ps_ret pe_bl)) pss_nil)
      (pss_one (ps_ret (pe_and (pe_got G.same h5 (by rfl) (pa_cons (pe_fld (pv 0) rfl) (pa_cons (pe_got G.found h2 (by rfl) (pa_cons (pv 5) pa_nil)) pa_nil))) (pe_one (pe_got G.same h5 (by rfl) (pa_cons (pe_fld (pv 0) rfl) (pa_cons (pe_got G.guess h1 (by rfl) (pa_cons (pv 5) pa_nil)) pa_nil)))))))))) , ?_⟩
    have okB : ∀ p ∈ B, ∀ x ∈ p.2.key, KeyOk x := fun p m => rl_ok D.al (D.ok p m)
    refine ⟨_, rfl, aR, rowsB B, true, sh8, rfl, SqL.of (by rw [rowsB_refs]; exact D.rs), rowsB_in D.kept, fun p m => ?_, fun p m => ?_, ?_, fun q R' H1 s1 hq hT eK => ?_⟩
    · obtain ⟨r, mr, rfl⟩ := List.mem_map.mp m
      exact shp_key r.2
    · obtain ⟨r, mr, rfl⟩ := List.mem_map.mp m
      exact okB r mr
    · unfold rowsB
      rw [List.length_map]
      omega
    rw [rowsB_keys, ← rulesOf_keys] at eK
    obtain ⟨R2, e2, d2, k2⟩ := kept_of hT eK
    rw [← e2] at hq
    clear hT eK e2
    obtain ⟨dx, bR, bY, bS, bA, g, R, hx, hR, kR, eR, hY, hS, _, hg⟩ := hm.ex
    have hx1 := s1 _ _ hx
    have few2 : R2.length ≤ 1900 := by
      have z := congrArg List.length d2
      have y := rulesOf_len (B.map (·.2))
      rw [List.length_map] at z y
      omega
    have oneL : depthOk 3 (.str l) := trivial
    refine ⟨_, rfl, x, dx, _, rfl, hx1, _, rfl, iteF27 ?_⟩
    refine ⟨_, rfl, x, C, dx, _, .str l, rfl, hx1, M.cls, M.letters, rfl, _, rfl, _, _, .str l, rfl, .str l, .str l, trivial, _, rfl, iteF27 ?_⟩
    refine ⟨_, rfl, x, C, dx, _, .int n, rfl, hx1, M.cls, M.states, rfl, _, rfl, _, _, .int n, rfl, .int n, .int n, trivial, _, rfl, iteF27 ?_⟩
    have dR : DpAll K H1 (refsK R) ((rulesOf (B.map (·.2))).map rlD) := by
      rw [← eR]
      exact dpa_rules (kR.mono s1)
    have dR2 : DpAll K H1 (refsK R2) ((rulesOf (B.map (·.2))).map rlD) := by
      rw [← d2]
      exact dpa_rules k2
    have lru := rulesOf_len (B.map (·.2))
    rw [List.length_map] at lru
    have deepR : depthOk 3 (.tuple ((rulesOf (B.map (·.2))).map rlD)) := ⟨by rw [List.length_map]; omega, fun d m => by
      obtain ⟨r, _, rfl⟩ := List.mem_map.mp m
      exact deep_keys 0 r.key (show 8 ≤ 100000 by decide)⟩
    refine ⟨_, rfl, x, C, dx, _, .ref bR, rfl, hx1, M.cls, M.rules, rfl, _, rfl, _, _, _, rfl, .tup (.inl (.inl (s1 _ _ hR))) dR, .tup (.inl (.inl hq)) dR2, deepR, _, rfl, iteF27 ?_⟩
    refine ⟨_, rfl, x, C, dx, _, .ref bY, rfl, hx1, M.cls, M.yes, rfl, _, rfl, aY, ys, rfl, SqL.of (s1 _ _ D.yl), by omega, fun q3 H3 s3 hq3 => ?_⟩
    have s13 := s1.trans s3
    refine ⟨_, _, .tuple ((intsOf ys).map .int), rfl, .tup (.inl (.inl (s13 _ _ hY))) (dpa_ints _), .tup (.inl (.inl hq3)) (dpa_ints _), ⟨?_, fun d m => ?_⟩, _, rfl, iteF27 ?_⟩
    · have y := Sx.asc_len ltI ys
      rw [List.length_map]
      exact Nat.le_trans y (by omega)
    · obtain ⟨z, _, rfl⟩ := List.mem_map.mp m
      exact trivial
    have hx3 := s13 _ _ hx
    refine ⟨_, rfl, x, C, dx, _, .ref bS, rfl, hx3, M.cls, M.symbols, rfl, _, rfl, q, R2, rfl, s3 _ _ hq, k2.mono s3, by omega, fun q4 H4 s4 hq4 => ?_⟩
    have s14 := s13.trans s4
    rw [d2, symsL_rules, ← syms_same] at hq4
    have lsy : (symsOf (rulesOf (B.map (·.2)))).length ≤ 100000 := by
      rw [syms_same]
      unfold symsL
      refine Nat.le_trans (Sx.asc_len _ _) (Nat.le_trans (List.length_filter_le _ _) ?_)
      rw [List.length_append]
      simp only [List.length_map]
      omega
    refine ⟨_, _, .tuple ((symsOf (rulesOf (B.map (·.2)))).map .str), rfl, .tup (.inl (.inl (s14 _ _ hS))) (dpa_strs _), .tup (.inl (.inl hq4)) (dpa_strs _), ⟨by rw [List.length_map]; exact lsy, fun d m => ?_⟩, true, rfl, ?_⟩
    · obtain ⟨z, _, rfl⟩ := List.mem_map.mp m
      exact trivial
    rw [if_pos rfl]
    have hx4 := s14 _ _ hx
    have s34 := s3.trans s4
    refine ⟨_, rfl, x, C, dx, _, g, rfl, hx4, M.cls, M.guess, rfl, _, rfl, q, R2, rfl, s34 _ _ hq, k2.mono s34, ?_, by omega, fun v H5 s5 hv => ?_⟩
    · intro p mp x mx
      have z : p.2 ∈ rulesOf (B.map (·.2)) := by rw [← d2]; exact List.mem_map.mpr ⟨p, mp, rfl⟩
      obtain ⟨r, mr, e⟩ := List.mem_map.mp ((rulesOf_mem _ _).mp z)
      rw [← e] at mx
      exact okB r mr x mx
    rw [d2] at hv
    have s15 := s14.trans s5
    have hg' := GuessV.mono s15 hg
    rw [guess_same] at hg'
    refine ⟨_, _, _, rfl, dp_guess hg', dp_guess hv, ?_, k _ s15⟩
    cases e : adjK ((rulesOf (B.map (·.2))).map Rl.k3) with
    | none => exact trivial
    | some key =>
      obtain ⟨r, _, er⟩ := List.mem_map.mp (adjK_mem e)
      rw [← er]
      exact deep_keys 1 r.k3 (show 3 ≤ 100000 by decide)
end
end Mk

set_option Elab.async false
set_option linter.unusedVariables false
set_option maxRecDepth 100000
set_option maxHeartbeats 16000000
namespace Mk
open PySem L2 Pk
/-! what a state does, as data -/
def clsAt (cls : List Int) (s : Int) : Int := cls.getD s.toNat 0
def lookK (cls : List Int) (r : Rl) : List Key := [.inr r.sg, .inr r.tp, .inl (clsAt cls r.af), .inl r.mv, .inr r.de, .inr r.sy, .inr r.sa]
abbrev sh7 : List Bool := [false, true, true, false, false, false]
theorem shp_look (cls : List Int) (r : Rl) : Sx.shp (lookK cls r) = false :: sh7 := rfl
def ofState (rs : List Rl) (s : Int) : List Rl := rs.filter fun r => decide (r.st = s)
def lookOf (rs : List Rl) (cls : List Int) (s : Int) : List (List Key) := Sx.asc Sx.ltT ((ofState rs s).map (lookK cls))
theorem lookOf_ext {a b : List Rl} (e : ∀ r, r ∈ a ↔ r ∈ b) (cls : List Int) (s : Int) : lookOf a cls s = lookOf b cls s := by
  refine asc_ext Sx.lin_tup fun k => ?_
  unfold ofState
  rw [List.mem_map, List.mem_map]
  constructor
  · rintro ⟨r, m, h⟩
    rw [List.mem_filter, e] at m
    exact ⟨r, List.mem_filter.mpr m, h⟩
  · rintro ⟨r, m, h⟩
    rw [List.mem_filter, ← e] at m
    exact ⟨r, List.mem_filter.mpr m, h⟩
def JudgeP (n : Nat) (rs : List Rl) (ys cls : List Int) : Prop := cls.length = n ∧ ∀ s o : Nat, s < n → o < s → clsAt cls s = clsAt cls o → ((s : Int) ∈ ys ↔ (o : Int) ∈ ys) ∧ lookOf rs cls s = lookOf rs cls o
theorem JudgeP_ext {n : Nat} {a b : List Rl} {x y cls : List Int} (e : ∀ r, r ∈ a ↔ r ∈ b) (f : ∀ r, r ∈ x ↔ r ∈ y) : JudgeP n a x cls ↔ JudgeP n b y cls := by
  unfold JudgeP
  constructor
  · rintro ⟨h1, h2⟩
    refine ⟨h1, fun s o hs ho h => ?_⟩
    rw [← f, ← f, ← lookOf_ext e, ← lookOf_ext e]
    exact h2 s o hs ho h
  · rintro ⟨h1, h2⟩
    refine ⟨h1, fun s o hs ho h => ?_⟩
    rw [f, f, lookOf_ext e, lookOf_ext e]
    exact h2 s o hs ho h
theorem cls_at {cls : List Int} {j : Nat} (h : j < cls.length) : atI (cls.map V.int) (j : Int) = some (.int (clsAt cls (j : Int))) := by
  refine atI_nat ?_
  rw [List.getElem?_map, List.getElem?_eq_getElem h]
  unfold clsAt
  rw [show ((j : Int)).toNat = j from Int.toNat_natCast j, List.getD_eq_getElem?_getD, List.getElem?_eq_getElem h]
  rfl
theorem cls_at' {cls : List Int} {z : Int} (h0 : 0 ≤ z) (h : z < (cls.length : Int)) : atI (cls.map V.int) z = some (.int (clsAt cls z)) := by
  obtain ⟨j, rfl⟩ : ∃ j : Nat, z = (j : Int) := ⟨z.toNat, by omega⟩
  exact cls_at (by omega)
theorem look_ok {l : PySem.Str} {n : Int} {r : Rl} (al : Alpha l) (h : RlOk l n r) (cls : List Int) : ∀ x ∈ lookK cls r, KeyOk x := by
  have z := rl_ok al h
  intro x m
  simp only [lookK, List.mem_cons, List.not_mem_nil, or_false] at m
  rcases m with rfl | rfl | rfl | rfl | rfl | rfl | rfl
  · exact z _ (by simp [Rl.key])
  · exact z _ (by simp [Rl.key])
  · exact trivial
  · exact trivial
  · exact z _ (by simp [Rl.key])
  · exact z _ (by simp [Rl.key])
  · exact z _ (by simp [Rl.key])
abbrev nLook : List PySem.Str := ["rules", "classes", "rule"]
theorem scLook : FnScope nLook ["rules", "classes"] (defScope sLook) := ⟨rfl, rfl, rfl, by decide +kernel, rfl, by decide +kernel, by decide +kernel⟩
section
variable {P : Program} {w : World} {K : PySem.W.Frag} {mg : PySem.Str → Option Value} {base : Heap}
/-! look_of -/
def spLook (K : PySem.W.Frag) : Sp := fun vs H Q _ => ∃ (a aC : Addr) (b : Bool) (B : Kept) (cls : List Int), vs = [.ref a, .ref aC] ∧ H a = some (.lst (refsK B)) ∧ KeptAt H B ∧ SqB b K H aC (cls.map V.int) ∧ (∀ p ∈ B, 0 ≤ p.2.af ∧ p.2.af < (cls.length : Int)) ∧ B.length ≤ 1999 ∧
  ∀ (p : Addr) (R' : Sx.Rows) (H' : Hp), Same H H' → H' p = some (.tup (Sx.refsOf R')) → Sx.TupsIn H' R' → R'.map (·.2) = Sx.asc Sx.ltT (B.map fun p => lookK cls p.2) → Q (.ref p) H'
theorem ok_look {f : Addr} {fd : FuncData} (F : Fun K "look_of" "look_of" sLook f fd) (T : TM mg) : FnOk P w K mg base CX0 1 f fd ["rules", "classes"] (spLook K) := by
  refine F.ok scLook (fun vs H Q E h => ?_) (fun cdv A outer s H vs Q E hr h => ?_)
  · obtain ⟨a, aC, b, B, cls, rfl, _⟩ := h
    rfl
  · obtain ⟨a, aC, b, B, cls, rfl, hA, hK, hC, inB, few, k⟩ := h
    have nd := scLook.nd
    have hu64 := hr.units
    refine ⟨_, (pss_one (ps_ret (pe_callTy call_tuple_of (by rfl) T.tuple PyProof.Rows.Boot.tuple (pa_cons (pe_callB (Sx.cr_sortMS rfl) (by rfl) T.sorted (by decide +kernel) (pa_cons (Sx.pe_sm (own := [("rule", 2)]) (g := gName 2) (tt := tYes) hu64 (by rfl) nd (pi_list (pv 0)) (blkOk_by (own := [("rule", 2)]) (N := nLook) (sc := defScope sLook) (by decide +kernel)) (fun _ _ _ _ _ => pg_name (i := 2) nd rfl (Or.inl rfl)) (fun _ _ _ _ _ => pts_nil) (fun _ _ _ _ _ => (pe_op (r := rCatT K) op_catT (pe_op (r := rCatT K) op_catT (pe_slice (r := rSlT K) sl_tup (pv 2) (po_some pe_int) (po_some pe_int)) (pe_tup (pa_cons (pe_ix (r := rIx K) ix_seq (pv 1) (pe_ix (r := rIxT K) ix_tup (pv 2) pe_int fun _ _ => rfl) fun _ _ => rfl) pa_nil))) (pe_slice (r := rSlT K) sl_tup (pv 2) (po_some pe_int) po_none)))) pa_nil)) pa_nil)))), ?_⟩
    have lB : (refsK B).length = B.length := List.length_map ..
    have c13 : ¬ (HT.sIx 8 0 (some 1) = 0 ∧ HT.sIx 8 8 (some 3) = 8) := by decide
    have c4 : ¬ (HT.sIx 8 0 (some 4) = 0 ∧ HT.sIx 8 8 none = 8) := by decide
    refine ⟨_, rfl, a, rfl, ⟨_, SqL.of hA⟩, fun D hD => Sx.sm_it (walk_list (K := K) (a := a) (xs := refsK B)) (fun i H' => Same H H' ∧ ∃ L : Sx.Rows, H' D = some (Sx.MSetO P w D L) ∧ Sx.TupsIn H' L ∧ L.length ≤ i ∧
        (L.map (·.2)).Nodup ∧ ∀ c, c ∈ L.map (·.2) ↔ c ∈ (B.take i).map fun p => lookK cls p.2)
      ⟨same_new hD, [], upd_same, fun p m => absurd m List.not_mem_nil, Nat.le_refl _, List.nodup_nil, fun c => by simp⟩ (fun i H' _ h => SqL.of (h.1 _ _ hA)) ?_ ?_⟩
    · rintro i y H4 H5 hi ⟨s5, L, hL, tL, lL, ndL, mL⟩ ⟨rfl, ey⟩
      obtain ⟨r, er, rfl⟩ := at_refs ey
      have mr := List.mem_of_getElem? er
      have li : i < B.length := by omega
      have hr5 := s5 _ _ (hK r mr)
      have af := inB r mr
      have fin : ∀ (H6 : Hp) (t : Addr), Same H5 H6 → H6 t = some (.tup ((lookK cls r.2).map kV)) → ∃ (x : Addr) (k : List Key) (L : Sx.Rows), V.ref t = .ref x ∧ H6 x = some (.tup (k.map kV)) ∧ H6 D = some (Sx.MSetO P w D L) ∧ Sx.TupsIn H6 L ∧ L.length + 1 ≤ 2000 ∧
          ∀ L2 : Sx.Rows, (k ∈ L.map (·.2) → L2 = L) → (k ∉ L.map (·.2) → L2.Perm ((x, k) :: L)) → Same H (upd H6 D (Sx.MSetO P w D L2)) ∧ ∃ L' : Sx.Rows, (upd H6 D (Sx.MSetO P w D L2)) D = some (Sx.MSetO P w D L') ∧ Sx.TupsIn (upd H6 D (Sx.MSetO P w D L2)) L' ∧ L'.length ≤ i + 1 ∧
            (L'.map (·.2)).Nodup ∧ ∀ c, c ∈ L'.map (·.2) ↔ c ∈ (B.take (i + 1)).map fun p => lookK cls p.2 := fun H6 t s6 ht => by
        refine ⟨t, lookK cls r.2, L, rfl, ht, s6 _ _ hL, fun p mp => s6 _ _ (tL p mp), by omega, fun L2 c1 c2 => ⟨same_mut (s5.trans s6) hD, L2, upd_same, ?_, ?_, ?_, ?_⟩⟩
        · intro p mp
          have tup : H6 p.1 = some (.tup (p.2.map kV)) := by
            rcases Classical.em (lookK cls r.2 ∈ L.map (·.2)) with c | c
            · rw [c1 c] at mp
              exact s6 _ _ (tL p mp)
            · rcases List.mem_cons.mp ((c2 c).mem_iff.mp mp) with e | mp
              · rw [e]; exact ht
              · exact s6 _ _ (tL p mp)
          rw [upd_ne (ne_of tup (s6 _ _ hL) (fun z => nomatch z))]
          exact tup
        · rcases Classical.em (lookK cls r.2 ∈ L.map (·.2)) with c | c
          · rw [c1 c]; omega
          · rw [(c2 c).length_eq, List.length_cons]; omega
        · rcases Classical.em (lookK cls r.2 ∈ L.map (·.2)) with c | c
          · rw [c1 c]; exact ndL
          · exact ((c2 c).map (·.2)).nodup_iff.mpr (List.nodup_cons.mpr ⟨c, ndL⟩)
        · intro c0
          rw [take_at er, List.map_append, List.mem_append, ← mL c0]
          rcases Classical.em (lookK cls r.2 ∈ L.map (·.2)) with c | c
          · rw [c1 c]
            constructor
            · exact .inl
            · rintro (z | z)
              · exact z
              · rw [List.mem_singleton.mp z]; exact c
          · rw [((c2 c).map (·.2)).mem_iff, List.map_cons, List.mem_cons, List.map_cons, List.map_nil, List.mem_singleton]
            exact Or.comm
      refine ⟨rfl, ?_⟩
      refine ⟨_, rfl, 1, rfl, 3, rfl, r.1, r.2.vs, rfl, .inl (.inl hr5), c13, fun q2 n2 => ?_⟩
      have t2 := same_new (o := HO.tup [V.str r.2.sg, V.str r.2.tp]) n2
      refine ⟨_, rfl, _, rfl, r.1, r.2.vs, 3, .int r.2.af, rfl, rfl, .inl (.inl (t2 _ _ hr5)), vs_af r.2, ix_sq (hC.mono (s5.trans t2)) (cls_at' af.1 af.2) ⟨show 1 ≤ sizeLine by decide, fun u3 nu3 => ?_⟩⟩
      have t3 := same_new (o := HO.tup [V.int (clsAt cls r.2.af)]) nu3
      refine ⟨q2, u3, [V.str r.2.sg, V.str r.2.tp], [V.int (clsAt cls r.2.af)], rfl, rfl, .inl (.inl (t3 _ _ upd_same)), .inl (.inl upd_same), (fun z => nomatch z), show 2 + 1 ≤ sizeLine by decide, (fun z => nomatch z), fun _ w4 nw4 => ?_⟩
      have t4 := same_new (o := HO.tup [V.str r.2.sg, V.str r.2.tp, V.int (clsAt cls r.2.af)]) nw4
      have s24 := (t2.trans t3).trans t4
      refine ⟨_, rfl, 4, rfl, r.1, r.2.vs, rfl, .inl (.inl (s24 _ _ hr5)), c4, fun q5 n5 => ?_⟩
      have t5 := same_new (o := HO.tup [V.int r.2.mv, V.str r.2.de, V.str r.2.sy, V.str r.2.sa]) n5
      refine ⟨w4, q5, [V.str r.2.sg, V.str r.2.tp, V.int (clsAt cls r.2.af)], [V.int r.2.mv, V.str r.2.de, V.str r.2.sy, V.str r.2.sa], rfl, rfl, .inl (.inl (t5 _ _ upd_same)), .inl (.inl upd_same), (fun z => nomatch z), show 3 + 4 ≤ sizeLine by decide, (fun z => nomatch z), fun _ t nt => ?_⟩
      exact fin _ t ((s24.trans t5).trans (same_new nt)) upd_same
    · rintro H4 ⟨s4, L, hL, tL, lL, ndL, mL⟩
      rw [List.take_of_length_le (by omega)] at mL
      refine ⟨D, L, false, sh7, rfl, hL, tL, fun p mp => ?_, fun L2 p5 pm nd2 up hp5 => ?_⟩
      · obtain ⟨q, _, e⟩ := List.mem_map.mp ((mL p.2).mp (List.mem_map.mpr ⟨p, mp, rfl⟩))
        rw [← e]
        exact shp_look cls q.2
      refine ⟨p5, _, rfl, .inl ⟨SqL.of upd_same, fun q5 hq5 => ?_⟩⟩
      have s45 := (same_new (o := HO.lst (Sx.refsOf L2)) hp5).trans (same_new (o := HO.tup (Sx.refsOf L2)) hq5)
      refine k q5 L2 _ (s4.trans s45) upd_same (fun p mp => s45 _ _ (tL p (pm.mem_iff.mp mp))) ?_
      refine Sx.lin_tup.is_asc nd2 (List.pairwise_map.mpr up) fun c => ?_
      rw [(pm.map (·.2)).mem_iff, mL c]
end
end Mk

set_option Elab.async false
set_option linter.unusedVariables false
set_option maxRecDepth 100000
set_option maxHeartbeats 16000000
namespace Mk
open PySem L2 Pk
/-- a new list of new lists -/
structure RowsAt (H0 H' : Hp) (D : Addr) (ls : List Addr) (F : Nat → List V) : Prop where
  same : Same H0 H'
  at_ : H' D = some (.lst (ls.map V.ref))
  row : ∀ s a, ls[s]? = some a → H' a = some (.lst (F s)) ∧ H0 a = none ∧ a ≠ D
  nd : ls.Nodup
  new : H0 D = none
theorem RowsAt.mono {H0 H' H'' : Hp} {D : Addr} {ls : List Addr} {F : Nat → List V} (h : RowsAt H0 H' D ls F) (s : Same H' H'') : RowsAt H0 H'' D ls F :=
  ⟨h.same.trans s, s _ _ h.at_, fun z a e => ⟨s _ _ (h.row z a e).1, (h.row z a e).2⟩, h.nd, h.new⟩
theorem RowsAt.add {H0 H' : Hp} {D q : Addr} {ls : List Addr} (h : RowsAt H0 H' D ls fun _ => []) (nq : H' q = none) : RowsAt H0 (upd (upd H' q (.lst [])) D (.lst (ls.map V.ref ++ [V.ref q]))) D (ls ++ [q]) fun _ => [] := by
  have t := same_new (o := HO.lst []) nq
  have qD : q ≠ D := fun z => by rw [z, h.at_] at nq; cases nq
  have qls : q ∉ ls := fun m => by
    obtain ⟨s, e⟩ := List.mem_iff_getElem?.mp m
    have := (h.row s q e).1
    rw [this] at nq
    cases nq
  refine ⟨same_mut (h.same.trans t) h.new, by rw [upd_same, List.map_append] <;> rfl, fun s a e => ?_, ?_, h.new⟩
  · rw [List.getElem?_append] at e
    split at e
    · have r := h.row s a e
      refine ⟨?_, r.2⟩
      rw [upd_ne r.2.2]
      exact t _ _ r.1
    · rename_i c
      have m := List.mem_of_getElem? e
      rw [List.mem_singleton] at m
      rw [m]
      exact ⟨by rw [upd_ne qD, upd_same], h.same.free nq, qD⟩
  · exact List.nodup_append.mpr ⟨h.nd, List.nodup_cons.mpr ⟨List.not_mem_nil, List.nodup_nil⟩, fun a ma b mb e => by
      rw [List.mem_singleton.mp mb] at e
      exact qls (e ▸ ma)⟩
theorem RowsAt.put {H0 H' : Hp} {D a : Addr} {ls : List Addr} {F F' : Nat → List V} {s : Nat} {v : V} (h : RowsAt H0 H' D ls F) (e : ls[s]? = some a) (f1 : F' s = F s ++ [v]) (f2 : ∀ z, z ≠ s → F' z = F z) : RowsAt H0 (upd H' a (.lst (F s ++ [v]))) D ls F' := by
  have r := h.row s a e
  refine ⟨same_mut h.same r.2.1, by rw [upd_ne r.2.2.symm]; exact h.at_, fun z b ez => ?_, h.nd, h.new⟩
  have rz := h.row z b ez
  by_cases c : z = s
  · subst c
    rw [e] at ez
    rw [← Option.some.inj ez, f1]
    exact ⟨upd_same, r.2⟩
  · have ne : b ≠ a := fun q => by
      rw [q] at ez
      have l1 := (List.getElem?_eq_some_iff.mp ez).1
      exact c ((List.getElem?_inj l1 h.nd).mp (ez.trans e.symm))
    rw [upd_ne ne, f2 z c]
    exact rz
abbrev nByState : List PySem.Str := ["machine", "found", "rule", "_"]
theorem scByState : FnScope nByState ["machine"] (defScope sByState) := ⟨rfl, rfl, rfl, by decide +kernel, rfl, by decide +kernel, by decide +kernel⟩
theorem ofSt_snoc (o : Int) (B : Kept) (p : Addr × Rl) : ofSt o (B ++ [p]) = ofSt o B ++ (if p.2.st = o then [p] else []) := by
  unfold ofSt
  rw [List.filter_append]
  by_cases c : p.2.st = o
  · rw [if_pos c, List.filter_cons, if_pos (decide_eq_true c)]; rfl
  · rw [if_neg c, List.filter_cons, if_neg (by rw [decide_eq_false c]; exact Bool.false_ne_true)]; rfl
section
variable {P : Program} {w : World} {K : PySem.W.Frag} {mg : PySem.Str → Option Value} {base : Heap}
/-! rules_by_state -/
def InR (n : Int) (rs : List Rl) : Prop := ∀ r ∈ rs, (0 ≤ r.st ∧ r.st ≤ n - 1) ∧ 0 ≤ r.af ∧ r.af ≤ n - 1
def spByState (K : PySem.W.Frag) (C : Addr) : Sp := fun vs H Q _ => ∃ (x : Addr) (l : PySem.Str) (n : Int) (rs : List Rl) (ys : List Int), vs = [.ref x] ∧ MachAt K H C x l n rs ys ∧ InR n rs ∧ 1 ≤ n ∧ n ≤ 2000 ∧ rs.length ≤ 1900 ∧
  ∀ (p : Addr) (ls : List Addr) (R : Kept) (H' : Hp), Same H H' → R.map (·.2) = rulesOf rs → KeptAt H' R → H' p = some (.lst (ls.map V.ref)) → ls.length = n.toNat → (∀ (s : Nat) a, ls[s]? = some a → H' a = some (.lst (refsK (ofSt (s : Int) R)))) → Q (.ref p) H'
theorem ok_bystate {f C : Addr} {fd : FuncData} (F : Fun K "rules_by_state" "rules_by_state" sByState f fd) (T : TM mg) (M : MCls K C) : FnOk P w K mg base CX0 1 f fd ["machine"] (spByState K C) := by
  refine F.ok scByState (fun vs H Q E h => ?_) (fun cdv A outer s H vs Q E hr h => ?_)
  · obtain ⟨x, l, n, rs, ys, rfl, _⟩ := h
    rfl
  · obtain ⟨x, l, n, rs, ys, rfl, hm, inR, n1, n2, few, k⟩ := h
    have nd := scByState.nd
    obtain ⟨dx, aR, aY, aS, aA, g, R, hx, hR, kR, eR, hY, hS, _, hg⟩ := hm.ex
    refine ⟨_, (pss_cons (ps_setLc (i := 1) (own := [("_", 3)]) (g := gName 3) (tt := tYes) (by rfl) nd rfl rfl (sw_true rfl rfl rfl (by decide +kernel)) (pi_range1 (by rfl) T.range (pa_cons (pe_fld (pv 0) rfl) pa_nil)) (blkOk_by (own := [("_", 3)]) (N := nByState) (sc := defScope sByState) (by decide +kernel)) (fun _ _ _ _ _ => pg_name (i := 3) nd rfl (Or.inl rfl)) (fun _ _ _ _ _ => pts_nil) (fun _ _ _ _ _ => (pe_lst pa_nil)))
      (pss_cons (ps_for PassesOwn.never rfl (pi_tup (pe_fld (pv 0) rfl)) (pg_name (i := 2) nd rfl (Or.inl rfl))
        (pss_one (ps_expr (pe_bm PySem.F.plainAttrs_list PySem.F.slot_list_append PySem.F.type_list_append mt_append (pe_ix ix_list (pv 1) (pe_ix ix_tup (pv 2) pe_int fun _ _ => rfl) fun _ _ => rfl) (pa_cons (pv 2) pa_nil)))))
      (pss_one (ps_ret (pv 1))))), ?_⟩
    refine ⟨_, rfl, x, C, dx, _, .int n, rfl, hx, M.cls, M.states, rfl, n, rfl, by omega, by omega, fun D nD => lc_range (lo := 0) (n := n.toNat) (fun i H' => ∃ ls : List Addr, RowsAt H H' D ls (fun _ => []) ∧ ls.length = i) ⟨[], ⟨same_new nD, upd_same, fun s a e => by simp at e, List.nodup_nil, nD⟩, rfl⟩ ?_ ?_⟩
    · rintro i H3 hi ⟨ls, RA, ll⟩
      refine ⟨rfl, ?_⟩
      refine ⟨Nat.zero_le _, fun q nq => ⟨_, same_new nq _ _ RA.at_, ?_, ls ++ [q], RA.add nq, by rw [List.length_append, ll] <;> rfl⟩⟩
      rw [List.length_map]
      exact Nat.lt_of_le_of_lt (show ls.length ≤ 2000 by omega) (by decide)
    rintro H3 ⟨ls, RA, ll⟩
    have lR : (refsK R).length = R.length := List.length_map ..
    have fewR : R.length ≤ 1900 := by
      have z := congrArg List.length eR
      have y := rulesOf_len rs
      rw [List.length_map] at z
      omega
    have stR : ∀ r ∈ R, 0 ≤ r.2.st ∧ r.2.st ≤ n - 1 := fun r m => by
      have z : r.2 ∈ rulesOf rs := by rw [← eR]; exact List.mem_map.mpr ⟨r, m, rfl⟩
      exact (inR r.2 ((rulesOf_mem rs r.2).mp z)).1
    refine ⟨_, rfl, x, C, dx, _, .ref aR, rfl, RA.same _ _ hx, M.cls, M.rules, rfl, aR, rfl, ⟨_, .inl (.inl (RA.same _ _ hR))⟩, for_tup (K := K) (a := aR) (xs := refsK R) (fun i σ H' => RowsAt H H' D ls (fun s => refsK (ofSt (s : Int) (R.take i))) ∧ ∃ v : Option V, σ = [some (.ref x), some (.ref D), v, none])
      ⟨RA, _, rfl⟩ (fun i σ H' _ h => .inl (.inl (h.1.same _ _ hR))) ?_ ?_⟩
    · rintro i y σ H4 hy ⟨RB, v, rfl⟩
      obtain ⟨r, er, rfl⟩ := at_refs hy
      have mr := List.mem_of_getElem? er
      have sr := stR r mr
      obtain ⟨s, es⟩ : ∃ s : Nat, r.2.st = (s : Int) := ⟨r.2.st.toNat, by omega⟩
      obtain ⟨a, ea⟩ : ∃ a, ls[s]? = some a := ⟨_, List.getElem?_eq_getElem (by omega)⟩
      have row := RB.row s a ea
      have atD : atI (ls.map V.ref) r.2.st = some (.ref a) := by
        rw [es]
        exact atI_nat (by rw [List.getElem?_map, ea] <;> rfl)
      refine ⟨_, rfl, _, rfl, r.1, r.2.vs, 0, .int r.2.st, rfl, rfl, .inl (.inl (RB.same _ _ (kR r mr))), vs_st r.2, D, _, _, .ref a, rfl, rfl, SqL.of RB.at_, atD, .inl ⟨rfl, _, SqL.of row.1⟩, _, rfl, a, _, _, rfl, rfl, row.1, ?_, ?_⟩
      · unfold refsK ofSt
        rw [List.length_map]
        exact Nat.lt_of_le_of_lt (Nat.le_trans (List.length_filter_le _ _) (by rw [List.length_take]; exact Nat.le_trans (Nat.min_le_right _ _) fewR)) (by decide)
      · refine ⟨RB.put ea ?_ fun z nz => ?_, _, rfl⟩
        · rw [take_at er, ofSt_snoc, if_pos es]
          unfold refsK
          rw [List.map_append] <;> rfl
        · rw [take_at er, ofSt_snoc, if_neg (fun q => nz (by omega)), List.append_nil]
    · rintro σ H4 ⟨RB, v, rfl⟩
      rw [List.take_of_length_le (by omega)] at RB
      exact ⟨_, rfl, k D ls R H4 RB.same eR (kR.mono RB.same) RB.at_ ll fun s a e => (RB.row s a e).1⟩
end
end Mk

set_option Elab.async false
set_option linter.unusedVariables false
set_option maxRecDepth 100000
set_option maxHeartbeats 16000000
namespace Mk
open PySem L2 Pk
/-! what is told of a state -/
def keysD (k : List Key) : PyData := .tuple (k.map keyD)
abbrev Told := Bool × List (List Key)
def toldD (t : Told) : PyData := .tuple [.bool t.1, .tuple (t.2.map keysD)]
def told (rs : List Rl) (ys cls : List Int) (s : Nat) : Told := (decide ((s : Int) ∈ ys), lookOf rs cls s)
theorem eqv_rows : ∀ a b : List (List Key), PyData.eqv (.tuple (a.map keysD)) (.tuple (b.map keysD)) = decide (a = b)
  | [], [] => rfl
  | [], _ :: _ => by rw [decide_eq_false (fun z => nomatch z)]; rfl
  | _ :: _, [] => by rw [decide_eq_false (fun z => nomatch z)]; rfl
  | x :: a, y :: b => by
    have ih := eqv_rows a b
    have e : PyData.eqv (.tuple ((x :: a).map keysD)) (.tuple ((y :: b).map keysD)) = (PyData.eqv (keysD x) (keysD y) && PyData.eqv (.tuple (a.map keysD)) (.tuple (b.map keysD))) := by
      simp [PyData.eqv, PyData.eqvAll]
    have ek : PyData.eqv (keysD x) (keysD y) = decide (x = y) := eqv_keys x y
    rw [e, ih, ek]
    by_cases c : x = y
    · by_cases d : a = b
      · rw [decide_eq_true c, decide_eq_true d, decide_eq_true (by rw [c, d])]; rfl
      · rw [decide_eq_true c, decide_eq_false d, decide_eq_false (fun z => d (List.cons.inj z).2)]; rfl
    · rw [decide_eq_false c, decide_eq_false (fun z => c (List.cons.inj z).1)]; rfl
theorem eqv_told (p q : Told) : PyData.eqv (toldD p) (toldD q) = decide (p = q) := by
  obtain ⟨a, x⟩ := p
  obtain ⟨b, y⟩ := q
  have e : PyData.eqv (toldD (a, x)) (toldD (b, y)) = (PyData.eqv (.bool a) (.bool b) && PyData.eqv (.tuple (x.map keysD)) (.tuple (y.map keysD))) := by
    simp [toldD, PyData.eqv, PyData.eqvAll]
  have eb : PyData.eqv (.bool a) (.bool b) = decide (a = b) := by cases a <;> cases b <;> rfl
  rw [e, eb, eqv_rows]
  by_cases c : a = b
  · by_cases d : x = y
    · rw [decide_eq_true c, decide_eq_true d, decide_eq_true (by rw [c, d])]; rfl
    · rw [decide_eq_true c, decide_eq_false d, decide_eq_false (fun z => d (Prod.mk.inj z).2)]; rfl
  · rw [decide_eq_false c, decide_eq_false (fun z => c (Prod.mk.inj z).1)]; rfl
theorem lay_keysD : ∀ {ks : List (List Key)}, (∀ k ∈ ks, ∀ x ∈ k, KeyOk x) → PyData.canLayAll0 (ks.map keysD) = true ∧ PyData.depthAll (ks.map keysD) ≤ 1
  | [], _ => ⟨by simp [PyData.canLayAll0], by simp [PyData.depthAll]⟩
  | k :: ks, h => by
    have ih := lay_keysD (ks := ks) fun q m => h q (List.mem_cons_of_mem _ m)
    have lp := lay_keys k (h k List.mem_cons_self)
    have one : PyData.canLay0 (keysD k) = true ∧ PyData.depth (keysD k) = 1 := by
      show PyData.canLay0 (.tuple (k.map keyD)) = true ∧ PyData.depth (.tuple (k.map keyD)) = 1
      exact ⟨by rw [PyData.canLay0]; exact lp.1, by rw [PyData.depth, lp.2]⟩
    rw [List.map_cons]
    refine ⟨by rw [PyData.canLayAll0, one.1, ih.1]; rfl, ?_⟩
    rw [PyData.depthAll, one.2]
    omega
theorem shaped_rowsD {ks : List (List Key)} (h : ∀ k ∈ ks, ∀ x ∈ k, KeyOk x) : SeqAt.shaped (.tuple (ks.map keysD)) = true := by
  obtain ⟨a, b⟩ := lay_keysD h
  unfold SeqAt.shaped
  rw [show PyData.canLay0 (.tuple (ks.map keysD)) = true by rw [PyData.canLay0]; exact a]
  refine decide_eq_true ?_
  rw [PyData.depth]
  omega
theorem shaped_told {t : Told} (h : ∀ k ∈ t.2, ∀ x ∈ k, KeyOk x) : SeqAt.shaped (toldD t) = true := by
  obtain ⟨a, b⟩ := lay_keysD h
  unfold SeqAt.shaped toldD
  have c : PyData.canLay0 (.tuple [.bool t.1, .tuple (t.2.map keysD)]) = true := by
    simp only [PyData.canLay0, PyData.canLayAll0, a, Bool.and_true]
  rw [c]
  refine decide_eq_true ?_
  simp only [PyData.depth, PyData.depthAll]
  omega
theorem dpa_rows {K : PySem.W.Frag} {H : Hp} : ∀ {R : Sx.Rows}, Sx.TupsIn H R → DpAll K H (Sx.refsOf R) ((R.map (·.2)).map keysD)
  | [], _ => .nil
  | p :: R, h => .cons (dp_keys (k := p.2) (h p List.mem_cons_self)) (dpa_rows fun q m => h q (List.mem_cons_of_mem _ m))
theorem ofSt_map (s : Int) (R : Kept) : (ofSt s R).map (·.2) = ofState (R.map (·.2)) s := by
  unfold ofSt ofState
  rw [List.filter_map] <;> rfl
theorem look_map (s : Int) (cls : List Int) (R : Kept) : ((ofSt s R).map fun p => lookK cls p.2) = (ofState (R.map (·.2)) s).map (lookK cls) := by
  rw [← ofSt_map, List.map_map] <;> rfl
theorem look_oks {l : PySem.Str} {n : Int} {rs : List Rl} (al : Alpha l) (h : ∀ r ∈ rs, RlOk l n r) (cls : List Int) (s : Int) : ∀ k ∈ lookOf rs cls s, ∀ x ∈ k, KeyOk x := fun k m => by
  unfold lookOf at m
  rw [Sx.asc_mem] at m
  obtain ⟨r, mr, rfl⟩ := List.mem_map.mp m
  exact look_ok al (h r (List.mem_filter.mp mr).1) cls
theorem put_len {κ : Type} [DecidableEq κ] (kvs : List (κ × V)) (k : κ) (v : V) : (putK kvs k v).length ≤ kvs.length + 1 := by
  have z := congrArg List.length (put_keys kvs k v)
  rw [List.length_map] at z
  rw [z]
  unfold addK
  split
  · rw [List.length_map]; omega
  · rw [List.length_append, List.length_map]; exact Nat.le_refl _
abbrev nLike : List PySem.Str := ["machine", "classes", "rules", "yes", "found", "state", "told", "number"]
theorem scLike : FnScope nLike ["machine", "classes"] (defScope sLike) := ⟨rfl, rfl, rfl, by decide +kernel, rfl, by decide +kernel, by decide +kernel⟩
section
variable {P : Program} {w : World} {K : PySem.W.Frag} {mg : PySem.Str → Option Value} {base : Heap}
structure LikeDefs (P : Program) (w : World) (K : PySem.W.Frag) (mg : PySem.Str → Option Value) (base : Heap) (C : Addr) : Prop where
  seq : Got P w K mg base "is_sequence" 1 ["value"] (spSequence K)
  int : Got P w K mg base "is_integer" 1 ["value"] spInteger
  bs : Got P w K mg base "rules_by_state" 1 ["machine"] (spByState K C)
  look : Got P w K mg base "look_of" 1 ["rules", "classes"] (spLook K)
/-! is_likeness -/
def spLike (K : PySem.W.Frag) (C : Addr) : Sp := fun vs H Q _ => ∃ (x aC : Addr) (b : Bool) (l : PySem.Str) (n : Nat) (rs : List Rl) (ys cls : List Int), vs = [.ref x, .ref aC] ∧ MachAt K H C x l (n : Int) rs ys ∧ Alpha l ∧ (∀ r ∈ rs, RlOk l (n : Int) r) ∧ 1 ≤ n ∧ n ≤ 41 ∧ rs.length ≤ 1900 ∧ ys.length ≤ 100 ∧ SqB b K H aC (cls.map V.int) ∧ cls.length ≤ 100 ∧
  ∀ (bb : Bool) (H' : Hp), Same H H' → (bb = true ↔ JudgeP n rs ys cls) → Q (.bl bb) H'
theorem ok_like {f C : Addr} {fd : FuncData} (F : Fun K "is_likeness" "is_likeness" sLike f fd) (T : TM mg) (G : LikeDefs P w K mg base C) (M : MCls K C) : FnOk P w K mg base CX0 2 f fd ["machine", "classes"] (spLike K C) := by
  refine F.ok scLike (fun vs H Q E h => ?_) (fun cdv A outer s H vs Q E hr h => ?_)
  · obtain ⟨x, aC, b, l, n, rs, ys, cls, rfl, _⟩ := h
    rfl
  · obtain ⟨x, aC, b, l, n, rs, ys, cls, rfl, hm, al, okr, n1, n41, few, fewY, hC, fewC, k⟩ := h
    have nd := scLike.nd
    have hu := hu_of hr
    have hu64 := hr.units
    have h1 := hr
    obtain ⟨dx, aR, aY, aS, aA, g, R, hx, hR, kR, eR, hY, hS, _, hg⟩ := hm.ex
    refine ⟨_, (C8.pss_cut (ps_if (PW.pt (pw_or (pt_not (pt_val (pe_got G.seq h1 (by rfl) (pa_cons (pv 1) pa_nil)))) (pw_or1 (pt_cmpR op_ne (pe_callB call_len_seq (by rfl) T.len PySem.boot_len (pa_cons (pv 1) pa_nil)) (pe_fld (pv 0) rfl) (nomark _)))))
        (pss_one (ps_ret pe_bl))
        pss_nil)
      (C8.pss_cut (ps_if (pt_not (pt_val (pe_callB (cr_all rfl) (by rfl) T.all (by decide +kernel) (pa_cons (pe_lc (own := [("number", 7)]) (g := gName 7) (tt := tYes) (by rfl) nd (pi_sq b (pv 1)) (blkOk_by (own := [("number", 7)]) (N := nLike) (sc := defScope sLike) (by decide +kernel)) (fun _ _ _ _ _ => pg_name (i := 7) nd rfl (Or.inl rfl)) (fun _ _ _ _ _ => pts_nil) (fun _ _ _ _ _ => (pe_got G.int h1 (by rfl) (pa_cons (pv 7) pa_nil)))) pa_nil))))
        (pss_one (ps_ret pe_bl))
        pss_nil)
      (pss_cons (ps_set (i := 2) nd rfl (Or.inl rfl) (pe_got G.bs h1 (by rfl) (pa_cons (pv 0) pa_nil)))
      (pss_cons (Sx.ps_setDc (i := 3) (own := [("state", 5)]) (g := gName 5) (tt := tYes) (by rfl) nd rfl rfl (Sx.sw_dict rfl rfl rfl (by decide +kernel)) (pi_tup (pe_fld (pv 0) rfl)) (blkOk_by (own := [("state", 5)]) (N := nLike) (sc := defScope sLike) (by decide +kernel)) (fun _ _ _ _ _ => pg_name (i := 5) nd rfl (Or.inl rfl)) (fun _ _ _ _ _ => pts_nil) (fun _ _ _ _ _ => (pv 5)) (fun _ _ _ _ _ => pe_bl))
      (pss_cons (ps_set (i := 4) nd rfl (Or.inl rfl) pe_dnewK)
      (pss_cons (ps_for PassesOwn.never rfl (pi_range1 (by rfl) T.range (pa_cons (pe_fld (pv 0) rfl) pa_nil)) (pg_name (i := 5) nd rfl (Or.inl rfl))
        (pss_cons (ps_set (i := 6) nd rfl (Or.inl rfl) (pe_tup (pa_cons (pe_cmp (pc_din hu (pv 5) (pv 3))) (pa_cons (pe_got G.look h1 (by rfl) (pa_cons (pe_ix ix_list (pv 2) (pv 5) fun _ _ => rfl) (pa_cons (pv 1) pa_nil))) pa_nil))))
        (pss_one (ps_if (pt_cmpR (op_neD hu64) (pe_dsetd (pv 4) (pe_ix ix_seq (pv 1) (pv 5) fun _ _ => rfl) (pv 6) ⟨rfl, rfl, rfl, rfl⟩) (pv 6) (nomark _))
          (pss_one (ps_ret pe_bl))
          pss_nil))))
      (pss_one (ps_ret pe_bl)))))))), ?_⟩
    have lCv : (cls.map V.int).length = cls.length := List.length_map ..
    refine ⟨fun σ' H' => σ' = [some (.ref x), some (.ref aC), none, none, none, none, none, none] ∧ Same H H' ∧ cls.length = n, ?_, ?_⟩
    · refine ⟨_, rfl, aC, b, _, rfl, hC, fun H1 s1 => ⟨_, rfl, iteF27 ?_⟩⟩
      have hC1 := hC.mono s1
      refine ⟨_, rfl, aC, _, rfl, hC1.any, _, rfl, x, C, dx, _, .int (n : Int), rfl, s1 _ _ hx, M.cls, M.states, rfl, rfl, _, rfl, ite2 (fun c => ?_) (fun c => ?_)⟩
      · refine k false H1 s1 ⟨(fun z => nomatch z), fun j => ?_⟩
        have e := j.1
        rw [lCv, e, decide_eq_true rfl] at c
        cases c
      · refine ⟨rfl, s1, Classical.byContradiction fun z => c ?_⟩
        rw [decide_eq_false (fun u => z (by have := V.int.inj u; omega))]
        rfl
    rintro _ H1 ⟨rfl, s1, eN⟩
    have hC1 := hC.mono s1
    refine ⟨fun σ' H' => σ' = [some (.ref x), some (.ref aC), none, none, none, none, none, none] ∧ Same H H', ?_, ?_⟩
    · refine isq_of ⟨_, rfl, aC, rfl, ⟨_, hC1⟩, fun D hD => lc_it (walk_sq (b := b) (K := K) (a := aC) (xs := cls.map V.int)) (fun i H' => Same H1 H' ∧ H' D = some (.lst ((List.replicate i true).map V.bl)))
        ⟨same_new hD, by rw [upd_same]; rfl⟩ (fun i H' _ h => hC1.mono h.1) ?_ ?_⟩
      · rintro i y H5 H6 hi ⟨s5, hD5⟩ ⟨rfl, ey⟩
        obtain ⟨z, ez, rfl⟩ := mapInt ey
        rw [lCv] at hi
        refine ⟨rfl, ?_⟩
        refine ⟨_, rfl, z, rfl, _, hD5, ?_, same_mut s5 hD, ?_⟩
        · rw [List.length_map, List.length_replicate]
          exact Nat.lt_of_le_of_lt (show i ≤ 100 by omega) (by decide)
        · rw [upd_same, List.replicate_succ', List.map_append] <;> rfl
      · rintro H5 ⟨s5, hD5⟩
        refine ⟨D, _, rfl, SqL.of hD5, _, rfl, ?_⟩
        rw [show (List.replicate (cls.map V.int).length true).all id = true by simp]
        exact iteF27 ⟨rfl, s1.trans s5⟩
    rintro _ H2 ⟨rfl, s2⟩
    clear s1 hC1
    have inr : InR (n : Int) rs := fun r m => ⟨(okr r m).st, (okr r m).af⟩
    refine ⟨_, rfl, x, l, (n : Int), rs, ys, rfl, hm.lk (Lk.of s2), inr, by omega, by omega, few, fun p ls R2 H3 s3 e2 k2 hp lls rows => ?_⟩
    have s03 := s2.trans s3
    -- yes
    have hY3 := s03 _ _ hY
    refine ⟨_, rfl, x, C, dx, _, .ref aY, rfl, s03 _ _ hx, M.cls, M.yes, rfl, aY, rfl, ⟨_, .inl (.inl hY3)⟩, fun DY nDY => dc_tup (fun i H' => Same H3 H' ∧ ∃ kvs : List (Key × V), H' DY = some (.dK kvs) ∧ kvs.length ≤ i ∧ ∀ y : Int, (valV kvs (.inl y)).isSome = decide (y ∈ (intsOf ys).take i))
      ⟨same_new nDY, [], upd_same, Nat.le_refl _, fun y => by rw [decide_eq_false (by simp)]; rfl⟩ (fun i H' _ h => .inl (.inl (h.1 _ _ hY3))) ?_ ?_⟩
    · rintro i v H4 hi ⟨s4, kvs, h4, lk, hk⟩
      rw [List.getElem?_map] at hi
      obtain ⟨y, ey, rfl⟩ := Option.map_eq_some_iff.mp hi
      have li := (List.getElem?_eq_some_iff.mp ey).1
      have lI := Sx.asc_len ltI ys
      refine ⟨rfl, ?_⟩
      refine ⟨_, rfl, kvs, .inl y, rfl, h4, ?_, same_mut s4 nDY, _, upd_same, ?_, fun z => ?_⟩
      · have : i < (Sx.asc ltI ys).length := li
        exact Nat.lt_of_le_of_lt (show kvs.length ≤ 1000 by omega) (by decide)
      · have := put_len kvs (.inl y : Key) (.bl true)
        omega
      · rw [valV_put, take_at ey]
        by_cases c : z = y
        · rw [if_pos (by rw [c]), decide_eq_true (by rw [c]; simp)]
          rfl
        · rw [if_neg (fun q => c (Sum.inl.inj q)), hk z]
          by_cases d : z ∈ (intsOf ys).take i
          · rw [decide_eq_true d, decide_eq_true (List.mem_append_left _ d)]
          · rw [decide_eq_false d, decide_eq_false (fun q => by
              rcases List.mem_append.mp q with q | q
              · exact d q
              · exact c (List.mem_singleton.mp q))]
    rintro H4 ⟨s4, kvY, hDY, lkY, hkY⟩
    have inY : ∀ s : Nat, (valV kvY (.inl (s : Int))).isSome = decide ((s : Int) ∈ ys) := fun s => by
      rw [hkY, List.take_of_length_le (by rw [List.length_map]; exact Nat.le_refl _)]
      by_cases c : (s : Int) ∈ ys
      · rw [decide_eq_true c]; exact decide_eq_true ((Sx.asc_mem ltI ys _).mpr c)
      · rw [decide_eq_false c]; exact decide_eq_false (fun q => c ((Sx.asc_mem ltI ys _).mp q))
    have s04 := s03.trans s4
    have hp4 := s4 _ _ hp
    have rows4 : ∀ (s : Nat) a, ls[s]? = some a → H4 a = some (.lst (refsK (ofSt (s : Int) R2))) := fun s a e => s4 _ _ (rows s a e)
    have k4 : KeptAt H4 R2 := k2.mono s4
    have hC4 := hC.mono s04
    have fewR : R2.length ≤ 1900 := by
      have z := congrArg List.length e2
      have y := rulesOf_len rs
      rw [List.length_map] at z
      omega
    have inB : ∀ p ∈ R2, 0 ≤ p.2.af ∧ p.2.af < (cls.length : Int) := fun p m => by
      have z : p.2 ∈ rulesOf rs := by rw [← e2]; exact List.mem_map.mpr ⟨p, m, rfl⟩
      have y := (okr p.2 ((rulesOf_mem rs p.2).mp z)).af
      omega
    have toldOk : ∀ s : Nat, ∀ k ∈ (told rs ys cls s).2, ∀ x ∈ k, KeyOk x := fun s => look_oks al okr cls s
    -- the states
    refine fun DF nDF => ?_
    have tF := same_new (o := HO.dK []) nDF
    refine ⟨_, rfl, x, C, dx, _, .int (n : Int), rfl, tF _ _ (s04 _ _ hx), M.cls, M.states, rfl, (n : Int), rfl, by omega, by omega, for_range (lo := 0) (n := ((n : Nat) : Int).toNat) (fun i σ H' => Same H4 H' ∧ (∃ (v5 v6 : Option V), σ = [some (.ref x), some (.ref aC), some (.ref p), some (.ref DY), some (.ref DF), v5, v6, none]) ∧ ∃ kvs : List (Key × V), H' DF = some (.dK kvs) ∧ kvs.length ≤ i ∧
        (∀ (c : Int) v, valV kvs (.inl c) = some v → ∃ s, s < i ∧ clsAt cls (s : Int) = c ∧ Dp K (hide DF H') v (toldD (told rs ys cls s))) ∧ (∀ s, s < i → valV kvs (.inl (clsAt cls (s : Int))) ≠ none) ∧
        ∀ s o : Nat, s < i → o < s → clsAt cls (s : Int) = clsAt cls (o : Int) → told rs ys cls s = told rs ys cls o)
      ⟨tF, ⟨_, _, rfl⟩, [], upd_same, Nat.le_refl _, (fun c v e => by cases e), fun s h => absurd h (Nat.not_lt_zero _), fun s o h => absurd h (Nat.not_lt_zero _)⟩ ?_ ?_⟩
    · rintro i σ H5 hi ⟨s5, ⟨v5, v6, rfl⟩, kvs, hF, lk, i1, i2, i3⟩
      have i' : i < n := by omega
      obtain ⟨a, ea⟩ : ∃ a, ls[i]? = some a := ⟨_, List.getElem?_eq_getElem (by omega)⟩
      have atP : atI (ls.map V.ref) (0 + (i : Int)) = some (.ref a) := by
        rw [show (0 : Int) + (i : Int) = ((i : Nat) : Int) by omega]
        exact atI_nat (by rw [List.getElem?_map, ea] <;> rfl)
      have ei : (0 : Int) + (i : Int) = (i : Int) := by omega
      refine ⟨_, rfl, _, rfl, DY, _, rfl, DGet.k (k := .inl (0 + (i : Int))) (s5 _ _ hDY), ?_⟩
      rw [ei, inY i]
      refine ⟨_, rfl, _, rfl, p, _, _, .ref a, rfl, rfl, SqL.of (s5 _ _ hp4), by rw [← ei]; exact atP, _, rfl, a, aC, b, ofSt (i : Int) R2, cls, rfl, s5 _ _ (rows4 i a ea), fun q m => s5 _ _ (k4 q (List.mem_filter.mp m).1), hC4.mono s5, fun q m => inB q (List.mem_filter.mp m).1, ?_, fun pl R' H6 s6 hpl hT eK => ?_⟩
      · unfold ofSt
        exact Nat.le_trans (List.length_filter_le _ _) (by omega)
      rw [look_map, e2] at eK
      have eL : R'.map (·.2) = lookOf rs cls i := eK.trans (lookOf_ext (fun r => rulesOf_mem rs r) cls i)
      refine ⟨show 2 ≤ sizeLine by decide, fun t nt => ?_⟩
      have tt := same_new (o := HO.tup [V.bl (decide ((i : Int) ∈ ys)), V.ref pl]) nt
      have s56 := s6.trans tt
      have s57 := s5.trans s56
      have hF6 := s56 _ _ hF
      have hid : ∀ {q : Addr} {xs : List V}, (upd H6 t (.tup [V.bl (decide ((i : Int) ∈ ys)), V.ref pl])) q = some (.tup xs) → hide DF (upd H6 t (.tup [V.bl (decide ((i : Int) ∈ ys)), V.ref pl])) q = some (.tup xs) := fun {q xs} e => by
        rw [hide_ne (fun z => by rw [z, hF6] at e; cases e)]
        exact e
      have dT : Dp K (hide DF (upd H6 t (.tup [V.bl (decide ((i : Int) ∈ ys)), V.ref pl]))) (.ref t) (toldD (told rs ys cls i)) := by
        refine .tup (.inl (.inl (hid upd_same))) (.cons (.bl _) (.cons (.tup (.inl (.inl (hid (tt _ _ hpl)))) ?_) .nil))
        show DpAll K _ _ ((lookOf rs cls i).map keysD)
        rw [← eL]
        exact dpa_rows fun q m => hid (tt _ _ (hT q m))
      have atC := cls_at (cls := cls) (j := i) (by omega)
      have sh := shaped_told (toldOk i)
      dsimp only [gName]
      refine ⟨_, rfl, DF, rfl, .inl ⟨kvs, .inl hF6⟩, ?_⟩
      refine ⟨_, rfl, _, rfl, ix_sq (hC4.mono s57) (by exact ei ▸ atC) ⟨_, rfl, kvs, .inl (clsAt cls (i : Int)), hF6, rfl, ?_, fun v ev => ?_, fun ev => ?_⟩⟩
      · exact Nat.lt_of_le_of_lt (show kvs.length ≤ 1000 by omega) (by decide)
      · obtain ⟨s, ls', es, ds⟩ := i1 _ v ev
        have ds' := dp_mono ((hide_mono s56).trans hide_le) _ _ ds
        refine ⟨_, rfl, _, _, ds', dp_mono hide_le _ _ dT, shaped_told (toldOk s), sh, _, rfl, ?_⟩
        rw [eqv_told]
        refine ite2 (fun c => ?_) (fun c => ?_)
        · refine k false _ (s04.trans s57) ⟨(fun z => nomatch z), fun j => ?_⟩
          have jj := j.2 i s (by omega) ls' es.symm
          have e : told rs ys cls s = told rs ys cls i := by
            unfold told
            rw [jj.2, decide_eq_decide.mpr jj.1]
          rw [e, decide_eq_true rfl] at c
          cases c
        · have e : told rs ys cls s = told rs ys cls i := Classical.byContradiction fun z => c (by rw [decide_eq_false z]; rfl)
          refine ⟨s57, ⟨_, _, rfl⟩, kvs, hF6, by omega, fun c v ev => ?_, fun s' h => ?_, fun s' o h ho ec => ?_⟩
          · obtain ⟨z, h1, h2, h3⟩ := i1 c v ev
            exact ⟨z, by omega, h2, dp_mono (hide_mono s56) _ _ h3⟩
          · by_cases q : s' = i
            · rw [q, ev]
              exact fun z => nomatch z
            · exact i2 s' (by omega)
          · by_cases q : s' = i
            · rw [q] at ec ⊢
              rw [← e]
              by_cases q2 : o = s
              · rw [q2]
              · rcases Nat.lt_or_gt_of_ne q2 with lt | gt
                · exact i3 s o ls' lt (es.trans ec)
                · exact (i3 o s (by omega) gt (ec.symm.trans es.symm)).symm
            · exact i3 s' o (by omega) ho ec
      · have nDF5 : H4 DF = none := nDF
        have sD : Same H4 (upd (upd H6 t (.tup [V.bl (decide ((i : Int) ∈ ys)), V.ref pl])) DF (.dK (putK kvs (.inl (clsAt cls (i : Int))) (V.ref t)))) := same_mut s57 nDF5
        have dT2 : Dp K (upd (upd H6 t (.tup [V.bl (decide ((i : Int) ∈ ys)), V.ref pl])) DF (.dK (putK kvs (.inl (clsAt cls (i : Int))) (V.ref t)))) (.ref t) (toldD (told rs ys cls i)) := by
          refine dp_mono (hide_le (q := DF)) _ _ ?_
          rw [hide_upd]
          exact dT
        refine ⟨_, rfl, _, _, dT2, dT2, sh, sh, _, rfl, ?_⟩
        rw [eqv_told, decide_eq_true rfl]
        refine iteF27 ⟨sD, ⟨_, _, rfl⟩, _, upd_same, ?_, fun c v ev' => ?_, fun s' h => ?_, fun s' o h ho ec => ?_⟩
        · have := put_len kvs (.inl (clsAt cls (i : Int)) : Key) (.ref t)
          omega
        · rw [valV_put] at ev'
          rw [hide_upd]
          by_cases q : c = clsAt cls (i : Int)
          · rw [if_pos (by rw [q])] at ev'
            rw [← Option.some.inj ev']
            exact ⟨i, by omega, q.symm, dT⟩
          · rw [if_neg (fun z => q (Sum.inl.inj z))] at ev'
            obtain ⟨z, h1, h2, h3⟩ := i1 c v ev'
            exact ⟨z, by omega, h2, dp_mono (hide_mono s56) _ _ h3⟩
        · rw [valV_put]
          split
          · exact fun z => nomatch z
          · by_cases q : s' = i
            · rename_i nq
              exact absurd (by rw [q]) nq
            · exact i2 s' (by omega)
        · by_cases q : s' = i
          · exfalso
            rw [q] at ec ho
            exact i2 o ho (by rw [← ec]; exact ev)
          · exact i3 s' o (by omega) ho ec
    · rintro σ H5 ⟨s5, _, kvs, hF, lk, i1, i2, i3⟩
      have en : ((n : Nat) : Int).toNat = n := Int.toNat_natCast n
      rw [en] at i3
      refine k true H5 (s04.trans s5) ⟨fun _ => ⟨eN, fun s o hs ho e => ?_⟩, fun _ => rfl⟩
      have z := i3 s o hs ho e
      unfold told at z
      obtain ⟨z1, z2⟩ := Prod.mk.inj z
      exact ⟨decide_eq_decide.mp z1, z2⟩
end
end Mk

set_option Elab.async false
set_option linter.unusedVariables false
set_option maxRecDepth 100000
set_option maxHeartbeats 16000000
namespace Mk
open PySem L2 Pk
abbrev nDoes : List PySem.Str := ["states", "rules", "classes", "rows", "rule", "row", "k"]
theorem scDoes : FnScope nDoes ["states", "rules", "classes"] (defScope sDoes) := ⟨rfl, rfl, rfl, by decide +kernel, rfl, by decide +kernel, by decide +kernel⟩
theorem ofState_snoc (rs : List Rl) (r : Rl) (s : Int) : ofState (rs ++ [r]) s = ofState rs s ++ (if r.st = s then [r] else []) := by
  unfold ofState
  rw [List.filter_append]
  by_cases c : r.st = s
  · rw [if_pos c, List.filter_cons, if_pos (decide_eq_true c)]; rfl
  · rw [if_neg c, List.filter_cons, if_neg (by rw [decide_eq_false c]; exact Bool.false_ne_true)]; rfl
/-- a list of tuples of tuples: what the states do -/
def DoesAt (H' : Hp) (p : Addr) (n : Nat) (rs : List Rl) (cls : List Int) : Prop := ∃ ts : List Addr, H' p = some (.lst (ts.map V.ref)) ∧ ts.length = n ∧ ∀ (s : Nat) t, ts[s]? = some t → ∃ R' : Sx.Rows, H' t = some (.tup (Sx.refsOf R')) ∧ Sx.TupsIn H' R' ∧ R'.map (·.2) = lookOf rs cls s
theorem DoesAt.mono {H H' : Hp} {p : Addr} {n : Nat} {rs : List Rl} {cls : List Int} (h : DoesAt H p n rs cls) (s : Same H H') : DoesAt H' p n rs cls := by
  obtain ⟨ts, h1, h2, h3⟩ := h
  refine ⟨ts, s _ _ h1, h2, fun z t e => ?_⟩
  obtain ⟨R', a, b, c⟩ := h3 z t e
  exact ⟨R', s _ _ a, fun q m => s _ _ (b q m), c⟩
section
variable {P : Program} {w : World} {K : PySem.W.Frag} {mg : PySem.Str → Option Value} {base : Heap}
/-! _law_does -/
def spDoes (K : PySem.W.Frag) : Sp := fun vs H Q _ => ∃ (aR aC : Addr) (l : PySem.Str) (n : Nat) (B : Kept) (cls : List Int), vs = [.int (n : Int), .ref aR, .ref aC] ∧ H aR = some (.lst (refsK B)) ∧ KeptAt H B ∧ Alpha l ∧ (∀ p ∈ B, RlOk l (n : Int) p.2) ∧ n ≤ 41 ∧ B.length ≤ 1900 ∧ H aC = some (.lst (cls.map V.int)) ∧ cls.length = n ∧
  ∀ (p : Addr) (H' : Hp), Same H H' → DoesAt H' p n (B.map (·.2)) cls → Q (.ref p) H'
theorem ok_does {f : Addr} {fd : FuncData} (F : Fun K "_law_does" "_law_does" sDoes f fd) (T : TM mg) (G : Got P w K mg base "_law_ascending" 1 ["row"] (spAscT K)) : FnOk P w K mg base CX0 2 f fd ["states", "rules", "classes"] (spDoes K) := by
  refine F.ok scDoes (fun vs H Q E h => ?_) (fun cdv A outer s H vs Q E hr h => ?_)
  · obtain ⟨aR, aC, l, n, B, cls, rfl, _⟩ := h
    rfl
  · obtain ⟨aR, aC, l, n, B, cls, rfl, hR, hK, al, okr, n41, few, hC, eN, k⟩ := h
    have nd := scDoes.nd
    refine ⟨_, (pss_cons (ps_setLc (i := 3) (own := [("k", 6)]) (g := gName 6) (tt := tYes) (by rfl) nd rfl rfl (sw_true rfl rfl rfl (by decide +kernel)) (pi_range1 (by rfl) T.range (pa_cons (pv 0) pa_nil)) (blkOk_by (own := [("k", 6)]) (N := nDoes) (sc := defScope sDoes) (by decide +kernel)) (fun _ _ _ _ _ => pg_name (i := 6) nd rfl (Or.inl rfl)) (fun _ _ _ _ _ => pts_nil) (fun _ _ _ _ _ => (pe_lst pa_nil)))
      (pss_cons (ps_for PassesOwn.never rfl (pi_list (pv 1)) (pg_name (i := 4) nd rfl (Or.inl rfl))
        (pss_cons (ps_set (i := 5) nd rfl (Or.inl rfl) (pe_ix ix_list (pv 3) (pe_ix ix_tup (pv 4) pe_int fun _ _ => rfl) fun _ _ => rfl))
        (pss_one (ps_expr (pe_bm PySem.F.plainAttrs_list PySem.F.slot_list_append PySem.F.type_list_append mt_append (pv 5) (pa_cons (pe_op op_catT (pe_op op_catT (pe_slice sl_tup (pv 4) (po_some pe_int) (po_some pe_int)) (pe_tup (pa_cons (pe_ix ix_list (pv 2) (pe_ix ix_tup (pv 4) pe_int fun _ _ => rfl) fun _ _ => rfl) pa_nil))) (pe_slice sl_tup (pv 4) (po_some pe_int) po_none)) pa_nil))))))
      (pss_one (ps_ret (pe_lc (own := [("row", 5)]) (g := gName 5) (tt := tYes) (by rfl) nd (pi_list (pv 3)) (blkOk_by (own := [("row", 5)]) (N := nDoes) (sc := defScope sDoes) (by decide +kernel)) (fun _ _ _ _ _ => pg_name (i := 5) nd rfl (Or.inl rfl)) (fun _ _ _ _ _ => pts_nil) (fun _ _ _ _ _ => (pe_got G hr (by rfl) (pa_cons (pv 5) pa_nil)))))))), ?_⟩
    have lB : (refsK B).length = B.length := List.length_map ..
    have c13 : ¬ (HT.sIx 8 0 (some 1) = 0 ∧ HT.sIx 8 8 (some 3) = 8) := by decide
    have c4 : ¬ (HT.sIx 8 0 (some 4) = 0 ∧ HT.sIx 8 8 none = 8) := by decide
    refine ⟨_, rfl, (n : Int), rfl, by omega, by omega, fun D nD => lc_range (lo := 0) (n := ((n : Nat) : Int).toNat) (fun i H' => ∃ ls : List Addr, RowsAt H H' D ls (fun _ => []) ∧ ls.length = i) ⟨[], ⟨same_new nD, upd_same, fun s a e => by simp at e, List.nodup_nil, nD⟩, rfl⟩ ?_ ?_⟩
    · rintro i H3 hi ⟨ls, RA, ll⟩
      refine ⟨rfl, ?_⟩
      refine ⟨Nat.zero_le _, fun q nq => ⟨_, same_new nq _ _ RA.at_, ?_, ls ++ [q], RA.add nq, by rw [List.length_append, ll] <;> rfl⟩⟩
      rw [List.length_map]
      exact Nat.lt_of_le_of_lt (show ls.length ≤ 2000 by omega) (by decide)
    rintro H3 ⟨ls, RA, ll⟩
    have lsn : ls.length = n := by omega
    refine ⟨_, rfl, aR, rfl, ⟨_, SqL.of (RA.same _ _ hR)⟩, for_list (K := K) (a := aR) (xs := refsK B) (fun i σ H' => ∃ (g : Nat → Sx.Rows) (v4 v5 : Option V), RowsAt H H' D ls (fun s => Sx.refsOf (g s)) ∧ (∀ s, (g s).map (·.2) = (ofState ((B.take i).map (·.2)) (s : Int)).map (lookK cls) ∧ Sx.TupsIn H' (g s)) ∧ σ = [some (.int (n : Int)), some (.ref aR), some (.ref aC), some (.ref D), v4, v5, none])
      ⟨fun _ => [], _, _, RA, fun s => ⟨rfl, fun p m => absurd m List.not_mem_nil⟩, rfl⟩ (fun i σ H' _ h => by obtain ⟨g, v4, v5, h, _⟩ := h; exact SqL.of (h.same _ _ hR)) ?_ ?_⟩
    · rintro i y σ H4 hy ⟨g, v4, v5, RB, hg, rfl⟩
      obtain ⟨r, er, rfl⟩ := at_refs hy
      have mr := List.mem_of_getElem? er
      have ok := okr r mr
      obtain ⟨s, es⟩ : ∃ s : Nat, r.2.st = (s : Int) := ⟨r.2.st.toNat, by have := ok.st; omega⟩
      obtain ⟨a, ea⟩ : ∃ a, ls[s]? = some a := ⟨_, List.getElem?_eq_getElem (by have := ok.st; omega)⟩
      have row := RB.row s a ea
      have atD : atI (ls.map V.ref) r.2.st = some (.ref a) := by
        rw [es]
        exact atI_nat (by rw [List.getElem?_map, ea] <;> rfl)
      have s4 := RB.same
      have hr4 := s4 _ _ (hK r mr)
      have af := ok.af
      have atC : atI (cls.map V.int) r.2.af = some (.int (clsAt cls r.2.af)) := cls_at' af.1 (by omega)
      refine ⟨_, rfl, _, rfl, r.1, r.2.vs, 0, .int r.2.st, rfl, rfl, .inl (.inl hr4), vs_st r.2, D, _, _, .ref a, rfl, rfl, SqL.of RB.at_, atD, ?_⟩
      refine ⟨_, rfl, .inl ⟨rfl, _, SqL.of row.1⟩, _, rfl, 1, rfl, 3, rfl, r.1, r.2.vs, rfl, .inl (.inl hr4), c13, fun q2 n2 => ?_⟩
      have t2 := same_new (o := HO.tup [V.str r.2.sg, V.str r.2.tp]) n2
      refine ⟨_, rfl, _, rfl, r.1, r.2.vs, 3, .int r.2.af, rfl, rfl, .inl (.inl (t2 _ _ hr4)), vs_af r.2, aC, _, _, _, rfl, rfl, SqL.of (t2 _ _ (s4 _ _ hC)), atC, show 1 ≤ sizeLine by decide, fun u3 nu3 => ?_⟩
      have t3 := same_new (o := HO.tup [V.int (clsAt cls r.2.af)]) nu3
      refine ⟨q2, u3, [V.str r.2.sg, V.str r.2.tp], [V.int (clsAt cls r.2.af)], rfl, rfl, .inl (.inl (t3 _ _ upd_same)), .inl (.inl upd_same), (fun z => nomatch z), show 2 + 1 ≤ sizeLine by decide, (fun z => nomatch z), fun _ w4 nw4 => ?_⟩
      have t4 := same_new (o := HO.tup [V.str r.2.sg, V.str r.2.tp, V.int (clsAt cls r.2.af)]) nw4
      have s24 := (t2.trans t3).trans t4
      refine ⟨_, rfl, 4, rfl, r.1, r.2.vs, rfl, .inl (.inl (s24 _ _ hr4)), c4, fun q5 n5 => ?_⟩
      have t5 := same_new (o := HO.tup [V.int r.2.mv, V.str r.2.de, V.str r.2.sy, V.str r.2.sa]) n5
      refine ⟨w4, q5, [V.str r.2.sg, V.str r.2.tp, V.int (clsAt cls r.2.af)], [V.int r.2.mv, V.str r.2.de, V.str r.2.sy, V.str r.2.sa], rfl, rfl, .inl (.inl (t5 _ _ upd_same)), .inl (.inl upd_same), (fun z => nomatch z), show 3 + 4 ≤ sizeLine by decide, (fun z => nomatch z), fun _ t nt => ?_⟩
      have s6 := (s24.trans t5).trans (same_new (o := HO.tup ((lookK cls r.2).map kV)) nt)
      have RC := RB.mono s6
      have rowC := RC.row s a ea
      have lg : (g s).length ≤ 1900 := by
        have z := congrArg List.length (hg s).1
        rw [List.length_map, List.length_map] at z
        have y : (ofState ((B.take i).map (·.2)) (s : Int)).length ≤ B.length := by
          unfold ofState
          refine Nat.le_trans (List.length_filter_le _ _) ?_
          rw [List.length_map, List.length_take]
          exact Nat.min_le_right _ _
        omega
      refine ⟨a, _, _, rfl, rfl, rowC.1, ?_, ?_⟩
      · unfold Sx.refsOf
        rw [List.length_map]
        exact Nat.lt_of_le_of_lt lg (by decide)
      · refine ⟨fun z => if z = s then g s ++ [(t, lookK cls r.2)] else g z, _, _, RC.put ea ?_ ?_, fun z => ?_, rfl⟩
        · show Sx.refsOf (if s = s then g s ++ [(t, lookK cls r.2)] else g s) = _
          rw [if_pos rfl]
          unfold Sx.refsOf
          rw [List.map_append] <;> rfl
        · intro z nz
          show Sx.refsOf (if z = s then g s ++ [(t, lookK cls r.2)] else g z) = _
          rw [if_neg nz]
        · have tup : ∀ {q : Addr} {xs : List V} {Hx : Hp} {o : HO}, Hx q = some (.tup xs) → Hx a = some (.lst (Sx.refsOf (g s))) → (upd Hx a o) q = some (.tup xs) := fun {q xs Hx o} e ea' => by
            rw [upd_ne (fun y => by rw [y, ea'] at e; cases e)]
            exact e
          by_cases c : z = s
          · subst c
            refine ⟨?_, ?_⟩
            · show (if z = z then g z ++ [(t, lookK cls r.2)] else g z).map (·.2) = _
              rw [if_pos rfl, List.map_append, (hg z).1, take_at er, List.map_append]
              show _ = List.map (lookK cls) (ofState (List.map (fun x => x.2) (List.take i B) ++ [r.2]) (z : Int))
              rw [ofState_snoc, if_pos es, List.map_append] <;> rfl
            · show Sx.TupsIn _ (if z = z then g z ++ [(t, lookK cls r.2)] else g z)
              rw [if_pos rfl]
              intro q m
              rcases List.mem_append.mp m with m | m
              · exact tup (s6 _ _ ((hg z).2 q m)) rowC.1
              · rw [List.mem_singleton.mp m]
                exact tup upd_same rowC.1
          · refine ⟨?_, ?_⟩
            · show (if z = s then g s ++ [(t, lookK cls r.2)] else g z).map (·.2) = _
              rw [if_neg c, (hg z).1, take_at er, List.map_append]
              show _ = List.map (lookK cls) (ofState (List.map (fun x => x.2) (List.take i B) ++ [r.2]) (z : Int))
              rw [ofState_snoc, if_neg (fun y => c (by omega)), List.append_nil]
            · show Sx.TupsIn _ (if z = s then g s ++ [(t, lookK cls r.2)] else g z)
              rw [if_neg c]
              exact fun q m => tup (s6 _ _ ((hg z).2 q m)) rowC.1
    rintro σ H4 ⟨g, v4, v5, RB, hg, rfl⟩
    have hg' : ∀ s, (g s).map (·.2) = (ofState (B.map (·.2)) (s : Int)).map (lookK cls) ∧ Sx.TupsIn H4 (g s) := fun s => by
      have z := hg s
      rw [lB, List.take_of_length_le (Nat.le_refl _)] at z
      exact z
    have lg : ∀ s, (g s).length ≤ 1900 := fun s => by
      have z := congrArg List.length (hg' s).1
      rw [List.length_map, List.length_map] at z
      have y : (ofState (B.map (·.2)) (s : Int)).length ≤ B.length := by
        unfold ofState
        refine Nat.le_trans (List.length_filter_le _ _) ?_
        rw [List.length_map]
        exact Nat.le_refl _
      omega
    have ofK : ∀ s, ∀ p ∈ g s, ∃ r ∈ B, p.2 = lookK cls r.2 := fun s p m => by
      have z : p.2 ∈ (g s).map (·.2) := List.mem_map.mpr ⟨p, m, rfl⟩
      rw [(hg' s).1] at z
      obtain ⟨r, mr, e⟩ := List.mem_map.mp z
      obtain ⟨q, mq, e2⟩ := List.mem_map.mp (List.mem_filter.mp mr).1
      exact ⟨q, mq, by rw [← e, ← e2]⟩
    refine ⟨_, rfl, D, rfl, ⟨_, SqL.of RB.at_⟩, fun Dn nDn => lc_list (K := K) (a := D) (xs := ls.map V.ref) (fun i H' => Same H4 H' ∧ ∃ ts : List Addr, H' Dn = some (.lst (ts.map V.ref)) ∧ ts.length = i ∧ ∀ (s : Nat) t, ts[s]? = some t → ∃ R' : Sx.Rows, H' t = some (.tup (Sx.refsOf R')) ∧ Sx.TupsIn H' R' ∧ R'.map (·.2) = lookOf (B.map (·.2)) cls s) ⟨same_new nDn, [], upd_same, rfl, fun s t e => by simp at e⟩ (fun i H' _ h => SqL.of (h.1 _ _ RB.at_)) ?_ ?_⟩
    · rintro i v H5 hi ⟨s5, ts, h5, lt, ht⟩
      rw [List.getElem?_map] at hi
      obtain ⟨a, ea, rfl⟩ := Option.map_eq_some_iff.mp hi
      have li := (List.getElem?_eq_some_iff.mp ea).1
      have row := RB.row i a ea
      refine ⟨rfl, ?_⟩
      refine ⟨_, rfl, a, g i, false, sh7, rfl, SqL.of (s5 _ _ row.1), fun q m => s5 _ _ ((hg' i).2 q m), fun p m => ?_, fun p m => ?_, Nat.le_trans (lg i) (by decide), fun q R' H6 s6 hq hT eK => ?_⟩
      · obtain ⟨r, _, e⟩ := ofK i p m
        rw [e]
        exact shp_look cls r.2
      · obtain ⟨r, mr, e⟩ := ofK i p m
        rw [e]
        exact look_ok al (okr r mr) cls
      have tup : ∀ {q : Addr} {xs : List V} {o : HO}, H6 q = some (.tup xs) → (upd H6 Dn o) q = some (.tup xs) := fun {q xs o} e => by
        rw [upd_ne (fun y => by rw [y, s6 _ _ h5] at e; cases e)]
        exact e
      refine ⟨_, s6 _ _ h5, ?_, same_mut (s5.trans s6) nDn, ts ++ [q], ?_, by rw [List.length_append, lt] <;> rfl, fun s t e => ?_⟩
      · rw [List.length_map]
        exact Nat.lt_of_le_of_lt (show ts.length ≤ 2000 by omega) (by decide)
      · rw [upd_same, List.map_append] <;> rfl
      · rw [List.getElem?_append] at e
        split at e
        · obtain ⟨R2, a1, a2, a3⟩ := ht s t e
          exact ⟨R2, tup (s6 _ _ a1), fun z m => tup (s6 _ _ (a2 z m)), a3⟩
        · rename_i c
          have m := List.mem_of_getElem? e
          have l2 := (List.getElem?_eq_some_iff.mp e).1
          have es : s = i := by
            have : s - ts.length < 1 := l2
            omega
          rw [List.mem_singleton.mp m, es]
          refine ⟨R', tup hq, fun z m => tup (hT z m), ?_⟩
          rw [eK, (hg' i).1]
          rfl
    · rintro H5 ⟨s5, ts, h5, lt, ht⟩
      have lls : (ls.map V.ref).length = ls.length := List.length_map ..
      exact k Dn H5 (RB.same.trans s5) ⟨ts, h5, by omega, ht⟩
end
end Mk

set_option Elab.async false
set_option linter.unusedVariables false
set_option maxRecDepth 100000
set_option maxHeartbeats 16000000
namespace Mk
open PySem L2 Pk
structure TX (mg : PySem.Str → Option Value) : Prop where
  max : mg "max" = none
theorem inV_ints (z : Int) (ys : List Int) : inV (.int z) (ys.map V.int) = decide (z ∈ ys) := by
  induction ys with
  | nil => rfl
  | cons y ys ih =>
    have e : inV (.int z) ((y :: ys).map V.int) = (eqV (.int y) (.int z) || inV (.int z) (ys.map V.int)) := rfl
    have e2 : eqV (.int y) (.int z) = (y == z) := rfl
    rw [e, ih, e2]
    by_cases c : y = z
    · rw [beq_iff_eq.mpr c, show decide (z ∈ y :: ys) = true from decide_eq_true (by rw [c]; exact List.mem_cons_self)]
      rfl
    · rw [beq_eq_false_iff_ne.mpr c, Bool.false_or]
      by_cases d : z ∈ ys
      · rw [decide_eq_true d, decide_eq_true (List.mem_cons_of_mem _ d)]
      · rw [decide_eq_false d, decide_eq_false (fun m => by
          rcases List.mem_cons.mp m with e | m
          · exact c e.symm
          · exact d m)]
theorem flat_ints (ys : List Int) : (ys.map V.int).all flatV = true := by
  rw [List.all_map]
  exact List.all_eq_true.mpr fun x m => rfl
abbrev nJudge : List PySem.Str := ["machine", "classes", "does", "state", "other"]
theorem scJudge : FnScope nJudge ["machine", "classes"] (defScope sJudge) := ⟨rfl, rfl, rfl, by decide +kernel, rfl, by decide +kernel, by decide +kernel⟩
abbrev nCoarse : List PySem.Str := ["machine", "classes", "turn", "does", "finer", "many", "state", "mine", "other", "alike"]
theorem scCoarse : FnScope nCoarse ["machine"] (defScope sCoarse) := ⟨rfl, rfl, rfl, by decide +kernel, rfl, by decide +kernel, by decide +kernel⟩
section
variable {P : Program} {w : World} {K : PySem.W.Frag} {mg : PySem.Str → Option Value} {base : Heap}
/-! _law_judge -/
def spJudge : Sp := fun vs H Q _ => ∃ (p aR aY aC : Addr) (l : PySem.Str) (n : Nat) (B : Kept) (ys cls : List Int), vs = [.ref p, .ref aC] ∧ Mdl H p aR aY l (n : Int) B ys ∧ n ≤ 41 ∧ B.length ≤ 1900 ∧ H aC = some (.lst (cls.map V.int)) ∧ cls.length ≤ 100 ∧
  ∀ (bb : Bool) (H' : Hp), Same H H' → (bb = true ↔ JudgeP n (B.map (·.2)) ys cls) → Q (.bl bb) H'
theorem ok_judge {f : Addr} {fd : FuncData} (F : Fun K "_law_judge" "_law_judge" sJudge f fd) (T : TM mg) (G : Got P w K mg base "_law_does" 2 ["states", "rules", "classes"] (spDoes K)) : FnOk P w K mg base CX0 3 f fd ["machine", "classes"] spJudge := by
  refine F.ok scJudge (fun vs H Q E h => ?_) (fun cdv A outer s H vs Q E hr h => ?_)
  · obtain ⟨p, aR, aY, aC, l, n, B, ys, cls, rfl, _⟩ := h
    rfl
  · obtain ⟨p, aR, aY, aC, l, n, B, ys, cls, rfl, M, n41, few, hC, fewC, k⟩ := h
    have nd := scJudge.nd
    have hu64 := hr.units
    refine ⟨_, (C8.pss_cut (ps_if (pt_cmpR op_ne (pe_callB call_len_seq (by rfl) T.len PySem.boot_len (pa_cons (pv 1) pa_nil)) (pe_ix ix_list (pv 0) pe_int fun _ _ => rfl) (nomark _))
        (pss_one (ps_ret pe_bl))
        pss_nil)
      (pss_cons (ps_set (i := 2) nd rfl (Or.inl rfl) (pe_got G hr (by rfl) (pa_cons (pe_ix ix_list (pv 0) pe_int fun _ _ => rfl) (pa_cons (pe_ix ix_list (pv 0) pe_int fun _ _ => rfl) (pa_cons (pv 1) pa_nil)))))
      (pss_cons (ps_for PassesOwn.never rfl (pi_range1 (by rfl) T.range (pa_cons (pe_ix ix_list (pv 0) pe_int fun _ _ => rfl) pa_nil)) (pg_name (i := 3) nd rfl (Or.inl rfl))
        (pss_one (ps_for PassesOwn.never rfl (pi_range1 (by rfl) T.range (pa_cons (pv 3) pa_nil)) (pg_name (i := 4) nd rfl (Or.inl rfl))
          (pss_one (ps_if (pt_cmpR op_eq (pe_ix ix_list (pv 1) (pv 3) fun _ _ => rfl) (pe_ix ix_list (pv 1) (pv 4) fun _ _ => rfl) (nomark _))
            (pss_one (ps_if (PW.pt (pw_or (pt_cmpR op_ne (pe_cmpR op_in_seq (pv 3) (pe_ix ix_list (pv 0) pe_int fun _ _ => rfl) rfl) (pe_cmpR op_in_seq (pv 4) (pe_ix ix_list (pv 0) pe_int fun _ _ => rfl) rfl) (nomark _)) (pw_or1 (pt_cmpR (op_neD hu64) (pe_ix ix_list (pv 2) (pv 3) fun _ _ => rfl) (pe_ix ix_list (pv 2) (pv 4) fun _ _ => rfl) (nomark _)))))
              (pss_one (ps_ret pe_bl))
              pss_nil))
            pss_nil)))))
      (pss_one (ps_ret pe_bl))))), ?_⟩
    have lCv : (cls.map V.int).length = cls.length := List.length_map ..
    refine ⟨fun σ' H' => σ' = [some (.ref p), some (.ref aC), none, none, none] ∧ H' = H ∧ cls.length = n, ?_, ?_⟩
    · refine ⟨_, rfl, aC, _, rfl, .inl (SqL.of hC), _, rfl, p, _, 1, .int (n : Int), rfl, rfl, SqL.of M.at_, rfl, rfl, _, rfl, ite2 (fun c => ?_) (fun c => ?_)⟩
      · refine k false H (Same.refl _) ⟨(fun z => nomatch z), fun j => ?_⟩
        have e := j.1
        rw [lCv, e, decide_eq_true rfl] at c
        cases c
      · refine ⟨rfl, rfl, Classical.byContradiction fun z => c ?_⟩
        rw [decide_eq_false (fun u => z (by have := V.int.inj u; omega))]
        rfl
    rintro _ H0 ⟨rfl, e0, eN⟩
    subst e0
    refine ⟨_, rfl, p, _, 1, .int (n : Int), rfl, rfl, SqL.of M.at_, rfl, _, rfl, p, _, 2, .ref aR, rfl, rfl, SqL.of M.at_, rfl, _, rfl, aR, aC, l, n, B, cls, rfl, M.rs, M.kept, M.al, M.ok, n41, few, hC, eN, fun q H1 s1 hd => ?_⟩
    have M1 := M.mono s1
    have okK : ∀ s : Int, ∀ k ∈ lookOf (B.map (·.2)) cls s, ∀ x ∈ k, KeyOk x := fun s => look_oks M.al (n := (n : Int)) (fun r m => by
      obtain ⟨z, mz, rfl⟩ := List.mem_map.mp m
      exact M.ok z mz) cls s
    refine ⟨_, rfl, p, _, 1, .int (n : Int), rfl, rfl, SqL.of M1.at_, rfl, (n : Int), rfl, by omega, by omega, for_range (lo := 0) (n := ((n : Nat) : Int).toNat) (fun i σ H' => H' = H1 ∧ (∃ v3 v4 : Option V, σ = [some (.ref p), some (.ref aC), some (.ref q), v3, v4]) ∧ ∀ s o : Nat, s < i → o < s → clsAt cls s = clsAt cls o → ((s : Int) ∈ ys ↔ (o : Int) ∈ ys) ∧ lookOf (B.map (·.2)) cls s = lookOf (B.map (·.2)) cls o)
      ⟨rfl, ⟨_, _, rfl⟩, fun s o h => absurd h (Nat.not_lt_zero _)⟩ ?_ ?_⟩
    · rintro i σ H2 hi ⟨rfl, ⟨v3, v4, rfl⟩, inv⟩
      have i' : i < n := by omega
      have ei : (0 : Int) + (i : Int) = (i : Int) := by omega
      rw [ei]
      refine ⟨_, rfl, (i : Int), rfl, by omega, by omega, for_range (lo := 0) (n := ((i : Nat) : Int).toNat) (fun j σ H' => H' = H2 ∧ (∃ v4 : Option V, σ = [some (.ref p), some (.ref aC), some (.ref q), some (.int (i : Int)), v4]) ∧ ∀ o : Nat, o < j → clsAt cls i = clsAt cls o → ((i : Int) ∈ ys ↔ (o : Int) ∈ ys) ∧ lookOf (B.map (·.2)) cls i = lookOf (B.map (·.2)) cls o)
        ⟨rfl, ⟨_, rfl⟩, fun o h => absurd h (Nat.not_lt_zero _)⟩ ?_ ?_⟩
      · rintro j σ H3 hj ⟨rfl, ⟨v4, rfl⟩, inv2⟩
        have j' : j < i := by omega
        have ej : (0 : Int) + (j : Int) = (j : Int) := by omega
        rw [ej]
        have hC3 := s1 _ _ hC
        have atI' := cls_at (cls := cls) (j := i) (by omega)
        have atJ' := cls_at (cls := cls) (j := j) (by omega)
        refine ⟨_, rfl, _, rfl, aC, _, _, _, rfl, rfl, SqL.of hC3, atI', _, rfl, _, rfl, aC, _, _, _, rfl, rfl, SqL.of hC3, atJ', rfl, _, rfl, ite2 (fun c => ?_) (fun c => ?_)⟩
        rotate_left
        · refine ⟨rfl, ⟨_, rfl⟩, fun o ho e => ?_⟩
          by_cases z : o = j
          · rw [z] at e
            exact absurd (decide_eq_true (by rw [e])) c
          · exact inv2 o (by omega) e
        have ec : clsAt cls (i : Int) = clsAt cls (j : Int) := V.int.inj (of_decide_eq_true c)
        have no : ¬ (((i : Int) ∈ ys ↔ (j : Int) ∈ ys) ∧ lookOf (B.map (·.2)) cls i = lookOf (B.map (·.2)) cls j) → ¬ JudgeP n (B.map (·.2)) ys cls := fun h z => h (z.2 i j i' j' ec)
        refine ⟨_, rfl, _, rfl, p, _, 3, .ref aY, rfl, rfl, SqL.of M1.at_, rfl, aY, _, rfl, .inl (SqL.of M1.yl), rfl, flat_ints ys, ?_⟩
        rw [inV_ints]
        refine ⟨_, rfl, _, rfl, p, _, 3, .ref aY, rfl, rfl, SqL.of M1.at_, rfl, aY, _, rfl, .inl (SqL.of M1.yl), rfl, flat_ints ys, ?_⟩
        rw [inV_ints]
        refine ⟨rfl, _, rfl, ite2 (fun c1 => ?_) (fun c1 => ?_)⟩
        · refine k false _ s1 ⟨(fun z => nomatch z), fun z => absurd z (no fun h => ?_)⟩
          rw [if_neg Bool.false_ne_true, if_neg Bool.false_ne_true, decide_eq_true (by rw [decide_eq_decide.mpr h.1])] at c1
          cases c1
        have eY : (i : Int) ∈ ys ↔ (j : Int) ∈ ys := by
          by_cases a : (i : Int) ∈ ys
          · by_cases b : (j : Int) ∈ ys
            · exact ⟨fun _ => b, fun _ => a⟩
            · exfalso
              apply c1
              simp [a, b]
          · by_cases b : (j : Int) ∈ ys
            · exfalso
              apply c1
              simp [a, b]
            · exact ⟨fun z => absurd z a, fun z => absurd z b⟩
        obtain ⟨ts, h1, h2, h3⟩ := hd
        obtain ⟨ti, eti⟩ : ∃ t, ts[i]? = some t := ⟨_, List.getElem?_eq_getElem (by omega)⟩
        obtain ⟨tj, etj⟩ : ∃ t, ts[j]? = some t := ⟨_, List.getElem?_eq_getElem (by omega)⟩
        obtain ⟨Ri, a1, a2, a3⟩ := h3 i ti eti
        obtain ⟨Rj, b1, b2, b3⟩ := h3 j tj etj
        have dI : Dp K H3 (.ref ti) (.tuple ((lookOf (B.map (·.2)) cls i).map keysD)) := by
          rw [← a3]
          exact .tup (.inl (.inl a1)) (dpa_rows a2)
        have dJ : Dp K H3 (.ref tj) (.tuple ((lookOf (B.map (·.2)) cls j).map keysD)) := by
          rw [← b3]
          exact .tup (.inl (.inl b1)) (dpa_rows b2)
        refine ⟨_, rfl, _, rfl, q, _, _, .ref ti, rfl, rfl, SqL.of h1, atI_nat (by rw [List.getElem?_map, eti] <;> rfl), _, rfl, _, rfl, q, _, _, .ref tj, rfl, rfl, SqL.of h1, atI_nat (by rw [List.getElem?_map, etj] <;> rfl), _, _, dI, dJ, shaped_rowsD (okK i), shaped_rowsD (okK j), _, rfl, ?_⟩
        rw [eqv_rows]
        refine ite2 (fun c2 => ?_) (fun c2 => ?_)
        · refine k false _ s1 ⟨(fun z => nomatch z), fun z => absurd z (no fun h => ?_)⟩
          rw [h.2, decide_eq_true rfl] at c2
          cases c2
        · have eL : lookOf (B.map (·.2)) cls i = lookOf (B.map (·.2)) cls j := Classical.byContradiction fun z => c2 (by rw [decide_eq_false z]; rfl)
          refine ⟨rfl, ⟨_, rfl⟩, fun o ho e => ?_⟩
          by_cases z : o = j
          · rw [z]; exact ⟨eY, eL⟩
          · exact inv2 o (by omega) e
      · rintro σ H3 ⟨rfl, ⟨v4, rfl⟩, inv2⟩
        refine ⟨rfl, ⟨_, _, rfl⟩, fun s o hs ho e => ?_⟩
        by_cases z : s = i
        · rw [z] at e ho ⊢
          exact inv2 o (by omega) e
        · exact inv s o (by omega) ho e
    · rintro σ H2 ⟨rfl, _, inv⟩
      exact k true _ s1 ⟨fun _ => ⟨eN, fun s o hs ho e => inv s o (by omega) ho e⟩, fun _ => rfl⟩
/-! _law_coarsest -/
def spCoarse : Sp := fun vs H Q _ => ∃ (p aR aY : Addr) (l : PySem.Str) (n : Nat) (B : Kept) (ys : List Int), vs = [.ref p] ∧ Mdl H p aR aY l (n : Int) B ys ∧ n ≤ 41 ∧ B.length ≤ 1900 ∧
  ∀ (a : Addr) (cls : List Int) (H' : Hp), Same H H' → H' a = some (.lst (cls.map V.int)) → cls.length = n → (∀ c ∈ cls, 0 ≤ c ∧ c ≤ 41) → Q (.ref a) H'
theorem ok_coarse {f : Addr} {fd : FuncData} (F : Fun K "_law_coarsest" "_law_coarsest" sCoarse f fd) (T : TM mg) (X2 : TX mg) (G : Got P w K mg base "_law_does" 2 ["states", "rules", "classes"] (spDoes K)) : FnOk P w K mg base CX0 3 f fd ["machine"] spCoarse := by
  refine F.ok scCoarse (fun vs H Q E h => ?_) (fun cdv A outer s H vs Q E hr h => ?_)
  · obtain ⟨p, aR, aY, l, n, B, ys, rfl, _⟩ := h
    rfl
  · obtain ⟨p, aR, aY, l, n, B, ys, rfl, M, n41, few, k⟩ := h
    have nd := scCoarse.nd
    have hu64 := hr.units
    have n1 := M.n1
    refine ⟨_, (pss_cons (ps_set (i := 1) nd rfl (Or.inl rfl) (pe_op op_rep (pe_lst (pa_cons pe_int pa_nil)) (pe_ix ix_list (pv 0) pe_int fun _ _ => rfl)))
      (C8.pss_cut (ps_for PassesOwn.never rfl (pi_range1 (by rfl) T.range (pa_cons (pe_op op_add (pe_ix ix_list (pv 0) pe_int fun _ _ => rfl) pe_int) pa_nil)) (pg_name (i := 2) nd rfl (Or.inl rfl))
        (pss_cons (ps_set (i := 3) nd rfl (Or.inl rfl) (pe_got G hr (by rfl) (pa_cons (pe_ix ix_list (pv 0) pe_int fun _ _ => rfl) (pa_cons (pe_ix ix_list (pv 0) pe_int fun _ _ => rfl) (pa_cons (pv 1) pa_nil)))))
        (pss_cons (ps_set (i := 4) nd rfl (Or.inl rfl) (pe_lst pa_nil))
        (pss_cons (ps_set (i := 5) nd rfl (Or.inl rfl) pe_int)
        (C8.pss_cut (ps_for PassesOwn.never rfl (pi_range1 (by rfl) T.range (pa_cons (pe_ix ix_list (pv 0) pe_int fun _ _ => rfl) pa_nil)) (pg_name (i := 6) nd rfl (Or.inl rfl))
          (pss_cons (ps_set (i := 7) nd rfl (Or.inl rfl) (pv 5))
          (C8.pss_cut (ps_for PassesOwn.never rfl (pi_range1 (by rfl) T.range (pa_cons (pv 6) pa_nil)) (pg_name (i := 8) nd rfl (Or.inl rfl))
            (C8.pss_cut (ps_set (i := 9) nd rfl (Or.inl rfl) (pe_and (pe_cmpR op_eq (pe_ix ix_list (pv 1) (pv 6) fun _ _ => rfl) (pe_ix ix_list (pv 1) (pv 8) fun _ _ => rfl) (nomark _)) (pe_one (pe_cmpR op_eq (pe_cmpR op_in_seq (pv 6) (pe_ix ix_list (pv 0) pe_int fun _ _ => rfl) rfl) (pe_cmpR op_in_seq (pv 8) (pe_ix ix_list (pv 0) pe_int fun _ _ => rfl) rfl) (nomark _)))))
            (pss_one (ps_if (PW.pt (pw_and (pt_val (pv 9)) (pw_and1 (pt_cmpR (op_eqD hu64) (pe_ix ix_list (pv 3) (pv 6) fun _ _ => rfl) (pe_ix ix_list (pv 3) (pv 8) fun _ _ => rfl) (nomark _)))))
              (pss_cons (ps_set (i := 7) nd rfl (Or.inl rfl) (pe_ix ix_list (pv 4) (pv 8) fun _ _ => rfl))
              (pss_one ps_break))
              pss_nil))))
          (pss_cons (ps_set (i := 5) nd rfl (Or.inl rfl) (pe_callB (call_max2 rfl) (by rfl) X2.max (by decide +kernel) (pa_cons (pv 5) (pa_cons (pe_op op_add (pv 7) pe_int) pa_nil))))
          (pss_one (ps_expr (pe_bm PySem.F.plainAttrs_list PySem.F.slot_list_append PySem.F.type_list_append mt_append (pv 4) (pa_cons (pv 7) pa_nil))))))))
        (C8.pss_cut (ps_if (pt_cmpR (op_eqD hu64) (pv 4) (pv 1) (nomark _))
          (pss_one ps_break)
          pss_nil)
        (pss_one (ps_set (i := 1) nd rfl (Or.inl rfl) (pe_callTy call_list_of (by rfl) T.list PyProof.Rows.Boot.list (pa_cons (pv 4) pa_nil))))))))))
      (pss_one (ps_ret (pv 1))))), ?_⟩
    refine ⟨show 1 ≤ sizeLine by decide, fun u1 nu1 => ?_⟩
    have t1 := same_new (o := HO.lst [V.int 0]) nu1
    have M1 := M.mono t1
    have ek : ((n : Nat) : Int).toNat = n := Int.toNat_natCast n
    refine ⟨_, rfl, p, _, 1, .int (n : Int), rfl, rfl, SqL.of M1.at_, rfl, u1, (n : Int), _, rfl, rfl, upd_same, by omega, by omega, ?_, fun aC0 nC0 => ?_⟩
    · rw [ek]
      exact Nat.le_trans (show 1 * n ≤ 100 by omega) (by decide)
    have flat : (List.replicate ((n : Nat) : Int).toNat [V.int 0]).flatten = (List.replicate n (0 : Int)).map V.int := by
      rw [ek, List.map_replicate]
      generalize n = g
      induction g with
      | zero => rfl
      | succ g ih => rw [List.replicate_succ, List.flatten_cons, ih]; rfl
    have t2 := same_new (o := HO.lst (List.replicate ((n : Nat) : Int).toNat [V.int 0]).flatten) nC0
    have hC0 : (upd (upd H u1 (.lst [V.int 0])) aC0 (.lst (List.replicate ((n : Nat) : Int).toNat [V.int 0]).flatten)) aC0 = some (.lst ((List.replicate n (0 : Int)).map V.int)) := by rw [upd_same, flat]
    have s2 := t1.trans t2
    dsimp only [gName]
    generalize upd (upd H u1 (.lst [V.int 0])) aC0 (.lst (List.replicate ((n : Nat) : Int).toNat [V.int 0]).flatten) = H2 at hC0 s2 ⊢
    clear t2 t1 M1 nC0 nu1
    have M2 := M.mono s2
    refine ⟨fun σ' H' => ∃ (aC : Addr) (cls : List Int) (v2 v3 v4 v5 v6 v7 v8 v9 : Option V), σ' = [some (.ref p), some (.ref aC), v2, v3, v4, v5, v6, v7, v8, v9] ∧ Same H H' ∧ H' aC = some (.lst (cls.map V.int)) ∧ cls.length = n ∧ ∀ c ∈ cls, 0 ≤ c ∧ c ≤ 41, ?_, ?_⟩
    rotate_left
    · rintro _ H' ⟨aC, cls, v2, v3, v4, v5, v6, v7, v8, v9, rfl, s', hC, lc, okc⟩
      exact ⟨_, rfl, k aC cls H' s' hC lc okc⟩
    refine ⟨_, rfl, p, _, 1, .int (n : Int), rfl, rfl, SqL.of M2.at_, rfl, _, _, rfl, rfl, _, rfl, by omega, by omega, for_range (lo := 0) (n := (((n : Nat) : Int) + 1).toNat) (fun i σ H' => ∃ (aC : Addr) (cls : List Int) (v2 v3 v4 v5 v6 v7 v8 v9 : Option V), σ = [some (.ref p), some (.ref aC), v2, v3, v4, v5, v6, v7, v8, v9] ∧ Same H H' ∧ H' aC = some (.lst (cls.map V.int)) ∧ cls.length = n ∧ ∀ c ∈ cls, 0 ≤ c ∧ c ≤ 41)
      ⟨aC0, _, _, _, _, _, _, _, _, _, rfl, s2, hC0, List.length_replicate, fun c m => by rw [List.eq_of_mem_replicate m]; decide⟩ ?_ (fun σ H' h => h)⟩
    rintro i σ H3 hi ⟨aC, cls, v2, v3, v4, v5, v6, v7, v8, v9, rfl, s3, hC, lc, okc⟩
    have M3 := M.mono s3
    refine ⟨_, rfl, p, _, 1, .int (n : Int), rfl, rfl, SqL.of M3.at_, rfl, _, rfl, p, _, 2, .ref aR, rfl, rfl, SqL.of M3.at_, rfl, _, rfl, aR, aC, l, n, B, cls, rfl, M3.rs, M3.kept, M3.al, M3.ok, n41, few, hC, lc, fun aD H4 s4 hd => ?_⟩
    have okK : ∀ s : Int, ∀ k ∈ lookOf (B.map (·.2)) cls s, ∀ x ∈ k, KeyOk x := fun s => look_oks M.al (n := (n : Int)) (fun r m => by
      obtain ⟨z, mz, rfl⟩ := List.mem_map.mp m
      exact M.ok z mz) cls s
    have M4 := M3.mono s4
    have hC4 := s4 _ _ hC
    refine ⟨Nat.zero_le _, fun aF nF => ?_⟩
    have tF := same_new (o := HO.lst []) nF
    have hF0 : (upd H4 aF (.lst [])) aF = some (.lst (([] : List Int).map V.int)) := upd_same
    dsimp only [gName]
    refine ⟨fun σ' H' => ∃ (fs : List Int) (v5 v6 v7 v8 v9 : Option V), σ' = [some (.ref p), some (.ref aC), some (.int (0 + (i : Int))), some (.ref aD), some (.ref aF), v5, v6, v7, v8, v9] ∧ Same H4 H' ∧ H' aF = some (.lst (fs.map V.int)) ∧ fs.length = n ∧ ∀ c ∈ fs, 0 ≤ c ∧ c ≤ 41, ?_, ?_⟩
    · refine ⟨_, rfl, p, _, 1, .int (n : Int), rfl, rfl, SqL.of (tF _ _ M4.at_), rfl, (n : Int), rfl, by omega, by omega, for_range (lo := 0) (n := ((n : Nat) : Int).toNat) (fun st σ H' => ∃ (fs : List Int) (m : Int) (v6 v7 v8 v9 : Option V), σ = [some (.ref p), some (.ref aC), some (.int (0 + (i : Int))), some (.ref aD), some (.ref aF), some (.int m), v6, v7, v8, v9] ∧ Same H4 H' ∧ H' aF = some (.lst (fs.map V.int)) ∧ fs.length = st ∧ 0 ≤ m ∧ m ≤ (st : Int) ∧ ∀ c ∈ fs, 0 ≤ c ∧ c ≤ (st : Int))
        ⟨[], 0, _, _, _, _, rfl, tF, hF0, rfl, by omega, by omega, fun c m => absurd m List.not_mem_nil⟩ ?_ ?_⟩
      rotate_left
      · rintro σ H' ⟨fs, m, v6, v7, v8, v9, rfl, s', hF, lf, m0, m1, okf⟩
        exact ⟨fs, _, _, _, _, _, rfl, s', hF, by omega, fun c mc => by have := okf c mc; omega⟩
      rintro st σ H5 hst ⟨fs, m, v6, v7, v8, v9, rfl, s5, hF, lf, m0, m1, okf⟩
      have st' : st < n := by omega
      have est : (0 : Int) + (st : Int) = (st : Int) := by omega
      rw [est]
      refine ⟨_, rfl, ?_⟩
      refine ⟨fun σ' H' => ∃ (mi : Int) (v8 v9 : Option V), σ' = [some (.ref p), some (.ref aC), some (.int (0 + (i : Int))), some (.ref aD), some (.ref aF), some (.int m), some (.int (st : Int)), some (.int mi), v8, v9] ∧ H' = H5 ∧ 0 ≤ mi ∧ mi ≤ (st : Int), ?_, ?_⟩
      · refine ⟨_, rfl, (st : Int), rfl, by omega, by omega, for_range (lo := 0) (n := ((st : Nat) : Int).toNat) (fun j σ H' => ∃ v8 v9 : Option V, σ = [some (.ref p), some (.ref aC), some (.int (0 + (i : Int))), some (.ref aD), some (.ref aF), some (.int m), some (.int (st : Int)), some (.int m), v8, v9] ∧ H' = H5) ⟨_, _, rfl, rfl⟩ ?_ (fun σ H' h => by
          obtain ⟨v8, v9, rfl, e⟩ := h
          exact ⟨m, _, _, rfl, e, m0, m1⟩)⟩
        rintro j σ H6 hj ⟨v8, v9, rfl, e6⟩
        subst e6
        have j' : j < st := by omega
        have ej : (0 : Int) + (j : Int) = (j : Int) := by omega
        rw [ej]
        have hC6 := s5 _ _ hC4
        have atI' := cls_at (cls := cls) (j := st) (by omega)
        have atJ' := cls_at (cls := cls) (j := j) (by omega)
        have M6 := M4.mono s5
        refine ⟨fun σ' H' => ∃ ab : Bool, σ' = [some (.ref p), some (.ref aC), some (.int (0 + (i : Int))), some (.ref aD), some (.ref aF), some (.int m), some (.int (st : Int)), some (.int m), some (.int (j : Int)), some (.bl ab)] ∧ H' = H6, ?_, ?_⟩
        · refine ⟨_, rfl, _, rfl, aC, _, _, _, rfl, rfl, SqL.of hC6, atI', _, rfl, _, rfl, aC, _, _, _, rfl, rfl, SqL.of hC6, atJ', rfl, _, rfl, ite2 (fun c => ?_) (fun c => ⟨_, rfl, rfl⟩)⟩
          exact ⟨_, rfl, _, rfl, p, _, 3, .ref aY, rfl, rfl, SqL.of M6.at_, rfl, aY, _, rfl, .inl (SqL.of M6.yl), rfl, flat_ints ys, _, rfl, _, rfl, p, _, 3, .ref aY, rfl, rfl, SqL.of M6.at_, rfl, aY, _, rfl, .inl (SqL.of M6.yl), rfl, flat_ints ys, rfl, _, rfl, rfl⟩
        rintro _ H7 ⟨ab, rfl, e7⟩
        subst e7
        refine ⟨_, rfl, _, rfl, ite2 (fun _ => ?_) (fun _ => ⟨_, _, rfl, rfl⟩)⟩
        obtain ⟨ts, h1, h2, h3⟩ := hd.mono s5
        obtain ⟨ti, eti⟩ : ∃ t, ts[st]? = some t := ⟨_, List.getElem?_eq_getElem (by omega)⟩
        obtain ⟨tj, etj⟩ : ∃ t, ts[j]? = some t := ⟨_, List.getElem?_eq_getElem (by omega)⟩
        obtain ⟨Ri, a1, a2, a3⟩ := h3 st ti eti
        obtain ⟨Rj, b1, b2, b3⟩ := h3 j tj etj
        have dI : Dp K H7 (.ref ti) (.tuple ((lookOf (B.map (·.2)) cls st).map keysD)) := by
          rw [← a3]
          exact .tup (.inl (.inl a1)) (dpa_rows a2)
        have dJ : Dp K H7 (.ref tj) (.tuple ((lookOf (B.map (·.2)) cls j).map keysD)) := by
          rw [← b3]
          exact .tup (.inl (.inl b1)) (dpa_rows b2)
        refine ⟨_, rfl, _, rfl, aD, _, _, .ref ti, rfl, rfl, SqL.of h1, atI_nat (by rw [List.getElem?_map, eti] <;> rfl), _, rfl, _, rfl, aD, _, _, .ref tj, rfl, rfl, SqL.of h1, atI_nat (by rw [List.getElem?_map, etj] <;> rfl), _, _, dI, dJ, shaped_rowsD (okK st), shaped_rowsD (okK j), _, rfl, ite2 (fun _ => ?_) (fun _ => ⟨_, _, rfl, rfl⟩)⟩
        obtain ⟨fj, efj⟩ : ∃ f, fs[j]? = some f := ⟨_, List.getElem?_eq_getElem (by omega)⟩
        have := okf fj (List.mem_of_getElem? efj)
        exact ⟨_, rfl, _, rfl, aF, _, _, .int fj, rfl, rfl, SqL.of hF, atI_nat (by rw [List.getElem?_map, efj] <;> rfl), fj, _, _, rfl, rfl, this.1, this.2⟩
      rintro _ H6 ⟨mi, v8, v9, rfl, e6, mi0, mi1⟩
      subst e6
      refine ⟨_, rfl, _, rfl, _, _, rfl, rfl, m, mi + 1, rfl, ?_⟩
      refine ⟨_, rfl, .inl ⟨rfl, _, SqL.of hF⟩, _, rfl, aF, _, _, rfl, rfl, hF, ?_, fs ++ [mi], if mi + 1 > m then mi + 1 else m, _, _, _, _, rfl, same_mut s5 nF, ?_, by rw [List.length_append, lf] <;> rfl, ?_, ?_, fun c mc => ?_⟩
      · rw [List.length_map]
        exact Nat.lt_of_le_of_lt (show fs.length ≤ 100 by omega) (by decide)
      · rw [upd_same, List.map_append] <;> rfl
      · split <;> omega
      · split <;> omega
      · rcases List.mem_append.mp mc with mc | mc
        · have := okf c mc
          omega
        · rw [List.mem_singleton.mp mc]
          omega
    rintro _ H5 ⟨fs, v5, v6, v7, v8, v9, rfl, s5, hF, lf, okf⟩
    have hC5 := s5 _ _ hC4
    have s35 := (s3.trans s4).trans s5
    refine ⟨fun σ' H' => σ' = [some (.ref p), some (.ref aC), some (.int (0 + (i : Int))), some (.ref aD), some (.ref aF), v5, v6, v7, v8, v9] ∧ H' = H5, ?_, ?_⟩
    · refine ⟨_, rfl, _, rfl, _, _, .lst (SqL.of hF) (dpa_ints fs), .lst (SqL.of hC5) (dpa_ints cls), (shaped_ints fs).1, (shaped_ints cls).1, _, rfl, ite2 (fun _ => ?_) (fun _ => ⟨rfl, rfl⟩)⟩
      exact ⟨aC, cls, _, _, _, _, _, _, _, _, rfl, s35, hC5, lc, okc⟩
    rintro _ H6 ⟨rfl, e6⟩
    subst e6
    refine ⟨_, rfl, aF, _, rfl, .inl (SqL.of hF), fun q nq => ?_⟩
    exact ⟨q, fs, _, _, _, _, _, _, _, _, rfl, s35.trans (same_new nq), upd_same, lf, okf⟩
end
end Mk

set_option Elab.async false
set_option linter.all false
set_option maxRecDepth 100000
/-! ** of great ints -/
namespace Sx
open PySem PySem.Spec PyProof.Rows L2
def CPowG (i j : Int) : Prop := 0 ≤ j ∧ (Builtin.Int.intBits i : Int) * j ≤ 2 ^ 27
section
variable {X : Cx}
theorem op_powG : OpR X (binaryOp .Pow) (rI CPowG fun i j => .int (i ^ j.toNat)) := opI fun _ _ _ _ _ _ _ hc q => pow_int hc.1 hc.2 q
end
theorem powG_of {i : Int} {a k : Nat} (h : i.natAbs < 2 ^ a) (hk : a * k ≤ 100000000) : CPowG i (k : Int) := by
  have b := intBits_le h
  refine ⟨by omega, ?_⟩
  have z : Builtin.Int.intBits i * k ≤ a * k := Nat.mul_le_mul_right k b
  have e : ((Builtin.Int.intBits i * k : Nat) : Int) = (Builtin.Int.intBits i : Int) * (k : Int) := Int.natCast_mul _ _
  rw [← e]
  have : (2 : Int) ^ 27 = 134217728 := by decide
  omega
end Sx

set_option Elab.async false
set_option linter.unusedVariables false
set_option maxRecDepth 100000
set_option maxHeartbeats 32000000
namespace Mk
open PySem L2 Pk
/-! a list of ints that grows -/
def AccI (H : Hp) (D : Addr) (i : Nat) : Prop := ∃ acc : List V, H D = some (.lst acc) ∧ acc.length ≤ i ∧ ∀ v ∈ acc, ∃ z, v = V.int z
def IntsAt (H : Hp) (a : Addr) : Prop := ∃ cs : List Int, H a = some (.lst (cs.map V.int)) ∧ cs.length ≤ 50
theorem acc_nil {H : Hp} {D : Addr} : AccI (upd H D (.lst [])) D 0 := ⟨[], upd_same, Nat.le_refl _, fun v m => absurd m List.not_mem_nil⟩
theorem acc_put {H0 H4 : Hp} {D : Addr} {i : Nat} {z : Int} (h : AccI H4 D i) (s : Same H0 H4) (nD : H0 D = none) (li : i ≤ 100) :
    ∃ acc, H4 D = some (.lst acc) ∧ acc.length < sizeLine ∧ Same H0 (upd H4 D (.lst (acc ++ [V.int z]))) ∧ AccI (upd H4 D (.lst (acc ++ [V.int z]))) D (i + 1) := by
  obtain ⟨acc, a, b, c⟩ := h
  refine ⟨acc, a, Nat.lt_of_le_of_lt (show acc.length ≤ 100 by omega) (by decide), same_mut s nD, acc ++ [V.int z], upd_same, ?_, fun v m => ?_⟩
  · rw [List.length_append]
    show acc.length + 1 ≤ i + 1
    omega
  · rcases List.mem_append.mp m with m | m
    · exact c v m
    · exact ⟨z, List.mem_singleton.mp m⟩
theorem AccI.mono {H H' : Hp} {D : Addr} {i : Nat} (h : AccI H D i) (s : Same H H') : AccI H' D i := by
  obtain ⟨acc, a, b, c⟩ := h
  exact ⟨acc, s _ _ a, b, c⟩
theorem ints_of : ∀ acc : List V, (∀ v ∈ acc, ∃ z, v = V.int z) → ∃ cs : List Int, acc = cs.map V.int
  | [], _ => ⟨[], rfl⟩
  | v :: acc, h => by
    obtain ⟨z, rfl⟩ := h v List.mem_cons_self
    obtain ⟨cs, e⟩ := ints_of acc fun u m => h u (List.mem_cons_of_mem _ m)
    exact ⟨z :: cs, by rw [e] <;> rfl⟩
theorem AccI.ints {H : Hp} {D : Addr} {i : Nat} (h : AccI H D i) (li : i ≤ 50) : IntsAt H D := by
  obtain ⟨acc, a, b, c⟩ := h
  obtain ⟨cs, rfl⟩ := ints_of acc c
  rw [List.length_map] at b
  exact ⟨cs, a, by omega⟩
theorem IntsAt.mono {H H' : Hp} {a : Addr} (h : IntsAt H a) (s : Same H H') : IntsAt H' a := by
  obtain ⟨cs, e, l⟩ := h
  exact ⟨cs, s _ _ e, l⟩
theorem IntsAt.keep {H : Hp} {a t r : Addr} {rest : List V} {o : HO} (h : IntsAt H a) (e : H t = some (.lst (.ref r :: rest))) : IntsAt (upd H t o) a := by
  obtain ⟨cs, ea, l⟩ := h
  refine ⟨cs, ?_, l⟩
  rw [upd_ne fun z => ?_]
  · exact ea
  · rw [z, e] at ea
    have q := HO.lst.inj (Option.some.inj ea)
    cases cs with
    | nil => cases q
    | cons c cs => cases (List.cons.inj q).1
theorem ix_nat {k : Int} {n : Nat} (h0 : 0 ≤ k) (h1 : k < (n : Int)) : ixN n k = some k.toNat := by
  unfold ixN
  rw [if_pos h0, if_pos h1]
abbrev nTries : List PySem.Str := ["script", "at", "owners", "yes", "coarse", "row", "total", "tries", "moved", "alone", "gone", "stays", "one", "owner", "k"]
theorem scTries : FnScope nTries ["script", "at", "owners", "yes", "coarse"] (defScope sTries) := ⟨rfl, rfl, rfl, by decide +kernel, rfl, by decide +kernel, by decide +kernel⟩
section
variable {P : Program} {w : World} {K : PySem.W.Frag} {mg : PySem.Str → Option Value} {base : Heap}
/-! _law_tries -/
def spTries (K : PySem.W.Frag) : Sp := fun vs H Q _ => ∃ (sc : Addr) (ns : List Int) (at_ : Nat) (aO aY aC : Addr) (n : Nat) (os ys cls : List Int), vs = [.ref sc, .int (at_ : Int), .ref aO, .ref aY, .ref aC] ∧ SqL K H sc (ns.map V.int) ∧ H aO = some (.lst (os.map V.int)) ∧ os.length = n ∧ (∀ o ∈ os, 0 ≤ o ∧ o < 5) ∧ H aY = some (.lst (ys.map V.int)) ∧
  H aC = some (.lst (cls.map V.int)) ∧ cls.length = n ∧ (∀ c ∈ cls, 0 ≤ c ∧ c ≤ 41) ∧ 1 ≤ n ∧ n ≤ 41 ∧
  ∀ (q : Addr) (as : List Addr) (H' : Hp), Same H H' → H' q = some (.lst (as.map V.ref)) → as ≠ [] → as.length ≤ 100 → (∀ a ∈ as, IntsAt H' a) → Q (.ref q) H'
theorem ok_tries {f : Addr} {fd : FuncData} (F : Fun K "_law_tries" "_law_tries" sTries f fd) (T : TM mg) (G : GenDefs P w K mg base) : FnOk P w K mg base CX0 2 f fd ["script", "at", "owners", "yes", "coarse"] (spTries K) := by
  refine F.ok scTries (fun vs H Q E h => ?_) (fun cdv A outer s H vs Q E hr h => ?_)
  · obtain ⟨sc, ns, at_, aO, aY, aC, n, os, ys, cls, rfl, _⟩ := h
    rfl
  · obtain ⟨sc, ns, at_, aO, aY, aC, n, os, ys, cls, rfl, hSc, hO, lo, oko, hY, hC, lc, okc, n1, n41, k⟩ := h
    have nd := scTries.nd
    have h1 := hr
    refine ⟨_, (pss_cons (ps_set (i := 5) nd rfl (Or.inr rfl) (pe_got G.digits h1 (by rfl) (pa_cons (pe_got G.cell h1 (by rfl) (pa_cons (pv 0) (pa_cons (pv 1) pa_nil))) (pa_cons (pe_op op_rep (pe_lst (pa_cons pe_int pa_nil)) pe_int) pa_nil))))
      (pss_cons (ps_set (i := 6) nd rfl (Or.inl rfl) (pe_callB call_len_seq (by rfl) T.len PySem.boot_len (pa_cons (pv 4) pa_nil)))
      (pss_cons (ps_set (i := 7) nd rfl (Or.inl rfl) (pe_lst (pa_cons (pv 4) (pa_cons (pe_lc (own := [("one", 12)]) (g := gName 12) (tt := tYes) (by rfl) nd (pi_list (pv 4)) (blkOk_by (own := [("one", 12)]) (N := nTries) (sc := defScope sTries) (by decide +kernel)) (fun _ _ _ _ _ => pg_name (i := 12) nd rfl (Or.inl rfl)) (fun _ _ _ _ _ => pts_nil) (fun _ _ _ _ _ => (pe_op op_sub (pe_op op_mul (pe_op Sx.op_powG pe_int pe_int) (pv 12)) (pe_ix (r := rIxL K) ix_list (pv 5) pe_int fun _ _ => rfl)))) (pa_cons (pe_lc (own := [("owner", 13)]) (g := gName 13) (tt := tYes) (by rfl) nd (pi_list (pv 2)) (blkOk_by (own := [("owner", 13)]) (N := nTries) (sc := defScope sTries) (by decide +kernel)) (fun _ _ _ _ _ => pg_name (i := 13) nd rfl (Or.inl rfl)) (fun _ _ _ _ _ => pts_nil) (fun _ _ _ _ _ => (pe_op op_sub (pe_op op_mul pe_int (pv 13)) pe_int))) pa_nil)))))
      (pss_cons (ps_set (i := 8) nd rfl (Or.inl rfl) (pe_callTy call_list_of (by rfl) T.list PyProof.Rows.Boot.list (pa_cons (pv 4) pa_nil)))
      (pss_cons (ps_asg (pe_ix ix_list (pv 4) (pe_op op_mod (pe_callTy call_int1 (by rfl) T.int PyProof.Rows.Boot.int (pa_cons (pe_ix ix_list (pv 5) pe_int fun _ _ => rfl) pa_nil)) (pv 6)) fun _ _ => rfl) (pg_sub (pv 8) (pe_op op_mod (pe_callTy call_int1 (by rfl) T.int PyProof.Rows.Boot.int (pa_cons (pe_ix ix_list (pv 5) pe_int fun _ _ => rfl) pa_nil)) (pv 6)) set_list))
      (pss_cons (ps_set (i := 9) nd rfl (Or.inl rfl) (pe_callTy call_list_of (by rfl) T.list PyProof.Rows.Boot.list (pa_cons (pv 4) pa_nil)))
      (pss_cons (ps_asg (pe_op op_add (pv 6) (pe_ix ix_list (pv 5) pe_int fun _ _ => rfl)) (pg_sub (pv 9) (pe_op op_mod (pe_callTy call_int1 (by rfl) T.int PyProof.Rows.Boot.int (pa_cons (pe_ix ix_list (pv 5) pe_int fun _ _ => rfl) pa_nil)) (pv 6)) set_list))
      (pss_cons (ps_set (i := 10) nd rfl (Or.inr rfl) (pe_ix ix_list (pv 4) (pe_op op_mod (pe_callTy call_int1 (by rfl) T.int PyProof.Rows.Boot.int (pa_cons (pe_ix ix_list (pv 5) pe_int fun _ _ => rfl) pa_nil)) (pv 6)) fun _ _ => rfl))
      (pss_cons (ps_set (i := 11) nd rfl (Or.inr rfl) (pe_ix ix_list (pv 4) (pe_op op_mod (pe_callTy call_int1 (by rfl) T.int PyProof.Rows.Boot.int (pa_cons (pe_ix ix_list (pv 5) pe_int fun _ _ => rfl) pa_nil)) (pv 6)) fun _ _ => rfl))
      (pss_cons (ps_set (i := 7) nd rfl (Or.inl rfl) (pe_op op_cat (pv 7) (pe_lst (pa_cons (pv 8) (pa_cons (pv 9) (pa_cons (pe_lc (own := [("one", 12)]) (g := gName 12) (tt := tYes) (by rfl) nd (pi_list (pv 4)) (blkOk_by (own := [("one", 12)]) (N := nTries) (sc := defScope sTries) (by decide +kernel)) (fun _ _ _ _ _ => pg_name (i := 12) nd rfl (Or.inl rfl)) (fun _ _ _ _ _ => pts_nil) (fun _ _ _ _ _ => (pe_ix (r := rIxL K) ix_list (pe_lst (pa_cons (pv 12) (pa_cons (pv 11) pa_nil))) (pe_callTy call_int1 (by rfl) T.int PyProof.Rows.Boot.int (pa_cons (pe_cmpR op_eq (pv 12) (pv 10) (nomark _)) pa_nil)) fun _ _ => rfl))) pa_nil))))))
      (pss_cons (ps_set (i := 7) nd rfl (Or.inl rfl) (pe_op op_cat (pv 7) (pe_lst (pa_cons (pe_lc (own := [("k", 14)]) (g := gName 14) (tt := tYes) (by rfl) nd (pi_range1 (by rfl) T.range (pa_cons (pv 6) pa_nil)) (blkOk_by (own := [("k", 14)]) (N := nTries) (sc := defScope sTries) (by decide +kernel)) (fun _ _ _ _ _ => pg_name (i := 14) nd rfl (Or.inl rfl)) (fun _ _ _ _ _ => pts_nil) (fun _ _ _ _ _ => (pv 14))) (pa_cons (pe_lc (own := [("k", 14)]) (g := gName 14) (tt := tYes) (by rfl) nd (pi_range1 (by rfl) T.range (pa_cons (pv 6) pa_nil)) (blkOk_by (own := [("k", 14)]) (N := nTries) (sc := defScope sTries) (by decide +kernel)) (fun _ _ _ _ _ => pg_name (i := 14) nd rfl (Or.inl rfl)) (fun _ _ _ _ _ => pts_nil) (fun _ _ _ _ _ => (pe_op op_sub (pe_ix (r := rIxL K) ix_list (pv 5) pe_int fun _ _ => rfl) pe_int))) (pa_cons (pe_lc (own := [("k", 14)]) (g := gName 14) (tt := tYes) (by rfl) nd (pi_range1 (by rfl) T.range (pa_cons (pv 6) pa_nil)) (blkOk_by (own := [("k", 14)]) (N := nTries) (sc := defScope sTries) (by decide +kernel)) (fun _ _ _ _ _ => pg_name (i := 14) nd rfl (Or.inl rfl)) (fun _ _ _ _ _ => pts_nil) (fun _ _ _ _ _ => (pe_callTy call_int1 (by rfl) T.int PyProof.Rows.Boot.int (pa_cons (pe_cmpR (r := rIn K false) op_in_seq (pv 14) (pv 3) rfl) pa_nil)))) pa_nil))))))
      (pss_cons (ps_expr (pe_bm PySem.F.plainAttrs_list PySem.F.slot_list_append PySem.F.type_list_append mt_append (pv 7) (pa_cons (pe_lc (own := [("k", 14)]) (g := gName 14) (tt := tYes) (by rfl) nd (pi_range1 (by rfl) T.range (pa_cons (pv 6) pa_nil)) (blkOk_by (own := [("k", 14)]) (N := nTries) (sc := defScope sTries) (by decide +kernel)) (fun _ _ _ _ _ => pg_name (i := 14) nd rfl (Or.inl rfl)) (fun _ _ _ _ _ => pts_nil) (fun _ _ _ _ _ => (pe_op op_mod (pe_callTy call_int1 (by rfl) T.int PyProof.Rows.Boot.int (pa_cons (pe_ix (r := rIxL K) ix_list (pv 5) (pe_op op_add pe_int (pe_op op_mod (pv 14) pe_int)) fun _ _ => rfl) pa_nil)) pe_int))) pa_nil)))
      (pss_cons (ps_expr (pe_bm PySem.F.plainAttrs_list PySem.F.slot_list_append PySem.F.type_list_append mt_append (pv 7) (pa_cons (pe_lc (own := [("k", 14)]) (g := gName 14) (tt := tYes) (by rfl) nd (pi_range1 (by rfl) T.range (pa_cons (pv 6) pa_nil)) (blkOk_by (own := [("k", 14)]) (N := nTries) (sc := defScope sTries) (by decide +kernel)) (fun _ _ _ _ _ => pg_name (i := 14) nd rfl (Or.inl rfl)) (fun _ _ _ _ _ => pts_nil) (fun _ _ _ _ _ => (pe_op op_add (pe_op op_mul (pe_ix (r := rIxL K) ix_list (pv 2) (pv 14) fun _ _ => rfl) pe_int) (pe_op op_mod (pe_callTy call_int1 (by rfl) T.int PyProof.Rows.Boot.int (pa_cons (pe_ix (r := rIxL K) ix_list (pv 5) (pe_op op_add pe_int (pe_op op_mod (pv 14) pe_int)) fun _ _ => rfl) pa_nil)) pe_int)))) pa_nil)))
      (pss_one (ps_ret (pe_op op_cat (pv 7) (pe_lst (pa_cons (pe_op op_cat (pv 4) (pe_lst (pa_cons pe_int pa_nil))) (pa_cons (pe_slice sl_list (pv 4) po_none (po_some (pe_op op_sub (pv 6) pe_int))) (pa_cons (pe_lst pa_nil) pa_nil)))))))))))))))))))), ?_⟩
    refine ⟨_, rfl, _, rfl, sc, ns, at_, rfl, hSc, fun z0 => ⟨show 1 ≤ sizeLine by decide, fun r1 o1 => ⟨r1, 30, _, rfl, rfl, upd_same, by decide, by decide, by decide, fun r2 o2 => ?_⟩⟩⟩
    refine ⟨z0, r2, List.replicate 30 997, rfl, SqL.of upd_same, by decide, by decide, fun row aR H1 dg np s1 hR => ?_⟩
    have s01 : Same H H1 := ((same_new o1).trans (same_new o2)).trans s1
    clear s1 np o1 o2
    replace hO := s01 _ _ hO
    replace hY := s01 _ _ hY
    replace hC := s01 _ _ hC
    have dig : ∀ j, j < 30 → ∃ d : Nat, row[j]? = some (d : Int) ∧ (d : Int) < 997 := fun j lj => dig_nat dg j 997 (by rw [List.getElem?_replicate, if_pos lj])
    obtain ⟨d0, e0, b0⟩ := dig 0 (by decide)
    obtain ⟨d1, e1, b1⟩ := dig 1 (by decide)
    obtain ⟨d2, e2, b2⟩ := dig 2 (by decide)
    obtain ⟨d3, e3, b3⟩ := dig 3 (by decide)
    obtain ⟨d4, e4, b4⟩ := dig 4 (by decide)
    obtain ⟨d5, e5, b5⟩ := dig 5 (by decide)
    obtain ⟨d6, e6, b6⟩ := dig 6 (by decide)
    obtain ⟨d7, e7, b7⟩ := dig 7 (by decide)
    have lcv : (cls.map V.int).length = n := by rw [List.length_map, lc]
    have posn : (0 : Int) < ((n : Nat) : Int) := by omega
    have emod : ∀ z : Int, 0 ≤ z % (n : Int) ∧ z % (n : Int) < (n : Int) := fun z => ⟨Int.emod_nonneg _ (by omega), Int.emod_lt_of_pos z posn⟩
    have atC : ∀ z : Int, atI (cls.map V.int) (z % (n : Int)) = some (.int (clsAt cls (z % (n : Int)))) := fun z => cls_at' (emod z).1 (by rw [lc]; exact (emod z).2)
    refine ⟨_, rfl, aC, _, rfl, .inl (SqL.of hC), ?_⟩
    rw [lcv]
    refine ⟨_, rfl, _, rfl, aC, rfl, ⟨_, SqL.of hC⟩, fun D1 nD1 => lc_list (K := K) (a := aC) (xs := cls.map V.int) (fun i H' => Same H1 H' ∧ AccI H' D1 i) ⟨same_new nD1, acc_nil⟩ (fun i H' _ h => SqL.of (h.1 _ _ hC)) ?_ ?_⟩
    · rintro i v H' hi ⟨sx, ac⟩
      rw [List.getElem?_map] at hi
      obtain ⟨z, ez, rfl⟩ := Option.map_eq_some_iff.mp hi
      have li : i < cls.length := (List.getElem?_eq_some_iff.mp ez).1
      have mz := List.mem_of_getElem? ez
      have oz := okc z mz
      refine ⟨rfl, ?_⟩
      refine ⟨_, _, rfl, rfl, Sx.powG_of (i := 10) (a := 4) (k := 20) (by decide) (by decide), _, rfl, _, _, rfl, rfl, .inr ⟨by omega, by omega⟩, _, rfl, aR, _, 1, _, rfl, rfl, SqL.of (sx _ _ hR), at_map (j := 1) e1, _, _, rfl, rfl, acc_put ac sx nD1 (by omega)⟩
    rintro H2 ⟨s2, a1⟩
    have i1 := a1.ints (by rw [lcv]; omega)
    have hO2 := s2 _ _ hO
    refine ⟨_, rfl, aO, rfl, ⟨_, SqL.of hO2⟩, fun D2 nD2 => lc_list (K := K) (a := aO) (xs := os.map V.int) (fun i H' => Same H2 H' ∧ AccI H' D2 i) ⟨same_new nD2, acc_nil⟩ (fun i H' _ h => SqL.of (h.1 _ _ hO2)) ?_ ?_⟩
    · rintro i v H' hi ⟨sx, ac⟩
      rw [List.getElem?_map] at hi
      obtain ⟨z, ez, rfl⟩ := Option.map_eq_some_iff.mp hi
      have li : i < os.length := (List.getElem?_eq_some_iff.mp ez).1
      have mz := List.mem_of_getElem? ez
      refine ⟨rfl, ?_⟩
      refine ⟨_, rfl, _, _, rfl, rfl, .inl ⟨by decide, by decide⟩, _, _, rfl, rfl, acc_put ac sx nD2 (by omega)⟩
    rintro H3 ⟨s3, a2⟩
    have i2 := a2.ints (by rw [List.length_map]; omega)
    refine ⟨show 3 ≤ sizeLine by decide, fun aT nT => ?_⟩
    have tT := same_new (o := HO.lst [V.ref aC, V.ref D1, V.ref D2]) nT
    have hT : (upd H3 aT (.lst [V.ref aC, V.ref D1, V.ref D2])) aT = some (.lst ([aC, D1, D2].map V.ref)) := upd_same
    have s4 := (s2.trans s3).trans tT
    have j1 := i1.mono (s3.trans tT)
    have j2 := i2.mono tT
    dsimp only [gName]
    generalize upd H3 aT (.lst [V.ref aC, V.ref D1, V.ref D2]) = H4 at hT s4 j1 j2 ⊢
    have j0 : IntsAt H4 aC := ⟨cls, s4 _ _ hC, by omega⟩
    clear i1 i2 a1 a2 tT nT s2 s3 hO2 nD1 nD2
    -- moved
    refine ⟨_, rfl, aC, _, rfl, .inl (SqL.of (s4 _ _ hC)), fun aM nM => ?_⟩
    have tM := same_new (o := HO.lst (cls.map V.int)) nM
    have s5 := s4.trans tM
    have hC5 := s5 _ _ hC
    have hR5 := s5 _ _ hR
    refine ⟨_, rfl, _, rfl, aR, _, 3, _, rfl, rfl, SqL.of hR5, at_map (j := 3) e3, .inl ⟨_, rfl, _, rfl, _, _, rfl, rfl, posn, aC, _, _, .int (clsAt cls ((d3 : Int) % (n : Int))), rfl, rfl, SqL.of hC5, atC _, ?_⟩⟩
    refine ⟨_, rfl, _, rfl, aR, _, 2, _, rfl, rfl, SqL.of hR5, at_map (j := 2) e2, .inl ⟨_, rfl, _, rfl, _, _, rfl, rfl, posn, aM, _, _, _, rfl, rfl, upd_same, ix_nat (emod _).1 (by rw [lcv]; exact (emod _).2), ?_⟩⟩
    have s6 := same_mut (o := HO.lst ((cls.map V.int).set ((d2 : Int) % (n : Int)).toNat (V.int (clsAt cls ((d3 : Int) % (n : Int)))))) tM nM
    have hM : (upd (upd H4 aM (.lst (cls.map V.int))) aM (.lst ((cls.map V.int).set ((d2 : Int) % (n : Int)).toNat (V.int (clsAt cls ((d3 : Int) % (n : Int))))))) aM = some (.lst ((cls.set ((d2 : Int) % (n : Int)).toNat (clsAt cls ((d3 : Int) % (n : Int)))).map V.int)) := by rw [upd_same, List.map_set]
    have iM : IntsAt _ aM := ⟨_, hM, by rw [List.length_set]; omega⟩
    have k0 := j0.mono s6
    have k1 := j1.mono s6
    have k2 := j2.mono s6
    have hT6 := s6 _ _ hT
    have s16 := s4.trans s6
    generalize upd (upd H4 aM (.lst (cls.map V.int))) aM (.lst ((cls.map V.int).set ((d2 : Int) % (n : Int)).toNat (V.int (clsAt cls ((d3 : Int) % (n : Int)))))) = H6 at iM k0 k1 k2 hT6 s16 ⊢
    clear s6 hM tM nM s5 hC5 hR5 j0 j1 j2 hT s4
    -- alone
    refine ⟨_, rfl, aC, _, rfl, .inl (SqL.of (s16 _ _ hC)), fun aA nA => ?_⟩
    have tA := same_new (o := HO.lst (cls.map V.int)) nA
    have s7 := s16.trans tA
    have hR7 := s7 _ _ hR
    refine ⟨_, rfl, _, rfl, aR, _, 5, _, rfl, rfl, SqL.of hR7, at_map (j := 5) e5, _, _, rfl, rfl, _, rfl, _, rfl, aR, _, 4, _, rfl, rfl, SqL.of hR7, at_map (j := 4) e4, .inl ⟨_, rfl, _, rfl, _, _, rfl, rfl, posn, aA, _, _, _, rfl, rfl, upd_same, ix_nat (emod _).1 (by rw [lcv]; exact (emod _).2), ?_⟩⟩
    have s8 := same_mut (o := HO.lst ((cls.map V.int).set ((d4 : Int) % (n : Int)).toNat (V.int ((n : Int) + (d5 : Int))))) tA nA
    have hA : (upd (upd H6 aA (.lst (cls.map V.int))) aA (.lst ((cls.map V.int).set ((d4 : Int) % (n : Int)).toNat (V.int ((n : Int) + (d5 : Int)))))) aA = some (.lst ((cls.set ((d4 : Int) % (n : Int)).toNat ((n : Int) + (d5 : Int))).map V.int)) := by rw [upd_same, List.map_set]
    have iA : IntsAt _ aA := ⟨_, hA, by rw [List.length_set]; omega⟩
    have l0 := k0.mono s8
    have l1 := k1.mono s8
    have l2 := k2.mono s8
    have lM := iM.mono s8
    have hT8 := s8 _ _ hT6
    have s18 := s16.trans s8
    show (tSeq _ _) _ _ (upd (upd H6 aA (.lst (cls.map V.int))) aA (.lst ((cls.map V.int).set ((d4 : Int) % (n : Int)).toNat (V.int ((n : Int) + (d5 : Int))))))
    generalize upd (upd H6 aA (.lst (cls.map V.int))) aA (.lst ((cls.map V.int).set ((d4 : Int) % (n : Int)).toNat (V.int ((n : Int) + (d5 : Int))))) = H8 at iA l0 l1 l2 lM hT8 s18 ⊢
    clear s8 hA tA nA s7 hR7 k0 k1 k2 iM hT6 s16
    -- gone, stays
    have hC8 := s18 _ _ hC
    have hR8 := s18 _ _ hR
    refine ⟨_, rfl, _, rfl, aR, _, 6, _, rfl, rfl, SqL.of hR8, at_map (j := 6) e6, .inl ⟨_, rfl, _, rfl, _, _, rfl, rfl, posn, aC, _, _, .int (clsAt cls ((d6 : Int) % (n : Int))), rfl, rfl, SqL.of hC8, atC _, ?_⟩⟩
    refine ⟨_, rfl, _, rfl, aR, _, 7, _, rfl, rfl, SqL.of hR8, at_map (j := 7) e7, .inl ⟨_, rfl, _, rfl, _, _, rfl, rfl, posn, aC, _, _, .int (clsAt cls ((d7 : Int) % (n : Int))), rfl, rfl, SqL.of hC8, atC _, ?_⟩⟩
    generalize clsAt cls ((d6 : Int) % (n : Int)) = gone
    generalize clsAt cls ((d7 : Int) % (n : Int)) = stays
    refine ⟨_, rfl, _, rfl, _, rfl, _, rfl, aC, rfl, ⟨_, SqL.of hC8⟩, fun D3 nD3 => lc_list (K := K) (a := aC) (xs := cls.map V.int) (fun i H' => Same H8 H' ∧ AccI H' D3 i) ⟨same_new nD3, acc_nil⟩ (fun i H' _ h => SqL.of (h.1 _ _ hC8)) ?_ ?_⟩
    · rintro i v H' hi ⟨sx, ac⟩
      rw [List.getElem?_map] at hi
      obtain ⟨z, ez, rfl⟩ := Option.map_eq_some_iff.mp hi
      have li : i < cls.length := (List.getElem?_eq_some_iff.mp ez).1
      have mz := List.mem_of_getElem? ez
      refine ⟨rfl, ?_⟩
      refine ⟨_, rfl, _, rfl, show 2 ≤ sizeLine by decide, fun u nu => ?_⟩
      have tu := same_new (o := HO.lst [V.int z, V.int stays]) nu
      obtain ⟨v, ev⟩ : ∃ v : Int, atI [V.int z, V.int stays] (if decide (V.int z = V.int gone) = true then 1 else 0) = some (.int v) := by
        split
        · exact ⟨stays, rfl⟩
        · exact ⟨z, rfl⟩
      refine ⟨_, rfl, _, rfl, rfl, .inr ⟨_, rfl, u, _, _, .int v, rfl, rfl, SqL.of upd_same, ev, acc_put (ac.mono tu) (sx.trans tu) nD3 (by omega)⟩⟩
    rintro H9 ⟨s9, a3⟩
    have i3 := a3.ints (by rw [lcv]; omega)
    refine ⟨show 3 ≤ sizeLine by decide, fun u1 nu1 => ?_⟩
    have t1 := same_new (o := HO.lst [V.ref aM, V.ref aA, V.ref D3]) nu1
    have s91 := s9.trans t1
    refine ⟨aT, u1, _, _, rfl, rfl, s91 _ _ hT8, upd_same, show 3 + 3 ≤ sizeLine by decide, fun aT2 nT2 => ?_⟩
    have t2 := same_new (o := HO.lst ([V.ref aC, V.ref D1, V.ref D2] ++ [V.ref aM, V.ref aA, V.ref D3])) nT2
    have s92 := s91.trans t2
    have all : ∀ a ∈ [aC, D1, D2, aM, aA, D3], IntsAt (upd (upd H9 u1 (.lst [V.ref aM, V.ref aA, V.ref D3])) aT2 (.lst ([V.ref aC, V.ref D1, V.ref D2] ++ [V.ref aM, V.ref aA, V.ref D3]))) a := fun a m => by
      simp only [List.mem_cons, List.not_mem_nil, or_false] at m
      rcases m with rfl | rfl | rfl | rfl | rfl | rfl
      · exact l0.mono s92
      · exact l1.mono s92
      · exact l2.mono s92
      · exact lM.mono s92
      · exact iA.mono s92
      · exact i3.mono (t1.trans t2)
    have hT2 : (upd (upd H9 u1 (.lst [V.ref aM, V.ref aA, V.ref D3])) aT2 (.lst ([V.ref aC, V.ref D1, V.ref D2] ++ [V.ref aM, V.ref aA, V.ref D3]))) aT2 = some (.lst ([aC, D1, D2, aM, aA, D3].map V.ref)) := upd_same
    have s10 := s18.trans s92
    show (tSeq _ _) _ _ (upd (upd H9 u1 (.lst [V.ref aM, V.ref aA, V.ref D3])) aT2 (.lst ([V.ref aC, V.ref D1, V.ref D2] ++ [V.ref aM, V.ref aA, V.ref D3])))
    generalize upd (upd H9 u1 (.lst [V.ref aM, V.ref aA, V.ref D3])) aT2 (.lst ([V.ref aC, V.ref D1, V.ref D2] ++ [V.ref aM, V.ref aA, V.ref D3])) = H10 at all hT2 s10 ⊢
    clear t1 t2 s91 s92 nu1 nT2 i3 a3 s9 nD3 l0 l1 l2 lM iA hT8 s18 hC8 hR8
    refine ⟨_, rfl, _, rfl, (n : Int), rfl, by omega, by omega, fun D4 nD4 => lc_range (lo := 0) (n := ((n : Nat) : Int).toNat) (fun i H' => Same H10 H' ∧ AccI H' D4 i) ⟨same_new nD4, acc_nil⟩ ?_ ?_⟩
    · rintro i H' hi ⟨sx, ac⟩
      have li : i < n := by omega
      refine ⟨rfl, ?_⟩
      exact ⟨_, rfl, acc_put ac sx nD4 (by omega)⟩
    rintro H11 ⟨s11, a4⟩
    refine ⟨_, rfl, (n : Int), rfl, by omega, by omega, fun D5 nD5 => lc_range (lo := 0) (n := ((n : Nat) : Int).toNat) (fun i H' => Same H11 H' ∧ AccI H' D5 i) ⟨same_new nD5, acc_nil⟩ ?_ ?_⟩
    · rintro i H' hi ⟨sx, ac⟩
      have li : i < n := by omega
      refine ⟨rfl, ?_⟩
      exact ⟨_, rfl, aR, _, 0, _, rfl, rfl, SqL.of (sx _ _ (s11 _ _ (s10 _ _ hR))), at_map (j := 0) e0, _, _, rfl, rfl, acc_put ac sx nD5 (by omega)⟩
    rintro H12 ⟨s12, a5⟩
    refine ⟨_, rfl, (n : Int), rfl, by omega, by omega, fun D6 nD6 => lc_range (lo := 0) (n := ((n : Nat) : Int).toNat) (fun i H' => Same H12 H' ∧ AccI H' D6 i) ⟨same_new nD6, acc_nil⟩ ?_ ?_⟩
    · rintro i H' hi ⟨sx, ac⟩
      have li : i < n := by omega
      refine ⟨rfl, ?_⟩
      exact ⟨_, rfl, _, rfl, aY, _, rfl, .inl (SqL.of (sx _ _ (s12 _ _ (s11 _ _ (s10 _ _ hY))))), rfl, flat_ints ys, .inr ⟨_, rfl, acc_put ac sx nD6 (by omega)⟩⟩
    rintro H13 ⟨s13, a6⟩
    have i4 := a4.ints (by omega)
    have i5 := a5.ints (by omega)
    have i6 := a6.ints (by omega)
    refine ⟨show 3 ≤ sizeLine by decide, fun u1 nu1 => ?_⟩
    have t1 := same_new (o := HO.lst [V.ref D4, V.ref D5, V.ref D6]) nu1
    have s10b := ((s11.trans s12).trans s13).trans t1
    refine ⟨aT2, u1, _, _, rfl, rfl, s10b _ _ hT2, upd_same, show 6 + 3 ≤ sizeLine by decide, fun aT3 nT3 => ?_⟩
    have t2 := same_new (o := HO.lst ([aC, D1, D2, aM, aA, D3].map V.ref ++ [V.ref D4, V.ref D5, V.ref D6])) nT3
    have all3 : ∀ a ∈ [aC, D1, D2, aM, aA, D3] ++ [D4, D5, D6], IntsAt (upd (upd H13 u1 (.lst [V.ref D4, V.ref D5, V.ref D6])) aT3 (.lst ([aC, D1, D2, aM, aA, D3].map V.ref ++ [V.ref D4, V.ref D5, V.ref D6]))) a := fun a m => by
      rcases List.mem_append.mp m with m | m
      · exact (all a m).mono (s10b.trans t2)
      · simp only [List.mem_cons, List.not_mem_nil, or_false] at m
        rcases m with rfl | rfl | rfl
        · exact i4.mono (((s12.trans s13).trans t1).trans t2)
        · exact i5.mono ((s13.trans t1).trans t2)
        · exact i6.mono (t1.trans t2)
    have hT3 : (upd (upd H13 u1 (.lst [V.ref D4, V.ref D5, V.ref D6])) aT3 (.lst ([aC, D1, D2, aM, aA, D3].map V.ref ++ [V.ref D4, V.ref D5, V.ref D6]))) aT3 = some (.lst (([aC, D1, D2, aM, aA, D3] ++ [D4, D5, D6]).map V.ref)) := upd_same
    have s14 := (s10.trans s10b).trans t2
    have nT3' : H1 aT3 = none := (s10.trans s10b).free nT3
    show (tSeq _ _) _ _ (upd (upd H13 u1 (.lst [V.ref D4, V.ref D5, V.ref D6])) aT3 (.lst ([aC, D1, D2, aM, aA, D3].map V.ref ++ [V.ref D4, V.ref D5, V.ref D6])))
    generalize upd (upd H13 u1 (.lst [V.ref D4, V.ref D5, V.ref D6])) aT3 (.lst ([aC, D1, D2, aM, aA, D3].map V.ref ++ [V.ref D4, V.ref D5, V.ref D6])) = H14 at all3 hT3 s14 ⊢
    clear t1 t2 nu1 nT3 i4 i5 i6 a4 a5 a6 s10b s11 s12 s13 nD4 nD5 nD6 all hT2 s10
    generalize hL9 : [aC, D1, D2, aM, aA, D3] ++ [D4, D5, D6] = L9 at all3 hT3
    have len9 : L9.length = 9 := by rw [← hL9] <;> rfl
    have head9 : ∃ r rest, L9 = r :: rest := by rw [← hL9]; exact ⟨_, _, rfl⟩
    refine ⟨_, rfl, .inl ⟨rfl, _, SqL.of hT3⟩, _, rfl, (n : Int), rfl, by omega, by omega, fun D7 nD7 => lc_range (lo := 0) (n := ((n : Nat) : Int).toNat) (fun i H' => Same H14 H' ∧ AccI H' D7 i) ⟨same_new nD7, acc_nil⟩ ?_ ?_⟩
    · rintro i H' hi ⟨sx, ac⟩
      have li : i < n := by omega
      obtain ⟨d, ed, _⟩ := dig_nat dg (8 + i % 20) 997 (by rw [List.getElem?_replicate, if_pos (by omega)])
      have atd : atI (row.map V.int) (8 + (0 + (i : Int)) % 20) = some (.int (d : Int)) := by
        rw [show (8 : Int) + (0 + (i : Int)) % 20 = ((8 + i % 20 : Nat) : Int) by omega]
        exact at_map ed
      refine ⟨rfl, ?_⟩
      exact ⟨_, rfl, _, rfl, _, _, rfl, rfl, show (0 : Int) < 20 by decide, _, _, rfl, rfl, aR, _, _, .int (d : Int), rfl, rfl, SqL.of (sx _ _ (s14 _ _ hR)), atd, .inl ⟨_, rfl, _, _, rfl, rfl, show (0 : Int) < 2 by decide, acc_put ac sx nD7 (by omega)⟩⟩
    rintro H15 ⟨s15, a7⟩
    have i7 := a7.ints (by omega)
    have hT15 := s15 _ _ hT3
    refine ⟨aT3, _, _, rfl, rfl, hT15, ?_, ?_⟩
    · rw [List.length_map, len9]
      decide
    obtain ⟨r9, rest9, e9⟩ := head9
    have hd15 : H15 aT3 = some (.lst (V.ref r9 :: rest9.map V.ref)) := by rw [hT15, e9] <;> rfl
    have all4 : ∀ a ∈ L9 ++ [D7], IntsAt (upd H15 aT3 (.lst (L9.map V.ref ++ [V.ref D7]))) a := fun a m => by
      rcases List.mem_append.mp m with m | m
      · exact ((all3 a m).mono s15).keep hd15
      · rw [List.mem_singleton.mp m]
        exact i7.keep hd15
    have hT4 : (upd H15 aT3 (.lst (L9.map V.ref ++ [V.ref D7]))) aT3 = some (.lst ((L9 ++ [D7]).map V.ref)) := by rw [upd_same, List.map_append] <;> rfl
    have s16 : Same H1 (upd H15 aT3 (.lst (L9.map V.ref ++ [V.ref D7]))) := same_mut (s14.trans s15) nT3'
    generalize upd H15 aT3 (.lst (L9.map V.ref ++ [V.ref D7])) = H16 at all4 hT4 s16 ⊢
    clear i7 a7 hT15 hd15 s15 nD7 all3 hT3 s14
    have hO16 := s16 _ _ hO
    refine ⟨_, rfl, .inl ⟨rfl, _, SqL.of hT4⟩, _, rfl, (n : Int), rfl, by omega, by omega, fun D8 nD8 => lc_range (lo := 0) (n := ((n : Nat) : Int).toNat) (fun i H' => Same H16 H' ∧ AccI H' D8 i) ⟨same_new nD8, acc_nil⟩ ?_ ?_⟩
    · rintro i H' hi ⟨sx, ac⟩
      have li : i < n := by omega
      obtain ⟨d, ed, _⟩ := dig_nat dg (8 + i % 20) 997 (by rw [List.getElem?_replicate, if_pos (by omega)])
      have atd : atI (row.map V.int) (8 + (0 + (i : Int)) % 20) = some (.int (d : Int)) := by
        rw [show (8 : Int) + (0 + (i : Int)) % 20 = ((8 + i % 20 : Nat) : Int) by omega]
        exact at_map ed
      obtain ⟨o, eo⟩ : ∃ o, os[i]? = some o := ⟨_, List.getElem?_eq_getElem (by omega)⟩
      have ato : atI (os.map V.int) (0 + (i : Int)) = some (.int o) := by
        rw [show (0 : Int) + (i : Int) = ((i : Nat) : Int) by omega]
        exact atI_nat (by rw [List.getElem?_map, eo] <;> rfl)
      refine ⟨rfl, ?_⟩
      exact ⟨_, rfl, _, rfl, aO, _, _, .int o, rfl, rfl, SqL.of (sx _ _ hO16), ato, _, _, rfl, rfl, .inr ⟨by decide, by decide⟩, _, rfl, _, rfl, _, _, rfl, rfl, show (0 : Int) < 20 by decide, _, _, rfl, rfl, aR, _, _, .int (d : Int), rfl, rfl, SqL.of (sx _ _ (s16 _ _ hR)), atd, .inl ⟨_, rfl, _, _, rfl, rfl, show (0 : Int) < 2 by decide, _, _, rfl, rfl, acc_put ac sx nD8 (by omega)⟩⟩
    rintro H17 ⟨s17, a8⟩
    have i8 := a8.ints (by omega)
    have hT17 := s17 _ _ hT4
    refine ⟨aT3, _, _, rfl, rfl, hT17, ?_, ?_⟩
    · rw [List.length_map, List.length_append, len9]
      show 9 + 1 < sizeLine
      decide
    have hd17 : H17 aT3 = some (.lst (V.ref r9 :: (rest9 ++ [D7]).map V.ref)) := by rw [hT17, e9] <;> rfl
    have all5 : ∀ a ∈ L9 ++ [D7] ++ [D8], IntsAt (upd H17 aT3 (.lst ((L9 ++ [D7]).map V.ref ++ [V.ref D8]))) a := fun a m => by
      rcases List.mem_append.mp m with m | m
      · exact ((all4 a m).mono s17).keep hd17
      · rw [List.mem_singleton.mp m]
        exact i8.keep hd17
    have hT5 : (upd H17 aT3 (.lst ((L9 ++ [D7]).map V.ref ++ [V.ref D8]))) aT3 = some (.lst ((L9 ++ [D7] ++ [D8]).map V.ref)) := by rw [upd_same, List.map_append (l₁ := L9 ++ [D7])] <;> rfl
    have s18 : Same H1 (upd H17 aT3 (.lst ((L9 ++ [D7]).map V.ref ++ [V.ref D8]))) := same_mut (s16.trans s17) nT3'
    generalize upd H17 aT3 (.lst ((L9 ++ [D7]).map V.ref ++ [V.ref D8])) = H18 at all5 hT5 s18 ⊢
    clear i8 a8 hT17 hd17 s17 nD8 all4 hT4 s16 hO16
    have len11 : (L9 ++ [D7] ++ [D8]).length = 11 := by rw [List.length_append, List.length_append, len9] <;> rfl
    have ne11 : L9 ++ [D7] ++ [D8] ≠ [] := fun z => by rw [z] at len11; cases len11
    generalize L9 ++ [D7] ++ [D8] = L11 at all5 hT5 len11 ne11
    -- the last three
    have hC18 := s18 _ _ hC
    refine ⟨_, rfl, _, rfl, show 1 ≤ sizeLine by decide, fun u1 nu1 => ?_⟩
    have t1 := same_new (o := HO.lst [V.int 0]) nu1
    refine ⟨aC, u1, _, _, rfl, rfl, t1 _ _ hC18, upd_same, ?_, fun u2 nu2 => ?_⟩
    · rw [lcv]
      exact Nat.le_trans (show n + 1 ≤ 100 by omega) (by decide)
    have t2 := same_new (o := HO.lst (cls.map V.int ++ [V.int 0])) nu2
    have j2 : IntsAt (upd (upd H18 u1 (.lst [V.int 0])) u2 (.lst (cls.map V.int ++ [V.int 0]))) u2 := ⟨cls ++ [0], by rw [upd_same, List.map_append] <;> rfl, by rw [List.length_append]; show cls.length + 1 ≤ 50; omega⟩
    have t12 := t1.trans t2
    refine ⟨_, rfl, _, rfl, _, _, rfl, rfl, _, rfl, aC, _, rfl, SqL.of (t12 _ _ hC18), fun u3 nu3 => ?_⟩
    have cutE : cutV (cls.map V.int) none (some ((n : Int) - 1)) = (cls.take (n - 1)).map V.int := by
      rw [show (n : Int) - 1 = ((n - 1 : Nat) : Int) by omega, cut_take, List.map_take]
    have t3 := same_new (o := HO.lst (cutV (cls.map V.int) none (some ((n : Int) - 1)))) nu3
    have j3 : IntsAt (upd (upd (upd H18 u1 (.lst [V.int 0])) u2 (.lst (cls.map V.int ++ [V.int 0]))) u3 (.lst (cutV (cls.map V.int) none (some ((n : Int) - 1))))) u3 := ⟨cls.take (n - 1), by rw [upd_same, cutE], by rw [List.length_take]; omega⟩
    refine ⟨Nat.zero_le _, fun u4 nu4 => ?_⟩
    have t4 := same_new (o := HO.lst []) nu4
    have j4 : IntsAt (upd (upd (upd (upd H18 u1 (.lst [V.int 0])) u2 (.lst (cls.map V.int ++ [V.int 0]))) u3 (.lst (cutV (cls.map V.int) none (some ((n : Int) - 1))))) u4 (.lst [])) u4 := ⟨[], upd_same, by decide⟩
    refine ⟨show 3 ≤ sizeLine by decide, fun u5 nu5 => ?_⟩
    have t5 := same_new (o := HO.lst [V.ref u2, V.ref u3, V.ref u4]) nu5
    have t15 := ((t12.trans t3).trans t4).trans t5
    refine ⟨aT3, u5, _, _, rfl, rfl, t15 _ _ hT5, upd_same, ?_, fun q nq => ?_⟩
    · rw [List.length_map, len11]
      show 11 + 3 ≤ sizeLine
      decide
    have t6 := same_new (o := HO.lst (L11.map V.ref ++ [V.ref u2, V.ref u3, V.ref u4])) nq
    refine k q (L11 ++ [u2, u3, u4]) _ (((s01.trans s18).trans t15).trans t6) (by rw [upd_same, List.map_append] <;> rfl) (fun z => ne11 (List.append_eq_nil_iff.mp z).1) (by rw [List.length_append, len11]; show 11 + 3 ≤ 100; decide) fun a m => ?_
    rcases List.mem_append.mp m with m | m
    · exact (all5 a m).mono (t15.trans t6)
    · simp only [List.mem_cons, List.not_mem_nil, or_false] at m
      rcases m with rfl | rfl | rfl
      · exact j2.mono (((t3.trans t4).trans t5).trans t6)
      · exact j3.mono ((t4.trans t5).trans t6)
      · exact j4.mono (t5.trans t6)
end
end Mk

set_option Elab.async false
set_option linter.unusedVariables false
set_option maxRecDepth 100000
set_option maxHeartbeats 16000000
namespace Mk
open PySem L2 Pk
theorem MachD.mdl {H H' : Hp} {p : Addr} (h : MachD H p H') : ∃ (aR aY : Addr) (l : PySem.Str) (n : Int) (B : Kept) (ys : List Int), Mdl H' p aR aY l n B ys ∧ n ≤ 5 ∧ B.length ≤ 67 ∧ ys.length ≤ 5 := by
  obtain ⟨_, l, n, aR, aY, B, ys, a1, a2, a3, a4, a5, a6, a7, a8, a9, a10, a11, a12⟩ := h
  exact ⟨aR, aY, l, n, B, ys, ⟨a1, a2, a3, a4, a6, a7, a8, a10, a11⟩, a5, a9, a12⟩
theorem Built.mono {H H' : Hp} {q aO pM aR aY : Addr} {l : PySem.Str} {n : Nat} {os : List Int} {B : Kept} {ys : List Int} (h : Built H q aO pM aR aY l n os B ys) (s : Same H H') : Built H' q aO pM aR aY l n os B ys :=
  ⟨s _ _ h.at_, s _ _ h.own, h.len, h.low, h.mdl.mono s, h.most, h.few, h.fewY⟩
abbrev nLaw : List PySem.Str := ["script", "head", "drawn", "built", "model", "machine", "coarse", "tries", "k", "row", "due", "handed"]
theorem scLaw : FnScope nLaw ["script"] (defScope sLaw) := ⟨rfl, rfl, rfl, by decide +kernel, rfl, by decide +kernel, by decide +kernel⟩
section
variable {P : Program} {w : World} {K : PySem.W.Frag} {mg : PySem.Str → Option Value} {base : Heap}
structure LawDefs (P : Program) (w : World) (K : PySem.W.Frag) (mg : PySem.Str → Option Value) (base : Heap) (C : Addr) : Prop where
  cell : Got P w K mg base "_law_cell" 1 ["script", "k"] (spCellA K)
  digits : Got P w K mg base "_law_digits" 1 ["cell", "sizes"] (spDigits K)
  machine : Got P w K mg base "_law_machine" 2 ["script", "at"] (spMach K)
  small : Got P w K mg base "_law_small" 1 ["digit", "machine"] spSmall
  more : Got P w K mg base "_law_more" 2 ["script", "at", "machine"] (spMore K)
  copies : Got P w K mg base "_law_copies" 2 ["script", "at", "machine"] (spCopies K)
  ring : Got P w K mg base "_law_ring" 2 ["script", "at", "letters"] (spRing K)
  hand : Got P w K mg base "_law_hand" 8 ["machine", "shape"] (spHand K C)
  coarse : Got P w K mg base "_law_coarsest" 3 ["machine"] spCoarse
  tries : Got P w K mg base "_law_tries" 2 ["script", "at", "owners", "yes", "coarse"] (spTries K)
  judge : Got P w K mg base "_law_judge" 3 ["machine", "classes"] spJudge
  like : Got P w K mg base "is_likeness" 2 ["machine", "classes"] (spLike K C)
  same : Got P w K mg base "_law_same" 5 ["told", "due"] (spSame K 3)
  is_ : Got P w K mg base "_law_is" 6 ["made", "letters", "states", "rules", "yes"] (spIs K C)
def spLaw (K : PySem.W.Frag) : Sp := fun vs H Q _ => ∃ (a : Addr) (ns : List Int), vs = [.ref a] ∧ SqL K H a (ns.map V.int) ∧ ∀ H', Q (.bl true) H'
theorem ok_law {f : Addr} {fd : FuncData} {C : Addr} (F : Fun K "law" "law" sLaw f fd) (T : TM mg) (G : LawDefs P w K mg base C) : FnOk P w K mg base CX0 9 f fd ["script"] (spLaw K) := by
  refine F.ok scLaw (fun vs H Q E h => ?_) (fun cdv A outer s H vs Q E hr h => ?_)
  · obtain ⟨a, ns, rfl, _⟩ := h
    rfl
  · obtain ⟨sc, ns, rfl, hS, k⟩ := h
    have nd := scLaw.nd
    have hu64 := hr.units
    have h1 := hr.mono (show 1 ≤ 8 by decide)
    have h2 := hr.mono (show 2 ≤ 8 by decide)
    have h3 := hr.mono (show 3 ≤ 8 by decide)
    have h5 := hr.mono (show 5 ≤ 8 by decide)
    have h6 := hr.mono (show 6 ≤ 8 by decide)
    refine ⟨_, (pss_cons (ps_set (i := 1) nd rfl (Or.inl rfl) (pe_got G.digits h1 (by rfl) (pa_cons (pe_got G.cell h1 (by rfl) (pa_cons (pv 0) (pa_cons pe_int pa_nil))) (pa_cons (pe_lst (pa_cons pe_int (pa_cons pe_int (pa_cons pe_int (pa_cons pe_int pa_nil))))) pa_nil))))
      (pss_cons (ps_set (i := 2) nd rfl (Or.inl rfl) (pe_got G.more h2 (by rfl) (pa_cons (pv 0) (pa_cons pe_int (pa_cons (pe_got G.small h1 (by rfl) (pa_cons (pe_ix ix_list (pv 1) pe_int fun _ _ => rfl) (pa_cons (pe_got G.machine h2 (by rfl) (pa_cons (pv 0) (pa_cons pe_int pa_nil))) pa_nil))) pa_nil)))))
      (pss_cons (ps_set (i := 3) nd rfl (Or.inl rfl) (pe_got G.copies h2 (by rfl) (pa_cons (pv 0) (pa_cons pe_int (pa_cons (pv 2) pa_nil)))))
      (C8.pss_cut (ps_if (pt_cmpR op_eq (pe_ix ix_list (pv 1) pe_int fun _ _ => rfl) pe_int (nomark _))
        (pss_one (ps_set (i := 3) nd rfl (Or.inl rfl) (pe_got G.ring h2 (by rfl) (pa_cons (pv 0) (pa_cons pe_int (pa_cons (pe_ix ix_list (pv 2) pe_int fun _ _ => rfl) pa_nil))))))
        pss_nil)
      (pss_cons (ps_set (i := 4) nd rfl (Or.inl rfl) (pe_ix ix_list (pv 3) pe_int fun _ _ => rfl))
      (pss_cons (ps_set (i := 5) nd rfl (Or.inl rfl) (pe_got G.hand hr (by rfl) (pa_cons (pv 4) (pa_cons (pe_ix ix_list (pv 1) pe_int fun _ _ => rfl) pa_nil))))
      (pss_cons (ps_set (i := 6) nd rfl (Or.inl rfl) (pe_got G.coarse h3 (by rfl) (pa_cons (pv 4) pa_nil)))
      (pss_cons (ps_set (i := 7) nd rfl (Or.inl rfl) (pe_got G.tries h2 (by rfl) (pa_cons (pv 0) (pa_cons pe_int (pa_cons (pe_ix ix_list (pv 3) pe_int fun _ _ => rfl) (pa_cons (pe_ix ix_list (pv 4) pe_int fun _ _ => rfl) (pa_cons (pv 6) pa_nil)))))))
      (pss_cons (ps_for PassesOwn.never rfl (pi_range1 (by rfl) T.range (pa_cons (pe_op op_add (pe_callB call_len_seq (by rfl) T.len PySem.boot_len (pa_cons (pv 7) pa_nil)) pe_int) pa_nil)) (pg_name (i := 8) nd rfl (Or.inl rfl))
        (pss_cons (ps_set (i := 9) nd rfl (Or.inl rfl) (pe_ix ix_list (pv 7) (pe_op op_mod (pe_callTy call_int1 (by rfl) T.int PyProof.Rows.Boot.int (pa_cons (pv 8) pa_nil)) (pe_callB call_len_seq (by rfl) T.len PySem.boot_len (pa_cons (pv 7) pa_nil))) fun _ _ => rfl))
        (pss_cons (ps_set (i := 10) nd rfl (Or.inl rfl) (pe_got G.judge h3 (by rfl) (pa_cons (pv 4) (pa_cons (pv 9) pa_nil))))
        (pss_one (ps_if (pt_cmpR op_eq (pe_op op_mod (pe_callTy call_int1 (by rfl) T.int PyProof.Rows.Boot.int (pa_cons (pe_op op_add (pv 8) (pe_ix ix_list (pv 1) pe_int fun _ _ => rfl)) pa_nil)) pe_int) pe_int (nomark _))
          (pss_cons (ps_set (i := 11) nd rfl (Or.inl rfl) (pe_callTy call_list_of (by rfl) T.list PyProof.Rows.Boot.list (pa_cons (pv 9) pa_nil)))
          (pss_one (ps_if (PW.pt (pw_or (pt_not (pt_val (pe_got G.same h5 (by rfl) (pa_cons (pe_got G.like h2 (by rfl) (pa_cons (pv 5) (pa_cons (pv 11) pa_nil))) (pa_cons (pv 10) pa_nil))))) (pw_or1 (pt_cmpR (op_neD hu64) (pv 11) (pv 9) (nomark _)))))
            (pss_one (ps_ret pe_bl))
            pss_nil)))
          (pss_one (ps_if (pt_not (pt_val (pe_got G.same h5 (by rfl) (pa_cons (pe_got G.like h2 (by rfl) (pa_cons (pv 5) (pa_cons (pe_callTy call_tuple_of (by rfl) T.tuple PyProof.Rows.Boot.tuple (pa_cons (pv 9) pa_nil)) pa_nil))) (pa_cons (pv 10) pa_nil)))))
            (pss_one (ps_ret pe_bl))
            pss_nil)))))))
      (pss_one (ps_ret (pe_got G.is_ h6 (by rfl) (pa_cons (pv 5) (pa_cons (pe_ix ix_list (pv 4) pe_int fun _ _ => rfl) (pa_cons (pe_ix ix_list (pv 4) pe_int fun _ _ => rfl) (pa_cons (pe_ix ix_list (pv 4) pe_int fun _ _ => rfl) (pa_cons (pe_ix ix_list (pv 4) pe_int fun _ _ => rfl) pa_nil))))))))))))))))), ?_⟩
    refine ⟨_, rfl, sc, ns, 0, rfl, hS, fun z0 => ⟨show 4 ≤ sizeLine by decide, fun q1 m1 => ?_⟩⟩
    refine ⟨z0, q1, [3, 11, 6, 2], rfl, SqL.of upd_same, by decide, by decide, fun head aH H1 dg np s1 hH => ?_⟩
    have sA : Same H H1 := (same_new m1).trans s1
    clear s1 np m1
    obtain ⟨d0, e0, b0⟩ := dig_nat dg 0 3 rfl
    obtain ⟨d1, e1, b1⟩ := dig_nat dg 1 11 rfl
    obtain ⟨d2, e2, b2⟩ := dig_nat dg 2 6 rfl
    obtain ⟨d3, e3, b3⟩ := dig_nat dg 3 2 rfl
    -- drawn
    refine ⟨_, rfl, _, rfl, aH, _, 1, _, rfl, rfl, SqL.of hH, at_map (j := 1) e1, _, rfl, sc, ns, 1, rfl, sA.seq hS, fun p0 H2 hD => ?_⟩
    have s12 := hD.1
    obtain ⟨aR0, aY0, l, n0, B0, ys0, M0, n5, f0, y0⟩ := hD.mdl
    refine ⟨d1, p0, aR0, aY0, l, n0, B0, ys0, rfl, M0, n5, f0, y0, fun p1 aR1 aY1 nn1 B1 ys1 H3 s23 M1 n5' f1 y1 => ?_⟩
    have s3 := (sA.trans s12).trans s23
    refine ⟨sc, ns, 6, p1, aR1, aY1, l, nn1, B1, ys1, rfl, s3.seq hS, M1, n5', f1, y1, fun p2 aR2 aY2 B2 H4 s34 M2 f2 => ?_⟩
    have s4 := s3.trans s34
    have hH4 := ((s12.trans s23).trans s34) _ _ hH
    clear M0 M1 hD s12 s23 s34 s3
    -- built
    refine ⟨_, rfl, _, rfl, sc, ns, 7, p2, aR2, aY2, l, nn1, B2, ys1, rfl, s4.seq hS, M2, n5', f2, fun q aO pM aR aY n os B ys H5 s45 bt => ?_⟩
    have s5 := s4.trans s45
    have hH5 := s45 _ _ hH4
    have M5 := M2.mono s45
    refine ⟨fun σ' H' => ∃ (q aO pM aR aY : Addr) (l : PySem.Str) (n : Nat) (os : List Int) (B : Kept) (ys : List Int), σ' = [some (.ref sc), some (.ref aH), some (.ref p2), some (.ref q), none, none, none, none, none, none, none, none] ∧ Same H5 H' ∧ Built H' q aO pM aR aY l n os B ys, ?_, ?_⟩
    · refine ⟨_, rfl, aH, _, 2, _, rfl, rfl, SqL.of hH5, at_map (j := 2) e2, rfl, _, rfl, ite2 (fun _ => ?_) (fun _ => ⟨q, aO, pM, aR, aY, l, n, os, B, ys, rfl, Same.refl _, bt⟩)⟩
      refine ⟨_, rfl, _, rfl, p2, _, 0, .str l, rfl, rfl, SqL.of M5.at_, rfl, sc, ns, 9, l, rfl, s5.seq hS, M5.al, M5.l3, fun q aO pM aR aY n os B ys H6 s56 bt => ⟨q, aO, pM, aR, aY, l, n, os, B, ys, rfl, s56, bt⟩⟩
    clear bt
    rintro _ H6 ⟨q, aO, pM, aR, aY, l, n, os, B, ys, rfl, s56, bt⟩
    have s6 := s5.trans s56
    have hH6 := s56 _ _ hH5
    clear M5 M2 hH4 hH5 s45 s4 s5 s56 hH sA
    have n1 := bt.mdl.n1
    have n41 := bt.most
    have few := bt.few
    have fewY := bt.fewY
    refine ⟨_, rfl, q, _, 1, .ref pM, rfl, rfl, SqL.of bt.at_, rfl, ?_⟩
    -- the machine
    refine ⟨_, rfl, _, rfl, aH, _, 0, _, rfl, rfl, SqL.of hH6, at_map (j := 0) e0, pM, aR, aY, d0, l, (n : Int), B, ys, rfl, bt.mdl, by omega, few, fewY, fun x H7 s67 hm => ?_⟩
    have bt7 := bt.mono s67
    -- coarse
    refine ⟨_, rfl, pM, aR, aY, l, n, B, ys, rfl, bt7.mdl, n41, few, fun aC cls H8 s78 hC lc okc => ?_⟩
    have bt8 := bt7.mono s78
    have s68 := s67.trans s78
    -- tries
    refine ⟨_, rfl, _, rfl, q, _, 0, .ref aO, rfl, rfl, SqL.of bt8.at_, rfl, _, rfl, pM, _, 3, .ref aY, rfl, rfl, SqL.of bt8.mdl.at_, rfl, _, rfl, sc, ns, 10, aO, aY, aC, n, os, ys, cls, rfl, (s6.trans s68).seq hS, bt8.own, bt8.len, bt8.low, bt8.mdl.yl, hC, lc, okc, by omega, n41, fun aT as H9 s89 hT ne few100 all => ?_⟩
    have s69 := s68.trans s89
    have hH9 := s69 _ _ hH6
    have bt9 := bt8.mono s89
    have hm9 := hm.lk (Lk.of (s78.trans s89))
    clear hC s68 s69 bt8 bt7 bt hm s67 s78 s89 hH6
    have laT : (as.map V.ref).length = as.length := List.length_map ..
    have posA : 0 < as.length := List.length_pos_iff.mpr ne
    have M9 := bt9.mdl
    have okB : ∀ r ∈ B.map (·.2), RlOk l (n : Int) r := fun r m => by
      obtain ⟨z, mz, rfl⟩ := List.mem_map.mp m
      exact M9.ok z mz
    have lenB : (B.map (·.2)).length ≤ 1900 := by rw [List.length_map]; exact few
    refine ⟨_, rfl, aT, _, rfl, .inl (SqL.of hT), _, _, rfl, rfl, _, rfl, by omega, by omega, for_range (lo := 0) (n := ((((as.map V.ref).length : Nat) : Int) + 2).toNat) (fun i σ H' => Same H9 H' ∧ ∃ v8 v9 v10 v11 : Option V, σ = [some (.ref sc), some (.ref aH), some (.ref p2), some (.ref q), some (.ref pM), some (.ref x), some (.ref aC), some (.ref aT), v8, v9, v10, v11]) ⟨Same.refl _, _, _, _, _, rfl⟩ ?_ ?_⟩
    rotate_left
    · rintro σ H' ⟨s', v8, v9, v10, v11, rfl⟩
      have M' := M9.mono s'
      exact ⟨_, rfl, _, rfl, pM, _, 0, .str l, rfl, rfl, SqL.of M'.at_, rfl, _, rfl, pM, _, 1, .int (n : Int), rfl, rfl, SqL.of M'.at_, rfl, _, rfl, pM, _, 2, .ref aR, rfl, rfl, SqL.of M'.at_, rfl, _, rfl, pM, _, 3, .ref aY, rfl, rfl, SqL.of M'.at_, rfl, x, pM, aR, aY, l, (n : Int), B, ys, rfl, hm9.lk (Lk.of s'), M', few, fewY, fun H'' _ => k H''⟩
    rintro i σ H10 hi ⟨s10, v8, v9, v10, v11, rfl⟩
    have ei : (0 : Int) + (i : Int) = (i : Int) := by omega
    have em : ((0 : Int) + (i : Int)) % (((as.map V.ref).length : Nat) : Int) = ((i % as.length : Nat) : Int) := by rw [ei, laT, Int.natCast_emod]
    obtain ⟨a, ea⟩ : ∃ a, as[i % as.length]? = some a := ⟨_, List.getElem?_eq_getElem (Nat.mod_lt _ posA)⟩
    obtain ⟨cs, hcs, lcs⟩ := (all a (List.mem_of_getElem? ea)).mono s10
    have M10 := M9.mono s10
    refine ⟨_, rfl, _, rfl, .inl ⟨_, rfl, _, rfl, aT, _, rfl, .inl (SqL.of (s10 _ _ hT)), _, _, rfl, rfl, by omega, aT, _, _, .ref a, rfl, rfl, SqL.of (s10 _ _ hT), by rw [em]; exact atI_nat (by rw [List.getElem?_map, ea] <;> rfl), ?_⟩⟩
    refine ⟨_, rfl, _, rfl, pM, aR, aY, a, l, n, B, ys, cs, rfl, M10, n41, few, hcs, by omega, fun b1 H11 s11 h1b => ?_⟩
    have s911 := s10.trans s11
    have hcs11 := s11 _ _ hcs
    have hm11 := hm9.lk (Lk.of s911)
    dsimp only [gName]
    refine ⟨_, rfl, _, rfl, aH, _, 3, _, rfl, rfl, SqL.of (s911 _ _ hH9), at_map (j := 3) e3, _, _, rfl, rfl, .inl ⟨_, rfl, _, _, rfl, rfl, show (0 : Int) < 2 by decide, rfl, _, rfl, ite2 (fun _ => ?_) (fun _ => ?_)⟩⟩
    · refine ⟨_, rfl, a, _, rfl, .inl (SqL.of hcs11), fun aN nN => ?_⟩
      have tN := same_new (o := HO.lst (cs.map V.int)) nN
      have s912 := s911.trans tN
      refine ⟨_, rfl, _, rfl, x, aN, true, l, n, B.map (·.2), ys, cs, rfl, hm9.lk (Lk.of s912), M9.al, okB, by omega, n41, lenB, fewY, SqL.of upd_same, by omega, fun b2 H13 s13 h2b => ?_⟩
      have eb : b2 = b1 := Bool.eq_iff_iff.mpr (h2b.trans h1b.symm)
      refine ⟨_, rfl, _, _, .bool b1, rfl, by rw [eb]; exact .bl b1, .bl b1, trivial, _, rfl, iteF27 ?_⟩
      have hN := s13 _ _ (upd_same (H := H11) (a := aN) (o := HO.lst (cs.map V.int)))
      have hA := s13 _ _ (tN _ _ hcs11)
      refine ⟨_, rfl, _, rfl, _, _, .lst (SqL.of hN) (dpa_ints cs), .lst (SqL.of hA) (dpa_ints cs), (shaped_ints cs).1, (shaped_ints cs).1, _, rfl, ?_⟩
      rw [(shaped_ints cs).2]
      exact iteF27 ⟨s912.trans s13, _, _, _, _, rfl⟩
    · refine ⟨_, rfl, _, rfl, a, _, rfl, .inl ⟨SqL.of hcs11, fun aN nN => ?_⟩⟩
      have tN := same_new (o := HO.tup (cs.map V.int)) nN
      have s912 := s911.trans tN
      refine ⟨x, aN, false, l, n, B.map (·.2), ys, cs, rfl, hm9.lk (Lk.of s912), M9.al, okB, by omega, n41, lenB, fewY, .inl (.inl upd_same), by omega, fun b2 H13 s13 h2b => ?_⟩
      have eb : b2 = b1 := Bool.eq_iff_iff.mpr (h2b.trans h1b.symm)
      refine ⟨_, rfl, _, _, .bool b1, rfl, by rw [eb]; exact .bl b1, .bl b1, trivial, _, rfl, iteF27 ?_⟩
      exact ⟨s912.trans s13, _, _, _, _, rfl⟩
end
end Mk

set_option maxRecDepth 100000
namespace Mk
open PySem L2 Pk
theorem kit_selfC {K : PySem.W.Frag} {C : Addr} : PySem.W.kitOne K (.ref C) (.ref C) = some true := by
  have n : (Value.ref C == Value.ref C) = true := beq_iff_eq.mpr rfl
  unfold PySem.W.kitOne
  rw [if_pos n]
end Mk

set_option Elab.async false
set_option maxRecDepth 100000
set_option maxHeartbeats 8000000
namespace Mk
open PySem L2 Pk
theorem all_mk {l : PySem.W.OpenLaw} {w : World} {K : PySem.W.Frag} {h : Heap} {mg : Str → Option Value} {fa : Addr} (X : K.In h) (G : h.Ns mainGlobals mg) (hfa : mg "law" = some (.ref fa))
    {f1 : Addr} {od1 an1 : Option Addr} {sl1 : Array (Option Value)} {oc1 kV1 dc1 pm1 cd1 ct1 : Value}
    {f2 : Addr} {od2 an2 : Option Addr} {sl2 : Array (Option Value)} {oc2 kV2 dc2 pm2 cd2 ct2 : Value}
    {f3 : Addr} {od3 an3 : Option Addr} {sl3 : Array (Option Value)} {oc3 kV3 dc3 pm3 cd3 ct3 : Value}
    {f4 : Addr} {od4 an4 : Option Addr} {sl4 : Array (Option Value)} {oc4 kV4 dc4 pm4 cd4 ct4 : Value}
    {f5 : Addr} {od5 an5 : Option Addr} {sl5 : Array (Option Value)} {oc5 kV5 dc5 pm5 cd5 ct5 : Value}
    {f6 : Addr} {od6 an6 : Option Addr} {sl6 : Array (Option Value)} {oc6 kV6 dc6 pm6 cd6 ct6 : Value}
    {f7 : Addr} {od7 an7 : Option Addr} {sl7 : Array (Option Value)} {oc7 kV7 dc7 pm7 cd7 ct7 : Value}
    {f8 : Addr} {od8 an8 : Option Addr} {sl8 : Array (Option Value)} {oc8 kV8 dc8 pm8 cd8 ct8 : Value}
    {f9 : Addr} {od9 an9 : Option Addr} {sl9 : Array (Option Value)} {oc9 kV9 dc9 pm9 cd9 ct9 : Value}
    {f10 : Addr} {od10 an10 : Option Addr} {sl10 : Array (Option Value)} {oc10 kV10 dc10 pm10 cd10 ct10 : Value}
    {f11 : Addr} {od11 an11 : Option Addr} {sl11 : Array (Option Value)} {oc11 kV11 dc11 pm11 cd11 ct11 : Value}
    {f12 : Addr} {od12 an12 : Option Addr} {sl12 : Array (Option Value)} {oc12 kV12 dc12 pm12 cd12 ct12 : Value}
    {f13 : Addr} {od13 an13 : Option Addr} {sl13 : Array (Option Value)} {oc13 kV13 dc13 pm13 cd13 ct13 : Value}
    {f14 : Addr} {od14 an14 : Option Addr} {sl14 : Array (Option Value)} {oc14 kV14 dc14 pm14 cd14 ct14 : Value}
    {f15 : Addr} {od15 an15 : Option Addr} {sl15 : Array (Option Value)} {oc15 kV15 dc15 pm15 cd15 ct15 : Value}
    {f16 : Addr} {od16 an16 : Option Addr} {sl16 : Array (Option Value)} {oc16 kV16 dc16 pm16 cd16 ct16 : Value}
    {f17 : Addr} {od17 an17 : Option Addr} {sl17 : Array (Option Value)} {oc17 kV17 dc17 pm17 cd17 ct17 : Value}
    {f18 : Addr} {od18 an18 : Option Addr} {sl18 : Array (Option Value)} {oc18 kV18 dc18 pm18 cd18 ct18 : Value}
    {f19 : Addr} {od19 an19 : Option Addr} {sl19 : Array (Option Value)} {oc19 kV19 dc19 pm19 cd19 ct19 : Value}
    {f20 : Addr} {od20 an20 : Option Addr} {sl20 : Array (Option Value)} {oc20 kV20 dc20 pm20 cd20 ct20 : Value}
    {f21 : Addr} {od21 an21 : Option Addr} {sl21 : Array (Option Value)} {oc21 kV21 dc21 pm21 cd21 ct21 : Value}
    {f22 : Addr} {od22 an22 : Option Addr} {sl22 : Array (Option Value)} {oc22 kV22 dc22 pm22 cd22 ct22 : Value}
    {f23 : Addr} {od23 an23 : Option Addr} {sl23 : Array (Option Value)} {oc23 kV23 dc23 pm23 cd23 ct23 : Value}
    {f24 : Addr} {od24 an24 : Option Addr} {sl24 : Array (Option Value)} {oc24 kV24 dc24 pm24 cd24 ct24 : Value}
    {f25 : Addr} {od25 an25 : Option Addr} {sl25 : Array (Option Value)} {oc25 kV25 dc25 pm25 cd25 ct25 : Value}
    {f26 : Addr} {od26 an26 : Option Addr} {sl26 : Array (Option Value)} {oc26 kV26 dc26 pm26 cd26 ct26 : Value}
    {f27 : Addr} {od27 an27 : Option Addr} {sl27 : Array (Option Value)} {oc27 kV27 dc27 pm27 cd27 ct27 : Value}
    {f28 : Addr} {od28 an28 : Option Addr} {sl28 : Array (Option Value)} {oc28 kV28 dc28 pm28 cd28 ct28 : Value}
    {f29 : Addr} {od29 an29 : Option Addr} {sl29 : Array (Option Value)} {oc29 kV29 dc29 pm29 cd29 ct29 : Value}
    {f30 : Addr} {od30 an30 : Option Addr} {sl30 : Array (Option Value)} {oc30 kV30 dc30 pm30 cd30 ct30 : Value}
    {f31 : Addr} {od31 an31 : Option Addr} {sl31 : Array (Option Value)} {oc31 kV31 dc31 pm31 cd31 ct31 : Value}
    {f32 : Addr} {od32 an32 : Option Addr} {sl32 : Array (Option Value)} {oc32 kV32 dc32 pm32 cd32 ct32 : Value}
    {f33 : Addr} {od33 an33 : Option Addr} {sl33 : Array (Option Value)} {oc33 kV33 dc33 pm33 cd33 ct33 : Value}
    {f34 : Addr} {od34 an34 : Option Addr} {sl34 : Array (Option Value)} {oc34 kV34 dc34 pm34 cd34 ct34 : Value}
    {f35 : Addr} {od35 an35 : Option Addr} {sl35 : Array (Option Value)} {oc35 kV35 dc35 pm35 cd35 ct35 : Value}
    {f36 : Addr} {od36 an36 : Option Addr} {sl36 : Array (Option Value)} {oc36 kV36 dc36 pm36 cd36 ct36 : Value}
    {f37 : Addr} {od37 an37 : Option Addr} {sl37 : Array (Option Value)} {oc37 kV37 dc37 pm37 cd37 ct37 : Value}
    {f38 : Addr} {od38 an38 : Option Addr} {sl38 : Array (Option Value)} {oc38 kV38 dc38 pm38 cd38 ct38 : Value}
    {f39 : Addr} {od39 an39 : Option Addr} {sl39 : Array (Option Value)} {oc39 kV39 dc39 pm39 cd39 ct39 : Value}
    {f40 : Addr} {od40 an40 : Option Addr} {sl40 : Array (Option Value)} {oc40 kV40 dc40 pm40 cd40 ct40 : Value}
    {f41 : Addr} {od41 an41 : Option Addr} {sl41 : Array (Option Value)} {oc41 kV41 dc41 pm41 cd41 ct41 : Value}
    {f42 : Addr} {od42 an42 : Option Addr} {sl42 : Array (Option Value)} {oc42 kV42 dc42 pm42 cd42 ct42 : Value}
    {f43 : Addr} {od43 an43 : Option Addr} {sl43 : Array (Option Value)} {oc43 kV43 dc43 pm43 cd43 ct43 : Value}
    {f44 : Addr} {od44 an44 : Option Addr} {sl44 : Array (Option Value)} {oc44 kV44 dc44 pm44 cd44 ct44 : Value}
    {f45 : Addr} {od45 an45 : Option Addr} {sl45 : Array (Option Value)} {oc45 kV45 dc45 pm45 cd45 ct45 : Value}
    {f46 : Addr} {od46 an46 : Option Addr} {sl46 : Array (Option Value)} {oc46 kV46 dc46 pm46 cd46 ct46 : Value}
    {fL : Addr} {odL anL : Option Addr} {slL : Array (Option Value)} {ocL kVL dcL pmL cdL ctL : Value}
    {C fI T0 e0 aDD : Addr} {odI anI odT odE odD : Option Addr} {slI slT slE slD : Array (Option Value)} {ocI ocT kVI dcI pmI cdI ctI : Value} {nT nE nD : Nat} {tS tR t1 t2 t3 t4 : Tok}
    (na1 : PySem.W.nsIn K mainGlobals "is_integer" = some (some (.ref f1)))
    (lk1 : K.lookup f1 = some ⟨oc1, od1, .func (PySem.W.fnOf "is_integer" "is_integer" (defArgs sInteger) (defBody sInteger) (defScope sInteger) .none kV1 dc1 pm1 an1 cd1 ct1), sl1⟩)
    (co1 : PySem.W.codeIn K cd1 "is_integer" = true)
    (ke1 : PySem.W.keepIn K (.ref f1) = true)
    (na2 : PySem.W.nsIn K mainGlobals "is_between" = some (some (.ref f2)))
    (lk2 : K.lookup f2 = some ⟨oc2, od2, .func (PySem.W.fnOf "is_between" "is_between" (defArgs sBetween) (defBody sBetween) (defScope sBetween) .none kV2 dc2 pm2 an2 cd2 ct2), sl2⟩)
    (co2 : PySem.W.codeIn K cd2 "is_between" = true)
    (ke2 : PySem.W.keepIn K (.ref f2) = true)
    (na3 : PySem.W.nsIn K mainGlobals "is_sequence" = some (some (.ref f3)))
    (lk3 : K.lookup f3 = some ⟨oc3, od3, .func (PySem.W.fnOf "is_sequence" "is_sequence" (defArgs sSequence) (defBody sSequence) (defScope sSequence) .none kV3 dc3 pm3 an3 cd3 ct3), sl3⟩)
    (co3 : PySem.W.codeIn K cd3 "is_sequence" = true)
    (ke3 : PySem.W.keepIn K (.ref f3) = true)
    (na4 : PySem.W.nsIn K mainGlobals "is_row" = some (some (.ref f4)))
    (lk4 : K.lookup f4 = some ⟨oc4, od4, .func (PySem.W.fnOf "is_row" "is_row" (defArgs sRow) (defBody sRow) (defScope sRow) .none kV4 dc4 pm4 an4 cd4 ct4), sl4⟩)
    (co4 : PySem.W.codeIn K cd4 "is_row" = true)
    (ke4 : PySem.W.keepIn K (.ref f4) = true)
    (na5 : PySem.W.nsIn K mainGlobals "are_letters" = some (some (.ref f5)))
    (lk5 : K.lookup f5 = some ⟨oc5, od5, .func (PySem.W.fnOf "are_letters" "are_letters" (defArgs sLetters) (defBody sLetters) (defScope sLetters) .none kV5 dc5 pm5 an5 cd5 ct5), sl5⟩)
    (co5 : PySem.W.codeIn K cd5 "are_letters" = true)
    (ke5 : PySem.W.keepIn K (.ref f5) = true)
    (na6 : PySem.W.nsIn K mainGlobals "is_alphabet" = some (some (.ref f6)))
    (lk6 : K.lookup f6 = some ⟨oc6, od6, .func (PySem.W.fnOf "is_alphabet" "is_alphabet" (defArgs sAlphabet) (defBody sAlphabet) (defScope sAlphabet) .none kV6 dc6 pm6 an6 cd6 ct6), sl6⟩)
    (co6 : PySem.W.codeIn K cd6 "is_alphabet" = true)
    (ke6 : PySem.W.keepIn K (.ref f6) = true)
    (na7 : PySem.W.nsIn K mainGlobals "is_symbol_mark" = some (some (.ref f7)))
    (lk7 : K.lookup f7 = some ⟨oc7, od7, .func (PySem.W.fnOf "is_symbol_mark" "is_symbol_mark" (defArgs sMark) (defBody sMark) (defScope sMark) .none kV7 dc7 pm7 an7 cd7 ct7), sl7⟩)
    (co7 : PySem.W.codeIn K cd7 "is_symbol_mark" = true)
    (ke7 : PySem.W.keepIn K (.ref f7) = true)
    (na8 : PySem.W.nsIn K mainGlobals "is_symbol" = some (some (.ref f8)))
    (lk8 : K.lookup f8 = some ⟨oc8, od8, .func (PySem.W.fnOf "is_symbol" "is_symbol" (defArgs sSymbol) (defBody sSymbol) (defScope sSymbol) .none kV8 dc8 pm8 an8 cd8 ct8), sl8⟩)
    (co8 : PySem.W.codeIn K cd8 "is_symbol" = true)
    (ke8 : PySem.W.keepIn K (.ref f8) = true)
    (na9 : PySem.W.nsIn K mainGlobals "is_sign" = some (some (.ref f9)))
    (lk9 : K.lookup f9 = some ⟨oc9, od9, .func (PySem.W.fnOf "is_sign" "is_sign" (defArgs sSign) (defBody sSign) (defScope sSign) .none kV9 dc9 pm9 an9 cd9 ct9), sl9⟩)
    (co9 : PySem.W.codeIn K cd9 "is_sign" = true)
    (ke9 : PySem.W.keepIn K (.ref f9) = true)
    (na10 : PySem.W.nsIn K mainGlobals "is_top" = some (some (.ref f10)))
    (lk10 : K.lookup f10 = some ⟨oc10, od10, .func (PySem.W.fnOf "is_top" "is_top" (defArgs sTop) (defBody sTop) (defScope sTop) .none kV10 dc10 pm10 an10 cd10 ct10), sl10⟩)
    (co10 : PySem.W.codeIn K cd10 "is_top" = true)
    (ke10 : PySem.W.keepIn K (.ref f10) = true)
    (na11 : PySem.W.nsIn K mainGlobals "is_move" = some (some (.ref f11)))
    (lk11 : K.lookup f11 = some ⟨oc11, od11, .func (PySem.W.fnOf "is_move" "is_move" (defArgs sMove) (defBody sMove) (defScope sMove) .none kV11 dc11 pm11 an11 cd11 ct11), sl11⟩)
    (co11 : PySem.W.codeIn K cd11 "is_move" = true)
    (ke11 : PySem.W.keepIn K (.ref f11) = true)
    (na12 : PySem.W.nsIn K mainGlobals "is_deed" = some (some (.ref f12)))
    (lk12 : K.lookup f12 = some ⟨oc12, od12, .func (PySem.W.fnOf "is_deed" "is_deed" (defArgs sDeed) (defBody sDeed) (defScope sDeed) .none kV12 dc12 pm12 an12 cd12 ct12), sl12⟩)
    (co12 : PySem.W.codeIn K cd12 "is_deed" = true)
    (ke12 : PySem.W.keepIn K (.ref f12) = true)
    (na13 : PySem.W.nsIn K mainGlobals "is_state" = some (some (.ref f13)))
    (lk13 : K.lookup f13 = some ⟨oc13, od13, .func (PySem.W.fnOf "is_state" "is_state" (defArgs sState) (defBody sState) (defScope sState) .none kV13 dc13 pm13 an13 cd13 ct13), sl13⟩)
    (co13 : PySem.W.codeIn K cd13 "is_state" = true)
    (ke13 : PySem.W.keepIn K (.ref f13) = true)
    (na14 : PySem.W.nsIn K mainGlobals "is_rule" = some (some (.ref f14)))
    (lk14 : K.lookup f14 = some ⟨oc14, od14, .func (PySem.W.fnOf "is_rule" "is_rule" (defArgs sRule) (defBody sRule) (defScope sRule) .none kV14 dc14 pm14 an14 cd14 ct14), sl14⟩)
    (co14 : PySem.W.codeIn K cd14 "is_rule" = true)
    (ke14 : PySem.W.keepIn K (.ref f14) = true)
    (na15 : PySem.W.nsIn K mainGlobals "check_arguments" = some (some (.ref f15)))
    (lk15 : K.lookup f15 = some ⟨oc15, od15, .func (PySem.W.fnOf "check_arguments" "check_arguments" (defArgs sCheck) (defBody sCheck) (defScope sCheck) .none kV15 dc15 pm15 an15 cd15 ct15), sl15⟩)
    (co15 : PySem.W.codeIn K cd15 "check_arguments" = true)
    (ke15 : PySem.W.keepIn K (.ref f15) = true)
    (na16 : PySem.W.nsIn K mainGlobals "symbols_of" = some (some (.ref f16)))
    (lk16 : K.lookup f16 = some ⟨oc16, od16, .func (PySem.W.fnOf "symbols_of" "symbols_of" (defArgs sSymbols) (defBody sSymbols) (defScope sSymbols) .none kV16 dc16 pm16 an16 cd16 ct16), sl16⟩)
    (co16 : PySem.W.codeIn K cd16 "symbols_of" = true)
    (ke16 : PySem.W.keepIn K (.ref f16) = true)
    (na17 : PySem.W.nsIn K mainGlobals "acts_by_key" = some (some (.ref f17)))
    (lk17 : K.lookup f17 = some ⟨oc17, od17, .func (PySem.W.fnOf "acts_by_key" "acts_by_key" (defArgs sActs) (defBody sActs) (defScope sActs) .none kV17 dc17 pm17 an17 cd17 ct17), sl17⟩)
    (co17 : PySem.W.codeIn K cd17 "acts_by_key" = true)
    (ke17 : PySem.W.keepIn K (.ref f17) = true)
    (na18 : PySem.W.nsIn K mainGlobals "first_guess" = some (some (.ref f18)))
    (lk18 : K.lookup f18 = some ⟨oc18, od18, .func (PySem.W.fnOf "first_guess" "first_guess" (defArgs sGuess) (defBody sGuess) (defScope sGuess) .none kV18 dc18 pm18 an18 cd18 ct18), sl18⟩)
    (co18 : PySem.W.codeIn K cd18 "first_guess" = true)
    (ke18 : PySem.W.keepIn K (.ref f18) = true)
    (na19 : PySem.W.nsIn K mainGlobals "rules_by_state" = some (some (.ref f19)))
    (lk19 : K.lookup f19 = some ⟨oc19, od19, .func (PySem.W.fnOf "rules_by_state" "rules_by_state" (defArgs sByState) (defBody sByState) (defScope sByState) .none kV19 dc19 pm19 an19 cd19 ct19), sl19⟩)
    (co19 : PySem.W.codeIn K cd19 "rules_by_state" = true)
    (ke19 : PySem.W.keepIn K (.ref f19) = true)
    (na20 : PySem.W.nsIn K mainGlobals "look_of" = some (some (.ref f20)))
    (lk20 : K.lookup f20 = some ⟨oc20, od20, .func (PySem.W.fnOf "look_of" "look_of" (defArgs sLook) (defBody sLook) (defScope sLook) .none kV20 dc20 pm20 an20 cd20 ct20), sl20⟩)
    (co20 : PySem.W.codeIn K cd20 "look_of" = true)
    (ke20 : PySem.W.keepIn K (.ref f20) = true)
    (na21 : PySem.W.nsIn K mainGlobals "is_likeness" = some (some (.ref f21)))
    (lk21 : K.lookup f21 = some ⟨oc21, od21, .func (PySem.W.fnOf "is_likeness" "is_likeness" (defArgs sLike) (defBody sLike) (defScope sLike) .none kV21 dc21 pm21 an21 cd21 ct21), sl21⟩)
    (co21 : PySem.W.codeIn K cd21 "is_likeness" = true)
    (ke21 : PySem.W.keepIn K (.ref f21) = true)
    (na22 : PySem.W.nsIn K mainGlobals "_law_whole" = some (some (.ref f22)))
    (lk22 : K.lookup f22 = some ⟨oc22, od22, .func (PySem.W.fnOf "_law_whole" "_law_whole" (defArgs sWhole) (defBody sWhole) (defScope sWhole) .none kV22 dc22 pm22 an22 cd22 ct22), sl22⟩)
    (co22 : PySem.W.codeIn K cd22 "_law_whole" = true)
    (ke22 : PySem.W.keepIn K (.ref f22) = true)
    (na23 : PySem.W.nsIn K mainGlobals "_law_same" = some (some (.ref f23)))
    (lk23 : K.lookup f23 = some ⟨oc23, od23, .func (PySem.W.fnOf "_law_same" "_law_same" (defArgs sSame) (defBody sSame) (defScope sSame) .none kV23 dc23 pm23 an23 cd23 ct23), sl23⟩)
    (co23 : PySem.W.codeIn K cd23 "_law_same" = true)
    (ke23 : PySem.W.keepIn K (.ref f23) = true)
    (na24 : PySem.W.nsIn K mainGlobals "_law_cell" = some (some (.ref f24)))
    (lk24 : K.lookup f24 = some ⟨oc24, od24, .func (PySem.W.fnOf "_law_cell" "_law_cell" (defArgs sCell) (defBody sCell) (defScope sCell) .none kV24 dc24 pm24 an24 cd24 ct24), sl24⟩)
    (co24 : PySem.W.codeIn K cd24 "_law_cell" = true)
    (ke24 : PySem.W.keepIn K (.ref f24) = true)
    (na25 : PySem.W.nsIn K mainGlobals "_law_digits" = some (some (.ref f25)))
    (lk25 : K.lookup f25 = some ⟨oc25, od25, .func (PySem.W.fnOf "_law_digits" "_law_digits" (defArgs sDigits) (defBody sDigits) (defScope sDigits) .none kV25 dc25 pm25 an25 cd25 ct25), sl25⟩)
    (co25 : PySem.W.codeIn K cd25 "_law_digits" = true)
    (ke25 : PySem.W.keepIn K (.ref f25) = true)
    (na26 : PySem.W.nsIn K mainGlobals "_law_alphabet" = some (some (.ref f26)))
    (lk26 : K.lookup f26 = some ⟨oc26, od26, .func (PySem.W.fnOf "_law_alphabet" "_law_alphabet" (defArgs sAlpha) (defBody sAlpha) (defScope sAlpha) .none kV26 dc26 pm26 an26 cd26 ct26), sl26⟩)
    (co26 : PySem.W.codeIn K cd26 "_law_alphabet" = true)
    (ke26 : PySem.W.keepIn K (.ref f26) = true)
    (na27 : PySem.W.nsIn K mainGlobals "_law_symbols" = some (some (.ref f27)))
    (lk27 : K.lookup f27 = some ⟨oc27, od27, .func (PySem.W.fnOf "_law_symbols" "_law_symbols" (defArgs sSyms) (defBody sSyms) (defScope sSyms) .none kV27 dc27 pm27 an27 cd27 ct27), sl27⟩)
    (co27 : PySem.W.codeIn K cd27 "_law_symbols" = true)
    (ke27 : PySem.W.keepIn K (.ref f27) = true)
    (na28 : PySem.W.nsIn K mainGlobals "_law_act" = some (some (.ref f28)))
    (lk28 : K.lookup f28 = some ⟨oc28, od28, .func (PySem.W.fnOf "_law_act" "_law_act" (defArgs sAct) (defBody sAct) (defScope sAct) .none kV28 dc28 pm28 an28 cd28 ct28), sl28⟩)
    (co28 : PySem.W.codeIn K cd28 "_law_act" = true)
    (ke28 : PySem.W.keepIn K (.ref f28) = true)
    (na29 : PySem.W.nsIn K mainGlobals "_law_caller" = some (some (.ref f29)))
    (lk29 : K.lookup f29 = some ⟨oc29, od29, .func (PySem.W.fnOf "_law_caller" "_law_caller" (defArgs sCaller) (defBody sCaller) (defScope sCaller) .none kV29 dc29 pm29 an29 cd29 ct29), sl29⟩)
    (co29 : PySem.W.codeIn K cd29 "_law_caller" = true)
    (ke29 : PySem.W.keepIn K (.ref f29) = true)
    (na30 : PySem.W.nsIn K mainGlobals "_law_scanner" = some (some (.ref f30)))
    (lk30 : K.lookup f30 = some ⟨oc30, od30, .func (PySem.W.fnOf "_law_scanner" "_law_scanner" (defArgs sScanner) (defBody sScanner) (defScope sScanner) .none kV30 dc30 pm30 an30 cd30 ct30), sl30⟩)
    (co30 : PySem.W.codeIn K cd30 "_law_scanner" = true)
    (ke30 : PySem.W.keepIn K (.ref f30) = true)
    (na31 : PySem.W.nsIn K mainGlobals "_law_restorer" = some (some (.ref f31)))
    (lk31 : K.lookup f31 = some ⟨oc31, od31, .func (PySem.W.fnOf "_law_restorer" "_law_restorer" (defArgs sRestorer) (defBody sRestorer) (defScope sRestorer) .none kV31 dc31 pm31 an31 cd31 ct31), sl31⟩)
    (co31 : PySem.W.codeIn K cd31 "_law_restorer" = true)
    (ke31 : PySem.W.keepIn K (.ref f31) = true)
    (na32 : PySem.W.nsIn K mainGlobals "_law_climber" = some (some (.ref f32)))
    (lk32 : K.lookup f32 = some ⟨oc32, od32, .func (PySem.W.fnOf "_law_climber" "_law_climber" (defArgs sClimber) (defBody sClimber) (defScope sClimber) .none kV32 dc32 pm32 an32 cd32 ct32), sl32⟩)
    (co32 : PySem.W.codeIn K cd32 "_law_climber" = true)
    (ke32 : PySem.W.keepIn K (.ref f32) = true)
    (na33 : PySem.W.nsIn K mainGlobals "_law_machine" = some (some (.ref f33)))
    (lk33 : K.lookup f33 = some ⟨oc33, od33, .func (PySem.W.fnOf "_law_machine" "_law_machine" (defArgs sMachine) (defBody sMachine) (defScope sMachine) .none kV33 dc33 pm33 an33 cd33 ct33), sl33⟩)
    (co33 : PySem.W.codeIn K cd33 "_law_machine" = true)
    (ke33 : PySem.W.keepIn K (.ref f33) = true)
    (na34 : PySem.W.nsIn K mainGlobals "_law_ascending" = some (some (.ref f34)))
    (lk34 : K.lookup f34 = some ⟨oc34, od34, .func (PySem.W.fnOf "_law_ascending" "_law_ascending" (defArgs sAscend) (defBody sAscend) (defScope sAscend) .none kV34 dc34 pm34 an34 cd34 ct34), sl34⟩)
    (co34 : PySem.W.codeIn K cd34 "_law_ascending" = true)
    (ke34 : PySem.W.keepIn K (.ref f34) = true)
    (na35 : PySem.W.nsIn K mainGlobals "_law_found" = some (some (.ref f35)))
    (lk35 : K.lookup f35 = some ⟨oc35, od35, .func (PySem.W.fnOf "_law_found" "_law_found" (defArgs sFound) (defBody sFound) (defScope sFound) .none kV35 dc35 pm35 an35 cd35 ct35), sl35⟩)
    (co35 : PySem.W.codeIn K cd35 "_law_found" = true)
    (ke35 : PySem.W.keepIn K (.ref f35) = true)
    (na36 : PySem.W.nsIn K mainGlobals "_law_guess" = some (some (.ref f36)))
    (lk36 : K.lookup f36 = some ⟨oc36, od36, .func (PySem.W.fnOf "_law_guess" "_law_guess" (defArgs sGuessL) (defBody sGuessL) (defScope sGuessL) .none kV36 dc36 pm36 an36 cd36 ct36), sl36⟩)
    (co36 : PySem.W.codeIn K cd36 "_law_guess" = true)
    (ke36 : PySem.W.keepIn K (.ref f36) = true)
    (na37 : PySem.W.nsIn K mainGlobals "_law_is" = some (some (.ref f37)))
    (lk37 : K.lookup f37 = some ⟨oc37, od37, .func (PySem.W.fnOf "_law_is" "_law_is" (defArgs sIs) (defBody sIs) (defScope sIs) .none kV37 dc37 pm37 an37 cd37 ct37), sl37⟩)
    (co37 : PySem.W.codeIn K cd37 "_law_is" = true)
    (ke37 : PySem.W.keepIn K (.ref f37) = true)
    (na38 : PySem.W.nsIn K mainGlobals "_law_hand" = some (some (.ref f38)))
    (lk38 : K.lookup f38 = some ⟨oc38, od38, .func (PySem.W.fnOf "_law_hand" "_law_hand" (defArgs sHand) (defBody sHand) (defScope sHand) .none kV38 dc38 pm38 an38 cd38 ct38), sl38⟩)
    (co38 : PySem.W.codeIn K cd38 "_law_hand" = true)
    (ke38 : PySem.W.keepIn K (.ref f38) = true)
    (na39 : PySem.W.nsIn K mainGlobals "_law_small" = some (some (.ref f39)))
    (lk39 : K.lookup f39 = some ⟨oc39, od39, .func (PySem.W.fnOf "_law_small" "_law_small" (defArgs sSmall) (defBody sSmall) (defScope sSmall) .none kV39 dc39 pm39 an39 cd39 ct39), sl39⟩)
    (co39 : PySem.W.codeIn K cd39 "_law_small" = true)
    (ke39 : PySem.W.keepIn K (.ref f39) = true)
    (na40 : PySem.W.nsIn K mainGlobals "_law_more" = some (some (.ref f40)))
    (lk40 : K.lookup f40 = some ⟨oc40, od40, .func (PySem.W.fnOf "_law_more" "_law_more" (defArgs sMore) (defBody sMore) (defScope sMore) .none kV40 dc40 pm40 an40 cd40 ct40), sl40⟩)
    (co40 : PySem.W.codeIn K cd40 "_law_more" = true)
    (ke40 : PySem.W.keepIn K (.ref f40) = true)
    (na41 : PySem.W.nsIn K mainGlobals "_law_copies" = some (some (.ref f41)))
    (lk41 : K.lookup f41 = some ⟨oc41, od41, .func (PySem.W.fnOf "_law_copies" "_law_copies" (defArgs sCopies) (defBody sCopies) (defScope sCopies) .none kV41 dc41 pm41 an41 cd41 ct41), sl41⟩)
    (co41 : PySem.W.codeIn K cd41 "_law_copies" = true)
    (ke41 : PySem.W.keepIn K (.ref f41) = true)
    (na42 : PySem.W.nsIn K mainGlobals "_law_ring" = some (some (.ref f42)))
    (lk42 : K.lookup f42 = some ⟨oc42, od42, .func (PySem.W.fnOf "_law_ring" "_law_ring" (defArgs sRing) (defBody sRing) (defScope sRing) .none kV42 dc42 pm42 an42 cd42 ct42), sl42⟩)
    (co42 : PySem.W.codeIn K cd42 "_law_ring" = true)
    (ke42 : PySem.W.keepIn K (.ref f42) = true)
    (na43 : PySem.W.nsIn K mainGlobals "_law_does" = some (some (.ref f43)))
    (lk43 : K.lookup f43 = some ⟨oc43, od43, .func (PySem.W.fnOf "_law_does" "_law_does" (defArgs sDoes) (defBody sDoes) (defScope sDoes) .none kV43 dc43 pm43 an43 cd43 ct43), sl43⟩)
    (co43 : PySem.W.codeIn K cd43 "_law_does" = true)
    (ke43 : PySem.W.keepIn K (.ref f43) = true)
    (na44 : PySem.W.nsIn K mainGlobals "_law_judge" = some (some (.ref f44)))
    (lk44 : K.lookup f44 = some ⟨oc44, od44, .func (PySem.W.fnOf "_law_judge" "_law_judge" (defArgs sJudge) (defBody sJudge) (defScope sJudge) .none kV44 dc44 pm44 an44 cd44 ct44), sl44⟩)
    (co44 : PySem.W.codeIn K cd44 "_law_judge" = true)
    (ke44 : PySem.W.keepIn K (.ref f44) = true)
    (na45 : PySem.W.nsIn K mainGlobals "_law_coarsest" = some (some (.ref f45)))
    (lk45 : K.lookup f45 = some ⟨oc45, od45, .func (PySem.W.fnOf "_law_coarsest" "_law_coarsest" (defArgs sCoarse) (defBody sCoarse) (defScope sCoarse) .none kV45 dc45 pm45 an45 cd45 ct45), sl45⟩)
    (co45 : PySem.W.codeIn K cd45 "_law_coarsest" = true)
    (ke45 : PySem.W.keepIn K (.ref f45) = true)
    (na46 : PySem.W.nsIn K mainGlobals "_law_tries" = some (some (.ref f46)))
    (lk46 : K.lookup f46 = some ⟨oc46, od46, .func (PySem.W.fnOf "_law_tries" "_law_tries" (defArgs sTries) (defBody sTries) (defScope sTries) .none kV46 dc46 pm46 an46 cd46 ct46), sl46⟩)
    (co46 : PySem.W.codeIn K cd46 "_law_tries" = true)
    (ke46 : PySem.W.keepIn K (.ref f46) = true)
    (naL : PySem.W.nsIn K mainGlobals "law" = some (some (.ref fL)))
    (lkL : K.lookup fL = some ⟨ocL, odL, .func (PySem.W.fnOf "law" "law" (defArgs sLaw) (defBody sLaw) (defScope sLaw) .none kVL dcL pmL anL cdL ctL), slL⟩)
    (coL : PySem.W.codeIn K cdL "law" = true)
    (keL : PySem.W.keepIn K (.ref fL) = true)
    (nC : PySem.W.nsIn K mainGlobals "Machine" = some (some (.ref C)))
    (c1 : PySem.W.plainGet K C Str.empty = true)
    (c2 : PySem.W.hasDictIn K C = true)
    (c3 : PySem.W.plainOver K C = true)
    (c4 : PySem.W.findIn K (.ref C) "__setattr__" = some (some (.builtin "object.__setattr__")))
    (no0 : PySem.W.findIn K (.ref C) "letters" = some none)
    (no1 : PySem.W.findIn K (.ref C) "states" = some none)
    (no2 : PySem.W.findIn K (.ref C) "rules" = some none)
    (no3 : PySem.W.findIn K (.ref C) "yes" = some none)
    (no4 : PySem.W.findIn K (.ref C) "symbols" = some none)
    (no5 : PySem.W.findIn K (.ref C) "_acts" = some none)
    (no6 : PySem.W.findIn K (.ref C) "guess" = some none)
    (mk1 : PySem.W.makesIn K C = true)
    (mk2 : PySem.W.findIn K (.ref C) "__init__" = some (some (.ref fI)))
    (mk3 : PySem.W.isFn K (.ref fI) = true)
    (mk4 : PySem.W.keepIn K (.ref C) = true)
    (lI : K.lookup fI = some ⟨ocI, odI, .func (PySem.W.fnOf "__init__" "Machine.__init__" (defArgs sInit) (defBody sInit) (defScope sInit) (.ref T0) kVI dcI pmI anI cdI ctI), slI⟩)
    (cI : PySem.W.codeIn K cdI "Machine.__init__" = true)
    (kI : PySem.W.keepIn K (.ref fI) = true)
    (lT : K.lookup T0 = some ⟨ocT, odT, .seq #[.ref e0] nT, slT⟩)
    (lE : K.lookup e0 = some ⟨.type "tuple", odE, .seq #[] nE, slE⟩)
    (nDD : PySem.W.nsIn K mainGlobals "DEEDS" = some (some (.ref aDD)))
    (lD : K.lookup aDD = some ⟨.type "tuple", odD, .seq #[.str "keep" t1, .str "pop" t2, .str "push" t3, .str "swap" t4] nD, slD⟩)
    (mS : PySem.W.nsIn K mainGlobals "MOST_STATES" = some (some (.int 2000 tS)))
    (mR : PySem.W.nsIn K mainGlobals "MOST_RULES" = some (some (.int 20000 tR)))
    (z_isinstance : PySem.W.nsIn K mainGlobals "isinstance" = some none)
    (z_int : PySem.W.nsIn K mainGlobals "int" = some none)
    (z_bool : PySem.W.nsIn K mainGlobals "bool" = some none)
    (z_str : PySem.W.nsIn K mainGlobals "str" = some none)
    (z_tuple : PySem.W.nsIn K mainGlobals "tuple" = some none)
    (z_list : PySem.W.nsIn K mainGlobals "list" = some none)
    (z_len : PySem.W.nsIn K mainGlobals "len" = some none)
    (z_range : PySem.W.nsIn K mainGlobals "range" = some none)
    (z_all : PySem.W.nsIn K mainGlobals "all" = some none)
    (z_sorted : PySem.W.nsIn K mainGlobals "sorted" = some none)
    (z_set : PySem.W.nsIn K mainGlobals "set" = some none)
    (z_abs : PySem.W.nsIn K mainGlobals "abs" = some none)
    (z_max : PySem.W.nsIn K mainGlobals "max" = some none)
    (ic1 : PySem.W.findIn K (.ref C) "__class__" = some (some (.builtin "object.__class__")))
    (ic2 : PySem.W.specialIn K (.builtin "object.__class__") "__get__" = some (some (.builtin "getset_descriptor.__get__")))
    (ic3 : PySem.W.takesIn K (.builtin "object.__class__") = some true)
    (ic4 : PySem.W.mroIn K C (.type "object") = some true) :
    ∃ fd : FuncData, (∀ (s : Shared) (v : Value), BindsTo s fd ⟨[v], []⟩ [("script", v)]) ∧ ∀ base : Heap, K.In base → base.Ns mainGlobals mg → FnOk l.prog w K mg base CX0 9 fa fd ["script"] (spLaw K) := by
  have e := hfa.symm.trans (PySem.W.mg_of X G naL)
  cases e
  have T : TM mg := ⟨PySem.W.mg_none_of X G z_isinstance, PySem.W.mg_none_of X G z_int, PySem.W.mg_none_of X G z_bool, PySem.W.mg_none_of X G z_str, PySem.W.mg_none_of X G z_tuple, PySem.W.mg_none_of X G z_list, PySem.W.mg_none_of X G z_len, PySem.W.mg_none_of X G z_range, PySem.W.mg_none_of X G z_all, PySem.W.mg_none_of X G z_sorted, PySem.W.mg_none_of X G z_set, PySem.W.mg_none_of X G z_abs⟩
  have m : ∀ {x : Str} {v : Value}, PySem.W.nsIn K mainGlobals x = some (some v) → mg x = some v := fun q => PySem.W.mg_of X G q
  have D : Deeds K mg := ⟨aDD, m nDD, fun H => .inr ⟨_, _, _, lD, rfl, rfl, (by show 4 ≤ sizeLine; decide), .cons ⟨_, rfl⟩ (.cons ⟨_, rfl⟩ (.cons ⟨_, rfl⟩ (.cons ⟨_, rfl⟩ .nil)))⟩⟩
  have FI : FunD K "__init__" "Machine.__init__" (defArgs sInit) (defBody sInit) (defScope sInit) [.ref e0] [] fI _ := ⟨⟨ocI, odI, .ref T0, kVI, dcI, pmI, anI, cdI, ctI, slI, rfl, lI, cI, .inr ⟨List.cons_ne_nil _ _, T0, _, [.ref e0], nT, rfl, lT, rfl, .cons rfl .nil⟩, .inl rfl⟩, kI⟩
  have MC : MCls K C := ⟨⟨c1, c2, c3, c4⟩, no0, no1, no2, no3, no4, no5, no6⟩
  have MM : L2.Mk K C fI := ⟨mk1, mk2, mk3, mk4⟩
  obtain ⟨ds4, v4, b4⟩ := FI.binds1 (ps := ["self", "letters", "states", "rules", "yes"]) 5 1 (List.cons_ne_nil _ _) rfl fun T kV doc pm an cdv ct us its h1 h2 => match us, its, h1, h2 with | [_, _, _, _, _], [_], _, _ => ⟨_, rfl, rfl⟩
  have e4 : ds4 = [] := by cases v4; rfl
  subst e4
  obtain ⟨ds3, v3, b3⟩ := FI.binds1 (ps := ["self", "letters", "states", "rules", "yes"]) 4 0 (List.cons_ne_nil _ _) rfl fun T kV doc pm an cdv ct us its h1 h2 => match us, its, h1, h2 with | [_, _, _, _], [_], _, _ => ⟨_, rfl, rfl⟩
  obtain ⟨its, kb⟩ := FI.kbindsD (ps := ["self", "letters", "states", "rules", "yes"]) 4 ["yes"] (fun vs _ zs => vs ++ zs) (List.cons_ne_nil _ _) (fun a _ c => a.append c) fun T kV doc pm an cdv ct us its ws h1 h2 h3 => match us, its, ws, h1, h2, h3 with | [_, _, _, _], [_], [_], _, _, _ => ⟨_, rfl, rfl⟩
  have F1 := fun_mk (st := sInteger) lk1 co1 ke1
  have b_1 := F1.binds (ps := ["value"]) fun _ _ _ _ _ _ us hl => match us, hl with | [_], _ => rfl
  have F2 := fun_mk (st := sBetween) lk2 co2 ke2
  have b_2 := F2.binds (ps := ["value", "least", "most"]) fun _ _ _ _ _ _ us hl => match us, hl with | [_, _, _], _ => rfl
  have F3 := fun_mk (st := sSequence) lk3 co3 ke3
  have b_3 := F3.binds (ps := ["value"]) fun _ _ _ _ _ _ us hl => match us, hl with | [_], _ => rfl
  have F4 := fun_mk (st := sRow) lk4 co4 ke4
  have b_4 := F4.binds (ps := ["value", "length"]) fun _ _ _ _ _ _ us hl => match us, hl with | [_, _], _ => rfl
  have F5 := fun_mk (st := sLetters) lk5 co5 ke5
  have b_5 := F5.binds (ps := ["value", "most"]) fun _ _ _ _ _ _ us hl => match us, hl with | [_, _], _ => rfl
  have F6 := fun_mk (st := sAlphabet) lk6 co6 ke6
  have b_6 := F6.binds (ps := ["value"]) fun _ _ _ _ _ _ us hl => match us, hl with | [_], _ => rfl
  have F7 := fun_mk (st := sMark) lk7 co7 ke7
  have b_7 := F7.binds (ps := ["mark"]) fun _ _ _ _ _ _ us hl => match us, hl with | [_], _ => rfl
  have F8 := fun_mk (st := sSymbol) lk8 co8 ke8
  have b_8 := F8.binds (ps := ["value"]) fun _ _ _ _ _ _ us hl => match us, hl with | [_], _ => rfl
  have F9 := fun_mk (st := sSign) lk9 co9 ke9
  have b_9 := F9.binds (ps := ["letters", "value"]) fun _ _ _ _ _ _ us hl => match us, hl with | [_, _], _ => rfl
  have F10 := fun_mk (st := sTop) lk10 co10 ke10
  have b_10 := F10.binds (ps := ["value"]) fun _ _ _ _ _ _ us hl => match us, hl with | [_], _ => rfl
  have F11 := fun_mk (st := sMove) lk11 co11 ke11
  have b_11 := F11.binds (ps := ["sign", "value"]) fun _ _ _ _ _ _ us hl => match us, hl with | [_, _], _ => rfl
  have F12 := fun_mk (st := sDeed) lk12 co12 ke12
  have b_12 := F12.binds (ps := ["top", "deed", "symbol"]) fun _ _ _ _ _ _ us hl => match us, hl with | [_, _, _], _ => rfl
  have F13 := fun_mk (st := sState) lk13 co13 ke13
  have b_13 := F13.binds (ps := ["states", "value"]) fun _ _ _ _ _ _ us hl => match us, hl with | [_, _], _ => rfl
  have F14 := fun_mk (st := sRule) lk14 co14 ke14
  have b_14 := F14.binds (ps := ["letters", "states", "value"]) fun _ _ _ _ _ _ us hl => match us, hl with | [_, _, _], _ => rfl
  have F15 := fun_mk (st := sCheck) lk15 co15 ke15
  have b_15 := F15.binds (ps := ["letters", "states", "rules", "yes"]) fun _ _ _ _ _ _ us hl => match us, hl with | [_, _, _, _], _ => rfl
  have F16 := fun_mk (st := sSymbols) lk16 co16 ke16
  have b_16 := F16.binds (ps := ["rules"]) fun _ _ _ _ _ _ us hl => match us, hl with | [_], _ => rfl
  have F17 := fun_mk (st := sActs) lk17 co17 ke17
  have b_17 := F17.binds (ps := ["rules"]) fun _ _ _ _ _ _ us hl => match us, hl with | [_], _ => rfl
  have F18 := fun_mk (st := sGuess) lk18 co18 ke18
  have b_18 := F18.binds (ps := ["acts"]) fun _ _ _ _ _ _ us hl => match us, hl with | [_], _ => rfl
  have F19 := fun_mk (st := sByState) lk19 co19 ke19
  have b_19 := F19.binds (ps := ["machine"]) fun _ _ _ _ _ _ us hl => match us, hl with | [_], _ => rfl
  have F20 := fun_mk (st := sLook) lk20 co20 ke20
  have b_20 := F20.binds (ps := ["rules", "classes"]) fun _ _ _ _ _ _ us hl => match us, hl with | [_, _], _ => rfl
  have F21 := fun_mk (st := sLike) lk21 co21 ke21
  have b_21 := F21.binds (ps := ["machine", "classes"]) fun _ _ _ _ _ _ us hl => match us, hl with | [_, _], _ => rfl
  have F22 := fun_mk (st := sWhole) lk22 co22 ke22
  have b_22 := F22.binds (ps := ["value"]) fun _ _ _ _ _ _ us hl => match us, hl with | [_], _ => rfl
  have F23 := fun_mk (st := sSame) lk23 co23 ke23
  have b_23 := F23.binds (ps := ["told", "due"]) fun _ _ _ _ _ _ us hl => match us, hl with | [_, _], _ => rfl
  have F24 := fun_mk (st := sCell) lk24 co24 ke24
  have b_24 := F24.binds (ps := ["script", "k"]) fun _ _ _ _ _ _ us hl => match us, hl with | [_, _], _ => rfl
  have F25 := fun_mk (st := sDigits) lk25 co25 ke25
  have b_25 := F25.binds (ps := ["cell", "sizes"]) fun _ _ _ _ _ _ us hl => match us, hl with | [_, _], _ => rfl
  have F26 := fun_mk (st := sAlpha) lk26 co26 ke26
  have b_26 := F26.binds (ps := ["row"]) fun _ _ _ _ _ _ us hl => match us, hl with | [_], _ => rfl
  have F27 := fun_mk (st := sSyms) lk27 co27 ke27
  have b_27 := F27.binds (ps := ["digit"]) fun _ _ _ _ _ _ us hl => match us, hl with | [_], _ => rfl
  have F28 := fun_mk (st := sAct) lk28 co28 ke28
  have b_28 := F28.binds (ps := ["row", "states", "symbols", "sign", "top"]) fun _ _ _ _ _ _ us hl => match us, hl with | [_, _, _, _, _], _ => rfl
  have F29 := fun_mk (st := sCaller) lk29 co29 ke29
  have b_29 := F29.binds (ps := ["letters", "one", "two", "modes"]) fun _ _ _ _ _ _ us hl => match us, hl with | [_, _, _, _], _ => rfl
  have F30 := fun_mk (st := sScanner) lk30 co30 ke30
  have b_30 := F30.binds (ps := ["letters", "one", "two"]) fun _ _ _ _ _ _ us hl => match us, hl with | [_, _, _], _ => rfl
  have F31 := fun_mk (st := sRestorer) lk31 co31 ke31
  have b_31 := F31.binds (ps := ["letters", "one", "two"]) fun _ _ _ _ _ _ us hl => match us, hl with | [_, _, _], _ => rfl
  have F32 := fun_mk (st := sClimber) lk32 co32 ke32
  have b_32 := F32.binds (ps := ["letters", "one", "two"]) fun _ _ _ _ _ _ us hl => match us, hl with | [_, _, _], _ => rfl
  have F33 := fun_mk (st := sMachine) lk33 co33 ke33
  have b_33 := F33.binds (ps := ["script", "at"]) fun _ _ _ _ _ _ us hl => match us, hl with | [_, _], _ => rfl
  have F34 := fun_mk (st := sAscend) lk34 co34 ke34
  have b_34 := F34.binds (ps := ["row"]) fun _ _ _ _ _ _ us hl => match us, hl with | [_], _ => rfl
  have F35 := fun_mk (st := sFound) lk35 co35 ke35
  have b_35 := F35.binds (ps := ["rules"]) fun _ _ _ _ _ _ us hl => match us, hl with | [_], _ => rfl
  have F36 := fun_mk (st := sGuessL) lk36 co36 ke36
  have b_36 := F36.binds (ps := ["due"]) fun _ _ _ _ _ _ us hl => match us, hl with | [_], _ => rfl
  have F37 := fun_mk (st := sIs) lk37 co37 ke37
  have b_37 := F37.binds (ps := ["made", "letters", "states", "rules", "yes"]) fun _ _ _ _ _ _ us hl => match us, hl with | [_, _, _, _, _], _ => rfl
  have F38 := fun_mk (st := sHand) lk38 co38 ke38
  have b_38 := F38.binds (ps := ["machine", "shape"]) fun _ _ _ _ _ _ us hl => match us, hl with | [_, _], _ => rfl
  have F39 := fun_mk (st := sSmall) lk39 co39 ke39
  have b_39 := F39.binds (ps := ["digit", "machine"]) fun _ _ _ _ _ _ us hl => match us, hl with | [_, _], _ => rfl
  have F40 := fun_mk (st := sMore) lk40 co40 ke40
  have b_40 := F40.binds (ps := ["script", "at", "machine"]) fun _ _ _ _ _ _ us hl => match us, hl with | [_, _, _], _ => rfl
  have F41 := fun_mk (st := sCopies) lk41 co41 ke41
  have b_41 := F41.binds (ps := ["script", "at", "machine"]) fun _ _ _ _ _ _ us hl => match us, hl with | [_, _, _], _ => rfl
  have F42 := fun_mk (st := sRing) lk42 co42 ke42
  have b_42 := F42.binds (ps := ["script", "at", "letters"]) fun _ _ _ _ _ _ us hl => match us, hl with | [_, _, _], _ => rfl
  have F43 := fun_mk (st := sDoes) lk43 co43 ke43
  have b_43 := F43.binds (ps := ["states", "rules", "classes"]) fun _ _ _ _ _ _ us hl => match us, hl with | [_, _, _], _ => rfl
  have F44 := fun_mk (st := sJudge) lk44 co44 ke44
  have b_44 := F44.binds (ps := ["machine", "classes"]) fun _ _ _ _ _ _ us hl => match us, hl with | [_, _], _ => rfl
  have F45 := fun_mk (st := sCoarse) lk45 co45 ke45
  have b_45 := F45.binds (ps := ["machine"]) fun _ _ _ _ _ _ us hl => match us, hl with | [_], _ => rfl
  have F46 := fun_mk (st := sTries) lk46 co46 ke46
  have b_46 := F46.binds (ps := ["script", "at", "owners", "yes", "coarse"]) fun _ _ _ _ _ _ us hl => match us, hl with | [_, _, _, _, _], _ => rfl
  have FL := fun_mk (st := sLaw) lkL coL keL
  refine ⟨PySem.W.fnOf "law" "law" (defArgs sLaw) (defBody sLaw) (defScope sLaw) .none kVL dcL pmL anL cdL ctL, fun s v => .of_eq rfl, fun base _ _ => ?_⟩
  have g_is_integer : Got l.prog w K mg base "is_integer" 1 ["value"] spInteger := ⟨_, _, ok_integer F1 T, ke1, b_1, m na1⟩
  have g_is_between : Got l.prog w K mg base "is_between" 2 ["value", "least", "most"] spBetween := ⟨_, _, ok_between F2 g_is_integer, ke2, b_2, m na2⟩
  have g_is_sequence : Got l.prog w K mg base "is_sequence" 1 ["value"] (spSequence K) := ⟨_, _, ok_sequence F3 T, ke3, b_3, m na3⟩
  have g_is_row : Got l.prog w K mg base "is_row" 2 ["value", "length"] (spRow K) := ⟨_, _, ok_row F4 T g_is_sequence, ke4, b_4, m na4⟩
  have g_are_letters : Got l.prog w K mg base "are_letters" 1 ["value", "most"] spLetters := ⟨_, _, ok_letters F5 T, ke5, b_5, m na5⟩
  have g_is_alphabet : Got l.prog w K mg base "is_alphabet" 2 ["value"] spAlphabet := ⟨_, _, ok_alphabet F6 T g_are_letters, ke6, b_6, m na6⟩
  have g_is_symbol_mark : Got l.prog w K mg base "is_symbol_mark" 1 ["mark"] spMark := ⟨_, _, ok_mark F7, ke7, b_7, m na7⟩
  have g_is_symbol : Got l.prog w K mg base "is_symbol" 2 ["value"] spSymbol := ⟨_, _, ok_symbol F8 T g_is_symbol_mark, ke8, b_8, m na8⟩
  have g_is_sign : Got l.prog w K mg base "is_sign" 1 ["letters", "value"] spSign := ⟨_, _, ok_sign F9 T, ke9, b_9, m na9⟩
  have g_is_top : Got l.prog w K mg base "is_top" 3 ["value"] spTop := ⟨_, _, ok_top F10 T g_is_symbol, ke10, b_10, m na10⟩
  have g_is_move : Got l.prog w K mg base "is_move" 3 ["sign", "value"] spMove := ⟨_, _, ok_move F11 g_is_between, ke11, b_11, m na11⟩
  have g_is_deed : Got l.prog w K mg base "is_deed" 3 ["top", "deed", "symbol"] spDeed := ⟨_, _, ok_deed F12 T D g_is_symbol, ke12, b_12, m na12⟩
  have g_is_state : Got l.prog w K mg base "is_state" 3 ["states", "value"] spState := ⟨_, _, ok_state F13 g_is_between, ke13, b_13, m na13⟩
  have g_is_rule : Got l.prog w K mg base "is_rule" 4 ["letters", "states", "value"] (spRule K) := ⟨_, _, ok_rule F14 ⟨g_is_row, g_is_state, g_is_sign, g_is_top, g_is_move, g_is_deed, g_are_letters⟩, ke14, b_14, m na14⟩
  have g_check_arguments : Got l.prog w K mg base "check_arguments" 5 ["letters", "states", "rules", "yes"] (spCheck K) := ⟨_, _, ok_check F15 T ⟨g_is_alphabet, g_is_between, g_is_sequence, g_is_rule, g_is_state, ⟨_, m mS⟩, ⟨_, m mR⟩⟩, ke15, b_15, m na15⟩
  have g_symbols_of : Got l.prog w K mg base "symbols_of" 1 ["rules"] (spSymbols K) := ⟨_, _, ok_symbols F16 T, ke16, b_16, m na16⟩
  have g_acts_by_key : Got l.prog w K mg base "acts_by_key" 1 ["rules"] (spActs K) := ⟨_, _, ok_acts F17 T, ke17, b_17, m na17⟩
  have g_first_guess : Got l.prog w K mg base "first_guess" 1 ["acts"] spGuess := ⟨_, _, ok_guess F18 T, ke18, b_18, m na18⟩
  have MD : MDef l.prog w K mg base C fI e0 _ := ⟨MC, MM, m nC, ok_init FI T ⟨g_check_arguments, g_symbols_of, g_acts_by_key, g_first_guess⟩ MC, b4, ⟨ds3, v3, b3⟩, kb, fun H => .inr ⟨_, _, _, lE, rfl, rfl, (by show 0 ≤ sizeLine; decide), .nil⟩⟩
  have IC : C8.InsC K C := ⟨⟨c1, c2, c3, c4⟩, ic1, ic2, ic3, ic4, kit_selfC⟩
  have g_bs : Got l.prog w K mg base "rules_by_state" 1 ["machine"] (spByState K C) := ⟨_, _, ok_bystate F19 T MC, ke19, b_19, m na19⟩
  have g_look : Got l.prog w K mg base "look_of" 1 ["rules", "classes"] (spLook K) := ⟨_, _, ok_look F20 T, ke20, b_20, m na20⟩
  have g_like : Got l.prog w K mg base "is_likeness" 2 ["machine", "classes"] (spLike K C) := ⟨_, _, ok_like F21 T ⟨g_is_sequence, g_is_integer, g_bs, g_look⟩ MC, ke21, b_21, m na21⟩
  have g_same : Got l.prog w K mg base "_law_same" 5 ["told", "due"] (spSame K 3) := ⟨_, _, ok_same F23 T F22 b_22 (m na22) b_23 (m na23) 3, ke23, b_23, m na23⟩
  have g_cell : Got l.prog w K mg base "_law_cell" 1 ["script", "k"] (spCellA K) := ⟨_, _, ok_cell F24 T, ke24, b_24, m na24⟩
  have g_digits : Got l.prog w K mg base "_law_digits" 1 ["cell", "sizes"] (spDigits K) := ⟨_, _, ok_digits F25 T, ke25, b_25, m na25⟩
  have g_alpha : Got l.prog w K mg base "_law_alphabet" 1 ["row"] (spAlpha K) := ⟨_, _, ok_alpha F26, ke26, b_26, m na26⟩
  have g_syms : Got l.prog w K mg base "_law_symbols" 1 ["digit"] spSyms := ⟨_, _, ok_syms F27, ke27, b_27, m na27⟩
  have g_act : Got l.prog w K mg base "_law_act" 1 ["row", "states", "symbols", "sign", "top"] (spAct K) := ⟨_, _, ok_act F28 T, ke28, b_28, m na28⟩
  have g_caller : Got l.prog w K mg base "_law_caller" 1 ["letters", "one", "two", "modes"] (spCaller K) := ⟨_, _, ok_caller F29 T, ke29, b_29, m na29⟩
  have g_scanner : Got l.prog w K mg base "_law_scanner" 1 ["letters", "one", "two"] spSkel := ⟨_, _, ok_scanner F30 T, ke30, b_30, m na30⟩
  have g_restorer : Got l.prog w K mg base "_law_restorer" 1 ["letters", "one", "two"] spSkel5 := ⟨_, _, ok_restorer F31 T, ke31, b_31, m na31⟩
  have g_climber : Got l.prog w K mg base "_law_climber" 1 ["letters", "one", "two"] spSkel := ⟨_, _, ok_climber F32, ke32, b_32, m na32⟩
  have g_machine : Got l.prog w K mg base "_law_machine" 2 ["script", "at"] (spMach K) := ⟨_, _, ok_machine F33 T ⟨g_cell, g_digits, g_alpha, g_syms, g_act, g_caller, g_restorer, g_scanner, g_climber⟩, ke33, b_33, m na33⟩
  have g_ascT : Got l.prog w K mg base "_law_ascending" 1 ["row"] (spAscT K) := ⟨_, _, ok_ascT F34 T, ke34, b_34, m na34⟩
  have g_ascI : Got l.prog w K mg base "_law_ascending" 1 ["row"] (spAscI K) := ⟨_, _, ok_ascI F34 T, ke34, b_34, m na34⟩
  have g_ascS : Got l.prog w K mg base "_law_ascending" 1 ["row"] (spAscS K) := ⟨_, _, ok_ascS F34 T, ke34, b_34, m na34⟩
  have g_found : Got l.prog w K mg base "_law_found" 2 ["rules"] spFound := ⟨_, _, ok_found F35 T g_ascS, ke35, b_35, m na35⟩
  have g_lguess : Got l.prog w K mg base "_law_guess" 1 ["due"] spGuessL := ⟨_, _, ok_guessL F36 T, ke36, b_36, m na36⟩
  have g_lis : Got l.prog w K mg base "_law_is" 6 ["made", "letters", "states", "rules", "yes"] (spIs K C) := ⟨_, _, ok_is F37 T ⟨g_ascT, g_ascI, g_found, g_lguess, g_same⟩ MC IC (m nC), ke37, b_37, m na37⟩
  have g_hand : Got l.prog w K mg base "_law_hand" 8 ["machine", "shape"] (spHand K C) := ⟨_, _, ok_hand F38 T MD, ke38, b_38, m na38⟩
  have g_small : Got l.prog w K mg base "_law_small" 1 ["digit", "machine"] spSmall := ⟨_, _, ok_small F39 T, ke39, b_39, m na39⟩
  have g_more : Got l.prog w K mg base "_law_more" 2 ["script", "at", "machine"] (spMore K) := ⟨_, _, ok_more F40 T ⟨g_cell, g_digits, g_alpha, g_syms, g_act, g_caller, g_restorer, g_scanner, g_climber⟩, ke40, b_40, m na40⟩
  have g_copies : Got l.prog w K mg base "_law_copies" 2 ["script", "at", "machine"] (spCopies K) := ⟨_, _, ok_copies F41 T ⟨g_cell, g_digits, g_alpha, g_syms, g_act, g_caller, g_restorer, g_scanner, g_climber⟩, ke41, b_41, m na41⟩
  have g_ring : Got l.prog w K mg base "_law_ring" 2 ["script", "at", "letters"] (spRing K) := ⟨_, _, ok_ring F42 T ⟨g_cell, g_digits, g_alpha, g_syms, g_act, g_caller, g_restorer, g_scanner, g_climber⟩, ke42, b_42, m na42⟩
  have g_does : Got l.prog w K mg base "_law_does" 2 ["states", "rules", "classes"] (spDoes K) := ⟨_, _, ok_does F43 T g_ascT, ke43, b_43, m na43⟩
  have g_judge : Got l.prog w K mg base "_law_judge" 3 ["machine", "classes"] spJudge := ⟨_, _, ok_judge F44 T g_does, ke44, b_44, m na44⟩
  have g_coarse : Got l.prog w K mg base "_law_coarsest" 3 ["machine"] spCoarse := ⟨_, _, ok_coarse F45 T ⟨PySem.W.mg_none_of X G z_max⟩ g_does, ke45, b_45, m na45⟩
  have g_tries : Got l.prog w K mg base "_law_tries" 2 ["script", "at", "owners", "yes", "coarse"] (spTries K) := ⟨_, _, ok_tries F46 T ⟨g_cell, g_digits, g_alpha, g_syms, g_act, g_caller, g_restorer, g_scanner, g_climber⟩, ke46, b_46, m na46⟩
  exact ok_law FL T ⟨g_cell, g_digits, g_machine, g_small, g_more, g_copies, g_ring, g_hand, g_coarse, g_tries, g_judge, g_like, g_same, g_lis⟩
theorem walk {l : PySem.W.OpenLaw} {q : Program} {loose : List Str} {XP : (Str → Option Value) → Heap → Prop} {YP : World → Heap → Prop} {d : DefRec} {K : Params → PySem.W.Frag} (hn : l.most = some 63) (hdf : d.params.defaults = [])
    (hY : ∀ (w : World) (h : Heap), YP w h → (K w.params).In h)
    (F : ∀ (w : World) (mg : Str → Option Value) (fa : Addr) (h : Heap), (K w.params).In h → h.Ns mainGlobals mg → mg d.name = some (.ref fa) →
      ∃ fd : FuncData, (∀ (s : Shared) (u : Value), BindsTo s fd ⟨[u], []⟩ [("script", u)]) ∧ ∀ base : Heap, (K w.params).In base → base.Ns mainGlobals mg → FnOk l.prog w (K w.params) mg base CX0 9 fa fd ["script"] (spLaw (K w.params))) :
    PySem.W.WalkO q loose XP YP l.row.toRowW d [] (fun f vs => PySem.call f vs) :=
  L2.walk_of (n := 63) (k := 9) (x := "script") (CX := fun _ => CX0) (sp := fun w => spLaw (K w.params)) hn (by decide) hdf ⟨rfl, by decide, by decide⟩ hY F (fun _ _ a ns _ _ hS => ⟨a, ns, rfl, hS, fun _ => rfl⟩) fun _ _ _ _ _ z => z
end Mk

set_option Elab.async false
open PySem PySem.W PyProof.Rows
set_option maxRecDepth 100000 in
set_option maxHeartbeats 0 in
theorem PySem.Challenge.cw_pilerecall_k62_likeness_judge_whole_holds : PySem.Challenge.rw_pilerecall_k62_likeness_judge_whole.Holds := by
  w_on; o_law; k_head; (case hw => w_witness2)
  k_fill
  refine Mk.walk (l := PySem.Challenge.rw_pilerecall_k62_likeness_judge_whole) rfl rfl (fun w h Y => PySem.W.kIn_of Y) ?F
  case F =>
    intro w mg fa h KX G hmg
    refine' Mk.all_mk KX G hmg ?na1 ?lk1 ?co1 ?ke1 ?na2 ?lk2 ?co2 ?ke2 ?na3 ?lk3 ?co3 ?ke3 ?na4 ?lk4 ?co4 ?ke4 ?na5 ?lk5 ?co5 ?ke5 ?na6 ?lk6 ?co6 ?ke6 ?na7 ?lk7 ?co7 ?ke7 ?na8 ?lk8 ?co8 ?ke8 ?na9 ?lk9 ?co9 ?ke9 ?na10 ?lk10 ?co10 ?ke10 ?na11 ?lk11 ?co11 ?ke11 ?na12 ?lk12 ?co12 ?ke12 ?na13 ?lk13 ?co13 ?ke13 ?na14 ?lk14 ?co14 ?ke14 ?na15 ?lk15 ?co15 ?ke15 ?na16 ?lk16 ?co16 ?ke16 ?na17 ?lk17 ?co17 ?ke17 ?na18 ?lk18 ?co18 ?ke18 ?na19 ?lk19 ?co19 ?ke19 ?na20 ?lk20 ?co20 ?ke20 ?na21 ?lk21 ?co21 ?ke21 ?na22 ?lk22 ?co22 ?ke22 ?na23 ?lk23 ?co23 ?ke23 ?na24 ?lk24 ?co24 ?ke24 ?na25 ?lk25 ?co25 ?ke25 ?na26 ?lk26 ?co26 ?ke26 ?na27 ?lk27 ?co27 ?ke27 ?na28 ?lk28 ?co28 ?ke28 ?na29 ?lk29 ?co29 ?ke29 ?na30 ?lk30 ?co30 ?ke30 ?na31 ?lk31 ?co31 ?ke31 ?na32 ?lk32 ?co32 ?ke32 ?na33 ?lk33 ?co33 ?ke33 ?na34 ?lk34 ?co34 ?ke34 ?na35 ?lk35 ?co35 ?ke35 ?na36 ?lk36 ?co36 ?ke36 ?na37 ?lk37 ?co37 ?ke37 ?na38 ?lk38 ?co38 ?ke38 ?na39 ?lk39 ?co39 ?ke39 ?na40 ?lk40 ?co40 ?ke40 ?na41 ?lk41 ?co41 ?ke41 ?na42 ?lk42 ?co42 ?ke42 ?na43 ?lk43 ?co43 ?ke43 ?na44 ?lk44 ?co44 ?ke44 ?na45 ?lk45 ?co45 ?ke45 ?na46 ?lk46 ?co46 ?ke46 ?naL ?lkL ?coL ?keL ?nC ?c1 ?c2 ?c3 ?c4 ?no0 ?no1 ?no2 ?no3 ?no4 ?no5 ?no6 ?mk1 ?mk2 ?mk3 ?mk4 ?lI ?cI ?kI ?lT ?lE ?nDD ?lD ?mS ?mR ?z_isinstance ?z_int ?z_bool ?z_str ?z_tuple ?z_list ?z_len ?z_range ?z_all ?z_sorted ?z_set ?z_abs ?z_max ?ic1 ?ic2 ?ic3 ?ic4
    (case na1 => k_is)
    (case lk1 => k_is)
    (case co1 => k_is)
    (case ke1 => k_is)
    (case na2 => k_is)
    (case lk2 => k_is)
    (case co2 => k_is)
    (case ke2 => k_is)
    (case na3 => k_is)
    (case lk3 => k_is)
    (case co3 => k_is)
    (case ke3 => k_is)
    (case na4 => k_is)
    (case lk4 => k_is)
    (case co4 => k_is)
    (case ke4 => k_is)
    (case na5 => k_is)
    (case lk5 => k_is)
    (case co5 => k_is)
    (case ke5 => k_is)
    (case na6 => k_is)
    (case lk6 => k_is)
    (case co6 => k_is)
    (case ke6 => k_is)
    (case na7 => k_is)
    (case lk7 => k_is)
    (case co7 => k_is)
    (case ke7 => k_is)
    (case na8 => k_is)
    (case lk8 => k_is)
    (case co8 => k_is)
    (case ke8 => k_is)
    (case na9 => k_is)
    (case lk9 => k_is)
    (case co9 => k_is)
    (case ke9 => k_is)
    (case na10 => k_is)
    (case lk10 => k_is)
    (case co10 => k_is)
    (case ke10 => k_is)
    (case na11 => k_is)
    (case lk11 => k_is)
    (case co11 => k_is)
    (case ke11 => k_is)
    (case na12 => k_is)
    (case lk12 => k_is)
    (case co12 => k_is)
    (case ke12 => k_is)
    (case na13 => k_is)
    (case lk13 => k_is)
    (case co13 => k_is)
    (case ke13 => k_is)
    (case na14 => k_is)
    (case lk14 => k_is)
    (case co14 => k_is)
    (case ke14 => k_is)
    (case na15 => k_is)
    (case lk15 => k_is)
    (case co15 => k_is)
    (case ke15 => k_is)
    (case na16 => k_is)
    (case lk16 => k_is)
    (case co16 => k_is)
    (case ke16 => k_is)
    (case na17 => k_is)
    (case lk17 => k_is)
    (case co17 => k_is)
    (case ke17 => k_is)
    (case na18 => k_is)
    (case lk18 => k_is)
    (case co18 => k_is)
    (case ke18 => k_is)
    (case na19 => k_is)
    (case lk19 => k_is)
    (case co19 => k_is)
    (case ke19 => k_is)
    (case na20 => k_is)
    (case lk20 => k_is)
    (case co20 => k_is)
    (case ke20 => k_is)
    (case na21 => k_is)
    (case lk21 => k_is)
    (case co21 => k_is)
    (case ke21 => k_is)
    (case na22 => k_is)
    (case lk22 => k_is)
    (case co22 => k_is)
    (case ke22 => k_is)
    (case na23 => k_is)
    (case lk23 => k_is)
    (case co23 => k_is)
    (case ke23 => k_is)
    (case na24 => k_is)
    (case lk24 => k_is)
    (case co24 => k_is)
    (case ke24 => k_is)
    (case na25 => k_is)
    (case lk25 => k_is)
    (case co25 => k_is)
    (case ke25 => k_is)
    (case na26 => k_is)
    (case lk26 => k_is)
    (case co26 => k_is)
    (case ke26 => k_is)
    (case na27 => k_is)
    (case lk27 => k_is)
    (case co27 => k_is)
    (case ke27 => k_is)
    (case na28 => k_is)
    (case lk28 => k_is)
    (case co28 => k_is)
    (case ke28 => k_is)
    (case na29 => k_is)
    (case lk29 => k_is)
    (case co29 => k_is)
    (case ke29 => k_is)
    (case na30 => k_is)
    (case lk30 => k_is)
    (case co30 => k_is)
    (case ke30 => k_is)
    (case na31 => k_is)
    (case lk31 => k_is)
    (case co31 => k_is)
    (case ke31 => k_is)
    (case na32 => k_is)
    (case lk32 => k_is)
    (case co32 => k_is)
    (case ke32 => k_is)
    (case na33 => k_is)
    (case lk33 => k_is)
    (case co33 => k_is)
    (case ke33 => k_is)
    (case na34 => k_is)
    (case lk34 => k_is)
    (case co34 => k_is)
    (case ke34 => k_is)
    (case na35 => k_is)
    (case lk35 => k_is)
    (case co35 => k_is)
    (case ke35 => k_is)
    (case na36 => k_is)
    (case lk36 => k_is)
    (case co36 => k_is)
    (case ke36 => k_is)
    (case na37 => k_is)
    (case lk37 => k_is)
    (case co37 => k_is)
    (case ke37 => k_is)
    (case na38 => k_is)
    (case lk38 => k_is)
    (case co38 => k_is)
    (case ke38 => k_is)
    (case na39 => k_is)
    (case lk39 => k_is)
    (case co39 => k_is)
    (case ke39 => k_is)
    (case na40 => k_is)
    (case lk40 => k_is)
    (case co40 => k_is)
    (case ke40 => k_is)
    (case na41 => k_is)
    (case lk41 => k_is)
    (case co41 => k_is)
    (case ke41 => k_is)
    (case na42 => k_is)
    (case lk42 => k_is)
    (case co42 => k_is)
    (case ke42 => k_is)
    (case na43 => k_is)
    (case lk43 => k_is)
    (case co43 => k_is)
    (case ke43 => k_is)
    (case na44 => k_is)
    (case lk44 => k_is)
    (case co44 => k_is)
    (case ke44 => k_is)
    (case na45 => k_is)
    (case lk45 => k_is)
    (case co45 => k_is)
    (case ke45 => k_is)
    (case na46 => k_is)
    (case lk46 => k_is)
    (case co46 => k_is)
    (case ke46 => k_is)
    (case naL => k_is)
    (case lkL => k_is)
    (case coL => k_is)
    (case keL => k_is)
    (case nC => k_is)
    (case c1 => k_is)
    (case c2 => k_is)
    (case c3 => k_is)
    (case c4 => k_is)
    (case no0 => k_is)
    (case no1 => k_is)
    (case no2 => k_is)
    (case no3 => k_is)
    (case no4 => k_is)
    (case no5 => k_is)
    (case no6 => k_is)
    (case mk1 => k_is)
    (case mk2 => k_is)
    (case mk3 => k_is)
    (case mk4 => k_is)
    (case lI => k_is)
    (case cI => k_is)
    (case kI => k_is)
    (case lT => k_is)
    (case lE => k_is)
    (case nDD => k_is)
    (case lD => k_is)
    (case mS => k_is)
    (case mR => k_is)
    (case z_isinstance => k_is)
    (case z_int => k_is)
    (case z_bool => k_is)
    (case z_str => k_is)
    (case z_tuple => k_is)
    (case z_list => k_is)
    (case z_len => k_is)
    (case z_range => k_is)
    (case z_all => k_is)
    (case z_sorted => k_is)
    (case z_set => k_is)
    (case z_abs => k_is)
    (case z_max => k_is)
    (case ic1 => k_is)
    (case ic2 => k_is)
    (case ic3 => k_is)
    (case ic4 => k_is)

