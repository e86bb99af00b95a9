import PyProof.Rows.All
import Wide.All
import OpenK.AllK
import Wide.FinOn
import HandS.ForMost
import HandS.Wide
import HandS.EndBits
import HandS.IsInst
import HandS.Conv
import HandS.Defaults
import HandS.Walk
import HandS.Steps
import HandS.ForExc
import HandS.TupSets
import HandS.SetBool
import HandS.Dict
import HandS.SortOrd
import HandS.SortRule
import HandS.SetKeys
import HandS.DictComp
import PyProof.DictMoreH
import HandS.SetFor
import HandS.SortInts
import HandS.Strs
import HandS.Codes
import HandS.MakeKw
import HandS.OwnEq
import HandS.Deep
import PySem.Challenge.RW_pilerecall_k17_bills_ahead
set_option Elab.async false
set_option maxRecDepth 100000
set_option maxHeartbeats 4000000
namespace Pk
open PySem L2

/-! deep data in the heap -/
theorem Same.tup {K : PySem.W.Frag} {H H' : Hp} {a : Addr} {xs : List V} (e : Same H H') (h : SqT K H a xs) : SqT K H' a xs := by
  rcases h with (h | ⟨o, h⟩) | h
  · exact .inl (.inl (e _ _ h))
  · exact .inl (.inr ⟨o, e _ _ h⟩)
  · exact .inr h
mutual
theorem dp_mono {K : PySem.W.Frag} {H H' : Hp} (e : Same H H') : ∀ (d : PyData) (v : V), Dp K H v d → Dp K H' v d
  | .none, _, h => by cases h; exact .non
  | .bool _, _, h => by cases h; exact .bl _
  | .int _, _, h => by cases h; exact .int _
  | .str _, _, h => by cases h; exact .str _
  | .list ds, _, h => by
    cases h with
    | lst hs ha => exact .lst (e.seq hs) (dpa_mono e ds _ ha)
  | .tuple ds, _, h => by
    cases h with
    | tup hs ha => exact .tup (Same.tup e hs) (dpa_mono e ds _ ha)
  | .dict _, _, h => by cases h
theorem dpa_mono {K : PySem.W.Frag} {H H' : Hp} (e : Same H H') : ∀ (ds : List PyData) (vs : List V), DpAll K H vs ds → DpAll K H' vs ds
  | [], _, h => by cases h; exact .nil
  | d :: ds, _, h => by
    cases h with
    | cons h1 h2 => exact .cons (dp_mono e d _ h1) (dpa_mono e ds _ h2)
end
theorem dpa_len {K : PySem.W.Frag} {H : Hp} : ∀ {ds : List PyData} {vs : List V}, DpAll K H vs ds → vs.length = ds.length
  | [], _, h => by cases h; rfl
  | _ :: _, _, h => by
    cases h with
    | cons _ h2 => rw [List.length_cons, List.length_cons, dpa_len h2]
theorem dpa_get {K : PySem.W.Frag} {H : Hp} : ∀ {ds : List PyData} {vs : List V} {i : Nat} {v : V}, DpAll K H vs ds → vs[i]? = some v → ∃ d, ds[i]? = some d ∧ Dp K H v d
  | [], _, i, v, h, e => by cases h; simp at e
  | d :: ds, _, 0, v, h, e => by
    cases h with
    | cons h1 h2 => simp at e; subst e; exact ⟨d, rfl, h1⟩
  | d :: ds, _, i + 1, v, h, e => by
    cases h with
    | cons h1 h2 =>
      obtain ⟨x, e1, e2⟩ := dpa_get (i := i) (v := v) h2 (by simpa using e)
      exact ⟨x, by simpa using e1, e2⟩
theorem dpa_append {K : PySem.W.Frag} {H : Hp} : ∀ {ds es : List PyData} {vs us : List V}, DpAll K H vs ds → DpAll K H us es → DpAll K H (vs ++ us) (ds ++ es)
  | [], _, _, _, h, g => by cases h; exact g
  | _ :: _, _, _, _, h, g => by
    cases h with
    | cons h1 h2 => exact .cons h1 (dpa_append h2 g)
theorem same_new {H : Hp} {p : Addr} {o : HO} (h : H p = none) : Same H (upd H p o) := fun b u e => by
  rw [upd_ne (ne_of_none e h)]
  exact e
/-- what H0 did not know may change -/
theorem same_mut {H0 H : Hp} {p : Addr} {o : HO} (e : Same H0 H) (h : H0 p = none) : Same H0 (upd H p o) := fun b u q => by
  rw [upd_ne (ne_of_none q h)]
  exact e b u q
/-- the heap without what stands at q -/
def hide (q : Addr) (H : Hp) : Hp := fun b => if b = q then none else H b
theorem hide_ne {q b : Addr} {H : Hp} (h : b ≠ q) : hide q H b = H b := if_neg h
theorem hide_same {q : Addr} {H : Hp} : hide q H q = none := if_pos rfl
theorem hide_le {q : Addr} {H : Hp} : Same (hide q H) H := fun b o e => by
  by_cases h : b = q
  · rw [h, hide_same] at e
    cases e
  · rw [hide_ne h] at e
    exact e
theorem hide_upd {q : Addr} {H : Hp} {o : HO} : hide q (upd H q o) = hide q H := by
  funext b
  by_cases h : b = q
  · rw [h, hide_same, hide_same]
  · rw [hide_ne h, hide_ne h, upd_ne h]
theorem hide_new {q r : Addr} {H : Hp} {o : HO} (h : r ≠ q) : hide q (upd H r o) = upd (hide q H) r o := by
  funext b
  by_cases e : b = q
  · rw [e, hide_same, upd_ne h.symm, hide_same]
  · rw [hide_ne e]
    by_cases e2 : b = r
    · rw [e2, upd_same, upd_same]
    · rw [upd_ne e2, upd_ne e2, hide_ne e]
theorem hide_base {q : Addr} {H0 H : Hp} (e : Same H0 H) (h : H0 q = none) : Same H0 (hide q H) := fun b o z => by
  rw [hide_ne (ne_of_none z h)]
  exact e b o z
theorem hide_mono {q : Addr} {H H' : Hp} (e : Same H H') : Same (hide q H) (hide q H') := fun b o z => by
  by_cases h : b = q
  · rw [h, hide_same] at z
    cases z
  · rw [hide_ne h] at z ⊢
    exact e b o z
theorem hide_none {q r : Addr} {H : Hp} (h : H r = none) : hide q H r = none := by
  by_cases e : r = q
  · rw [e, hide_same]
  · rw [hide_ne e, h]
/-- of H' what H did not know -/
def newOnly (H H' : Hp) : Hp := fun b => match H b with
  | none => H' b
  | some _ => none
theorem newOnly_at {H H' : Hp} {a : Addr} {o : HO} (h : H a = none) (e : H' a = some o) : newOnly H H' a = some o := by
  unfold newOnly
  rw [h]
  exact e
theorem newOnly_hide {H H' : Hp} {q : Addr} {o : HO} (h : H q = some o) : Same (newOnly H H') (hide q H') := fun b u e => by
  unfold newOnly at e
  cases z : H b with
  | none =>
    rw [z] at e
    rw [hide_ne (ne_of_none h z).symm]
    exact e
  | some y =>
    rw [z] at e
    cases e
theorem mapInt {ns : List Int} {i : Nat} {v : V} (h : (ns.map V.int)[i]? = some v) : ∃ z, ns[i]? = some z ∧ v = V.int z := by
  rw [List.getElem?_map] at h
  cases e : ns[i]? with
  | none => rw [e] at h; cases h
  | some z => rw [e] at h; exact ⟨z, rfl, (Option.some.inj h).symm⟩

/-- the built-in names that are used -/
structure TB (mg : Str → Option Value) : Prop where
  isi : mg "isinstance" = none
  int : mg "int" = none
  bool : mg "bool" = none
  str : mg "str" = none
  tuple : mg "tuple" = none
  list : mg "list" = none
  len : mg "len" = none
  range : mg "range" = none
  sum : mg "sum" = none
  abs : mg "abs" = none

theorem lt_pow_natAbs {i : Int} {n : Nat} (h : i.natAbs < 2 ^ n) : -(2 ^ n : Int) < i ∧ i < (2 ^ n : Int) := by
  have e : ((2 ^ n : Nat) : Int) = (2 : Int) ^ n := by simp
  omega
end Pk

set_option Elab.async false
set_option maxRecDepth 100000
set_option maxHeartbeats 4000000
namespace Mk
open PySem L2 Pk
def top (i : Nat) : Stmt := PySem.Challenge.pw_pilerecall_k17_bills_ahead.main.body.getD i (.Pass ⟨0, 0, 0, 0⟩)
abbrev sInteger : Stmt := top 14
abbrev sBetween : Stmt := top 15
abbrev sSequence : Stmt := top 16
abbrev sRow : Stmt := top 17
abbrev sLetters : Stmt := top 18
abbrev sAlphabet : Stmt := top 19
abbrev sMark : Stmt := top 20
abbrev sSymbol : Stmt := top 21
abbrev sSign : Stmt := top 22
abbrev sTop : Stmt := top 23
abbrev sMove : Stmt := top 24
abbrev sDeed : Stmt := top 25
abbrev sState : Stmt := top 26
abbrev sRule : Stmt := top 27
/-- the built-in names -/
structure TM (mg : PySem.Str → Option Value) : Prop where
  isi : mg "isinstance" = none
  int : mg "int" = none
  bool : mg "bool" = none
  str : mg "str" = none
  tuple : mg "tuple" = none
  list : mg "list" = none
  len : mg "len" = none
  range : mg "range" = none
  all : mg "all" = none
  sorted : mg "sorted" = none
  set : mg "set" = none
  abs : mg "abs" = none
/-- a list or a tuple, by a bit -/
def SqB (b : Bool) (K : PySem.W.Frag) (H : Hp) (a : Addr) (xs : List V) : Prop := match b with
  | true => SqL K H a xs
  | false => SqT K H a xs
theorem SqB.any {b : Bool} {K : PySem.W.Frag} {H : Hp} {a : Addr} {xs : List V} (h : SqB b K H a xs) : SqL K H a xs ∨ SqT K H a xs := by
  cases b
  · exact .inr h
  · exact .inl h
theorem SqB.mono {b : Bool} {K : PySem.W.Frag} {H H' : Hp} {a : Addr} {xs : List V} (e : Same H H') (h : SqB b K H a xs) : SqB b K H' a xs := by
  cases b
  · exact Same.tup e h
  · exact e.seq h
def sqTy (b : Bool) : String := if b = true then "list" else "tuple"
theorem tyx_sq {b : Bool} {K : PySem.W.Frag} {H : Hp} {a : Addr} {xs : List V} (h : SqB b K H a xs) : TyX K H (.ref a) (.type (sqTy b)) := by
  cases b with
  | false =>
    rcases (show SqT K H a xs from h) with (h | ⟨o, h⟩) | ⟨o, its, n, h, hc, _⟩
    · exact .base (.tup h)
    · exact .fTuple h
    · exact .kTuple h hc
  | true =>
    rcases (show SqL K H a xs from h) with (h | ⟨o, h⟩) | ⟨o, its, n, h, hc, _⟩
    · exact .base (.lst h)
    · exact .base (.frz h)
    · exact .kList h hc
section
variable {P : Program} {w : World} {K : PySem.W.Frag} {mg : PySem.Str → Option Value} {base : Heap}
/-- the def x stands, is reached by its name, and keeps sp -/
def Got (P : Program) (w : World) (K : PySem.W.Frag) (mg : PySem.Str → Option Value) (base : Heap) (x : PySem.Str) (k : Nat) (ps : List PySem.Str) (sp : Sp) : Prop :=
  ∃ f fd, FnOk P w K mg base CX0 k f fd ps sp ∧ PySem.W.keepIn K (.ref f) = true ∧ Binds K fd ps [] ∧ mg x = some (.ref f)
theorem pe_got {X : Cx} {x : PySem.Str} {k : Nat} {ps : List PySem.Str} {sp : Sp} {p pos : Pos} {e : Expr} {es : List Expr} {t : TA} (h : Got X.prog X.w X.K X.mg X.base x k ps sp) (hr : Room k X.A) (hg : Gl X x) (ha : PA X (e :: es) t)
    (hdb : (x == ("__debug__" : PySem.Str)) = false := by decide) (he : starEach (e :: es) X.env = (false, eval e X.env) :: starEach es X.env := by rfl) (hpl : (backTo pos (starEach es X.env)).any (·.1) = false := by rfl) :
    PE X (.Call (.Name x p) (e :: es) [] pos) (tCall sp [] E0 t) := by
  obtain ⟨f, fd, G, kp, b, g⟩ := h
  exact pe_call G hr hg g kp b .nil pass0 ha hdb he hpl
/-! is_integer, is_between -/
def spInteger : Sp := fun vs H Q _ => ∃ n : Int, vs = [.int n] ∧ Q (.bl true) H
theorem scInteger : FnScope ["value"] ["value"] (defScope sInteger) := ⟨rfl, rfl, rfl, by decide +kernel, rfl, by decide +kernel, by decide +kernel⟩
theorem ok_integer {f : Addr} {fd : FuncData} (F : Fun K "is_integer" "is_integer" sInteger f fd) (T : TM mg) : FnOk P w K mg base CX0 1 f fd ["value"] spInteger := by
  refine F.ok scInteger (fun vs H Q E h => ?_) (fun cdv A outer s H vs Q E hr h => ?_)
  · obtain ⟨n, rfl, _⟩ := h
    rfl
  · obtain ⟨n, rfl, k⟩ := h
    refine ⟨_, pss_one (ps_ret (pe_and (pe_callB call_isi (by rfl) T.isi (by decide +kernel) (pa_cons (pv 0) (pa_cons (pe_bltn (v := .ty "int") (by rfl) T.int PyProof.Rows.Boot.int rfl) pa_nil)))
      (pe_one (pe_not (pe_callB call_isi (by rfl) T.isi (by decide +kernel) (pa_cons (pv 0) (pa_cons (pe_bltn (v := .ty "bool") (by rfl) T.bool PyProof.Rows.Boot.bool rfl) pa_nil))))))), ?_⟩
    refine ⟨_, rfl, _, _, _, _, true, rfl, .ty _, .base (.int _), kit_ty (by decide +kernel), _, rfl, ?_⟩
    refine iteT ?_
    exact ⟨_, rfl, _, _, _, _, false, rfl, .ty _, .base (.int _), kit_ty (by decide +kernel), _, rfl, k⟩
def spBetween : Sp := fun vs H Q _ => ∃ n lo hi : Int, vs = [.int n, .int lo, .int hi] ∧ Q (.bl (decide (lo ≤ n) && decide (n ≤ hi))) H
theorem scBetween : FnScope ["value", "least", "most"] ["value", "least", "most"] (defScope sBetween) := ⟨rfl, rfl, rfl, by decide +kernel, rfl, by decide +kernel, by decide +kernel⟩
theorem ok_between {f : Addr} {fd : FuncData} (F : Fun K "is_between" "is_between" sBetween f fd) (G : Got P w K mg base "is_integer" 1 ["value"] spInteger) : FnOk P w K mg base CX0 2 f fd ["value", "least", "most"] spBetween := by
  refine F.ok scBetween (fun vs H Q E h => ?_) (fun cdv A outer s H vs Q E hr h => ?_)
  · obtain ⟨n, lo, hi, rfl, _⟩ := h
    rfl
  · obtain ⟨n, lo, hi, rfl, k⟩ := h
    refine ⟨_, pss_one (ps_ret (pe_and (pe_got G hr (by rfl) (pa_cons (pv 0) pa_nil)) (pe_one (pe_chain op_le op_le (pv 1) (pv 0) (pv 2))))), ?_⟩
    refine ⟨_, rfl, n, rfl, _, rfl, ?_⟩
    refine iteT ?_
    refine ⟨_, rfl, _, rfl, _, _, rfl, rfl, _, rfl, ?_⟩
    refine ite2 (fun c => ?_) (fun c => ?_)
    · refine ⟨_, rfl, _, _, rfl, rfl, ?_⟩
      rw [c] at k
      exact k
    · rw [Bool.eq_false_iff.mpr c] at k
      exact k
/-! is_sequence, is_row -/
def spSequence (K : PySem.W.Frag) : Sp := fun vs H Q _ => ∃ (a : Addr) (b : Bool) (xs : List V), vs = [.ref a] ∧ SqB b K H a xs ∧ ∀ H', Same H H' → Q (.bl true) H'
theorem scSequence : FnScope ["value"] ["value"] (defScope sSequence) := ⟨rfl, rfl, rfl, by decide +kernel, rfl, by decide +kernel, by decide +kernel⟩
theorem kit_seq {K : PySem.W.Frag} (b : Bool) : PySem.W.kitAny K (.type (sqTy b)) [.type "list", .type "tuple"] = some true := by
  cases b
  · exact kitAny_cons (b := false) (kit_ty (by decide +kernel)) (fun _ => kitAny_cons (b := true) (kit_ty (by decide +kernel)) (fun z => nomatch z) fun _ => rfl) fun _ => rfl
  · exact kitAny_cons (b := true) (kit_ty (by decide +kernel)) (fun z => nomatch z) fun _ => rfl
theorem ok_sequence {f : Addr} {fd : FuncData} (F : Fun K "is_sequence" "is_sequence" sSequence f fd) (T : TM mg) : FnOk P w K mg base CX0 1 f fd ["value"] (spSequence K) := by
  refine F.ok scSequence (fun vs H Q E h => ?_) (fun cdv A outer s H vs Q E hr h => ?_)
  · obtain ⟨a, b, xs, rfl, _⟩ := h
    rfl
  · obtain ⟨a, b, xs, rfl, hS, k⟩ := h
    refine ⟨_, pss_one (ps_ret (pe_callB call_isiT (by rfl) T.isi (by decide +kernel) (pa_cons (pv 0) (pa_cons (pe_tup (pa_cons (pe_bltn (v := .ty "list") (by rfl) T.list PyProof.Rows.Boot.list rfl) (pa_cons (pe_bltn (v := .ty "tuple") (by rfl) T.tuple PyProof.Rows.Boot.tuple rfl) pa_nil))) pa_nil)))), ?_⟩
    refine ⟨_, rfl, by decide, fun p hp => ?_⟩
    exact ⟨_, p, _, _, _, true, rfl, upd_same, .cons (.ty _) (.cons (.ty _) .nil), tyx_sq (hS.mono (same_new hp)), kit_seq b, k _ (same_new hp)⟩
def spRow (K : PySem.W.Frag) : Sp := fun vs H Q _ => ∃ (a : Addr) (b : Bool) (xs : List V) (n : Int), vs = [.ref a, .int n] ∧ SqB b K H a xs ∧ ∀ H', Same H H' → Q (.bl (decide ((xs.length : Int) = n))) H'
theorem scRow : FnScope ["value", "length"] ["value", "length"] (defScope sRow) := ⟨rfl, rfl, rfl, by decide +kernel, rfl, by decide +kernel, by decide +kernel⟩
theorem ok_row {f : Addr} {fd : FuncData} (F : Fun K "is_row" "is_row" sRow f fd) (T : TM mg) (G : Got P w K mg base "is_sequence" 1 ["value"] (spSequence K)) : FnOk P w K mg base CX0 2 f fd ["value", "length"] (spRow K) := by
  refine F.ok scRow (fun vs H Q E h => ?_) (fun cdv A outer s H vs Q E hr h => ?_)
  · obtain ⟨a, b, xs, n, rfl, _⟩ := h
    rfl
  · obtain ⟨a, b, xs, n, rfl, hS, k⟩ := h
    refine ⟨_, pss_one (ps_ret (pe_and (pe_got G hr (by rfl) (pa_cons (pv 0) pa_nil)) (pe_one (pe_cmpR op_eq (pe_callB call_len_seq (by rfl) T.len PySem.boot_len (pa_cons (pv 0) pa_nil)) (pv 1) (nomark _))))), ?_⟩
    refine ⟨_, rfl, a, b, xs, rfl, hS, fun H1 s1 => ⟨_, rfl, ?_⟩⟩
    refine iteT ?_
    refine ⟨_, rfl, a, xs, rfl, (hS.mono s1).any, _, rfl, rfl, ?_⟩
    have e : decide (V.int (xs.length : Int) = V.int n) = decide ((xs.length : Int) = n) := by simp
    rw [e]
    exact k H1 s1
end
end Mk

set_option Elab.async false
set_option maxRecDepth 100000
set_option maxHeartbeats 4000000
namespace Mk
open PySem L2 Pk
section
variable {P : Program} {w : World} {K : PySem.W.Frag} {mg : PySem.Str → Option Value} {base : Heap}
/-! are_letters -/
def lowC (c : Nat) : Bool := decide (97 ≤ c) && decide (c ≤ 122)
def lowB (x : PySem.Str) : Bool := x.cps.toList.all lowC
def spLetters : Sp := fun vs H Q _ => ∃ (x : PySem.Str) (m : Int), vs = [.str x, .int m] ∧ x.length ≤ 1000 ∧ ∀ H', Same H H' → Q (.bl (decide ((x.length : Int) ≤ m) && lowB x)) H'
theorem scLetters : FnScope ["value", "most", "letter"] ["value", "most"] (defScope sLetters) := ⟨rfl, rfl, rfl, by decide +kernel, rfl, by decide +kernel, by decide +kernel⟩
theorem lt_one (a b : Nat) : decide (([a] : List Nat) < [b]) = decide (a < b) := by
  rw [Bool.eq_iff_iff, decide_eq_true_eq, decide_eq_true_eq]
  constructor
  · intro h
    cases h with
    | rel h => exact h
    | cons h => cases h
  · intro h
    exact List.Lex.rel h
theorem ge_sign (c lo : Nat) (z : PySem.Str) (hz : z.cps.toList = [lo]) : (!decide ((⟨#[c]⟩ : PySem.Str).cps.toList < z.cps.toList)) = decide (lo ≤ c) := by
  rw [hz]
  show (!decide (([c] : List Nat) < [lo])) = _
  rw [lt_one]
  by_cases h : lo ≤ c
  · rw [decide_eq_true h, decide_eq_false (by omega)] <;> rfl
  · rw [decide_eq_false h, decide_eq_true (by omega)] <;> rfl
theorem le_sign (c hi : Nat) (z : PySem.Str) (hz : z.cps.toList = [hi]) : (!decide (z.cps.toList < (⟨#[c]⟩ : PySem.Str).cps.toList)) = decide (c ≤ hi) := by
  rw [hz]
  show (!decide (([hi] : List Nat) < [c])) = _
  rw [lt_one]
  by_cases h : c ≤ hi
  · rw [decide_eq_true h, decide_eq_false (by omega)] <;> rfl
  · rw [decide_eq_false h, decide_eq_true (by omega)] <;> rfl
theorem str_len (x : PySem.Str) : x.length = x.cps.size := rfl
theorem take_at {α : Type} {l : List α} {i : Nat} {c : α} (h : l[i]? = some c) : l.take (i + 1) = l.take i ++ [c] := by
  rw [List.take_add_one, h] <;> rfl
theorem ok_letters {f : Addr} {fd : FuncData} (F : Fun K "are_letters" "are_letters" sLetters f fd) (T : TM mg) : FnOk P w K mg base CX0 1 f fd ["value", "most"] spLetters := by
  refine F.ok scLetters (fun vs H Q E h => ?_) (fun cdv A outer s H vs Q E hr h => ?_)
  · obtain ⟨x, m, rfl, _⟩ := h
    rfl
  · obtain ⟨x, m, rfl, hl, k⟩ := h
    refine ⟨_, pss_cons (ps_if (PW.pt (pw_or (pt_not (pt_val (pe_callB call_isi (by rfl) T.isi (by decide +kernel) (pa_cons (pv 0) (pa_cons (pe_bltn (v := .ty "str") (by rfl) T.str PyProof.Rows.Boot.str rfl) pa_nil)))))
        (pw_or1 (pt_cmpR op_gt (pe_callB call_len_str (by rfl) T.len PySem.boot_len (pa_cons (pv 0) pa_nil)) (pv 1) (nomark _))))) (pss_one (ps_ret pe_bl)) pss_nil)
      (pss_one (ps_ret (pe_callB (cr_all rfl) (by rfl) T.all (by decide +kernel) (pa_cons (pe_lc (own := [("letter", 2)]) (g := gName 2) (tt := tYes) (by rfl) scLetters.nd (pi_str (pv 0))
        (blkOk_by (own := [("letter", 2)]) (N := ["value", "most", "letter"]) (sc := defScope sLetters) (by decide +kernel))
        (fun _ _ _ _ _ => pg_name (i := 2) scLetters.nd rfl (Or.inl rfl)) (fun _ _ _ _ _ => pts_nil) (fun _ _ _ _ _ => pe_chain op_le_str op_le_str pe_str (pv 2) pe_str)) pa_nil)))), ?_⟩
    have sz : x.length ≤ sizeLine := Nat.le_trans hl (by decide)
    refine ⟨_, rfl, _, _, _, _, true, rfl, .ty _, .base (.str _), kit_ty (by decide +kernel), _, rfl, ?_⟩
    refine iteF ?_
    refine ⟨_, rfl, x, rfl, sz, _, rfl, _, _, rfl, rfl, _, rfl, ?_⟩
    refine ite2 (fun c => ?_) (fun c => ?_)
    · have c' := of_decide_eq_true c
      have e : decide ((x.length : Int) ≤ m) = false := decide_eq_false (by omega)
      have q := k H (fun _ _ z => z)
      rw [e] at q
      exact q
    · have c' : ¬ ((x.length : Int) > m) := fun z => c (decide_eq_true z)
      have e : decide ((x.length : Int) ≤ m) = true := decide_eq_true (by omega)
      refine ⟨_, rfl, x, rfl, fun D hD => lc_it walk_str (fun i H' => Same H H' ∧ H' D = some (.lst (((x.cps.toList.take i).map lowC).map V.bl)))
        ⟨same_new hD, by rw [upd_same]; rfl⟩ (fun _ _ _ _ => trivial) ?_ ?_⟩
      · rintro i y H1 H2 hi ⟨s1, hD1⟩ ⟨rfl, c0, hc0, rfl⟩
        have hc1 : x.cps.toList[i]? = some c0 := by rw [Array.getElem?_toList]; exact hc0
        refine ⟨rfl, ?_⟩
        have acc : ∀ b : Bool, b = lowC c0 → ∃ ac, H2 D = some (.lst ac) ∧ ac.length < sizeLine ∧ Same H (upd H2 D (.lst (ac ++ [V.bl b]))) ∧ (upd H2 D (.lst (ac ++ [V.bl b]))) D = some (.lst (((x.cps.toList.take (i + 1)).map lowC).map V.bl)) := by
          rintro b rfl
          refine ⟨_, hD1, ?_, same_mut s1 hD, ?_⟩
          · rw [List.length_map, List.length_map, List.length_take, Array.length_toList]
            have q : x.cps.size ≤ 1000 := hl
            exact Nat.lt_of_le_of_lt (Nat.le_trans (Nat.min_le_right _ _) q) (by decide)
          · rw [upd_same, take_at hc1, List.map_append, List.map_append]
            rfl
        refine ⟨_, rfl, _, _, rfl, rfl, _, rfl, ?_⟩
        rw [ge_sign c0 97 _ (by decide +kernel)]
        refine ite2 (fun a => ?_) (fun a => ?_)
        · refine ⟨_, _, rfl, rfl, ?_⟩
          rw [le_sign c0 122 _ (by decide +kernel)]
          exact acc _ (by unfold lowC; rw [a] <;> rfl)
        · exact acc _ (by unfold lowC; rw [Bool.eq_false_iff.mpr a] <;> rfl)
      · rintro H1 ⟨s1, hD1⟩
        refine ⟨D, _, rfl, SqL.of hD1, ?_⟩
        have q := k H1 s1
        rw [e] at q
        have full : x.cps.toList.take x.cps.size = x.cps.toList := List.take_of_length_le (by rw [Array.length_toList]; exact Nat.le_refl _)
        rw [full, List.all_map]
        exact q
end
end Mk

set_option Elab.async false
set_option maxRecDepth 100000
set_option maxHeartbeats 4000000
namespace Mk
open PySem L2 Pk
abbrev rLeS : R2 := fun x y H Q => ∃ i j, x = V.str i ∧ y = V.str j ∧ Q (V.bl !decide (j.cps.toList < i.cps.toList)) H
theorem ch_sign {σ : L2.St} {H : Hp} {i c lo hi : Nat} {zl zh : PySem.Str} {Q : VK} (hl : zl.cps.toList = [lo]) (hh : zh.cps.toList = [hi]) (e : σ[i]? = some (some (.str ⟨#[c]⟩))) (q : Q (.bl (decide (lo ≤ c) && decide (c ≤ hi))) H) :
    tChain rLeS rLeS (tC (.str zl)) (tVar i) (tC (.str zh)) σ H Q := by
  refine ⟨_, e, _, _, rfl, rfl, _, rfl, ?_⟩
  rw [ge_sign c lo _ hl]
  refine ite2 (fun a => ?_) (fun a => ?_)
  · refine ⟨_, _, rfl, rfl, ?_⟩
    rw [le_sign c hi _ hh]
    rw [a] at q
    exact q
  · rw [Bool.eq_false_iff.mpr a] at q
    exact q
/-- x or y, of which x gives a bool -/
theorem or_bool {ta tb : TE} {σ : L2.St} {H : Hp} {Q : VK} {a : Bool} (h : ∀ Q' : VK, Q' (.bl a) H → ta σ H Q') (g : a = false → tb σ H Q) (q : a = true → Q (.bl true) H) : tOrV ta tb σ H Q := by
  refine h _ ⟨a, rfl, ?_⟩
  cases a
  · exact iteF (g rfl)
  · exact iteT (q rfl)
section
variable {P : Program} {w : World} {K : PySem.W.Frag} {mg : PySem.Str → Option Value} {base : Heap}
/-! is_symbol_mark -/
def markC (c : Nat) : Bool := (decide (97 ≤ c) && decide (c ≤ 122)) || ((decide (65 ≤ c) && decide (c ≤ 90)) || (decide (48 ≤ c) && decide (c ≤ 57)))
def spMark : Sp := fun vs H Q _ => ∃ c : Nat, vs = [.str ⟨#[c]⟩] ∧ Q (.bl (markC c)) H
theorem scMark : FnScope ["mark"] ["mark"] (defScope sMark) := ⟨rfl, rfl, rfl, by decide +kernel, rfl, by decide +kernel, by decide +kernel⟩
theorem ok_mark {f : Addr} {fd : FuncData} (F : Fun K "is_symbol_mark" "is_symbol_mark" sMark f fd) : FnOk P w K mg base CX0 1 f fd ["mark"] spMark := by
  refine F.ok scMark (fun vs H Q E h => ?_) (fun cdv A outer s H vs Q E hr h => ?_)
  · obtain ⟨c, rfl, _⟩ := h
    rfl
  · obtain ⟨c, rfl, k⟩ := h
    refine ⟨_, pss_one (ps_ret (pe_or (pe_chain op_le_str op_le_str pe_str (pv 0) pe_str) (pe_or (pe_chain op_le_str op_le_str pe_str (pv 0) pe_str) (pe_one (pe_chain op_le_str op_le_str pe_str (pv 0) pe_str))))), ?_⟩
    unfold markC at k
    have a0 : ∀ {zl zh : PySem.Str} {lo hi : Nat}, zl.cps.toList = [lo] → zh.cps.toList = [hi] → ∀ {H : Hp} {Q' : VK}, Q' (.bl (decide (lo ≤ c) && decide (c ≤ hi))) H → tChain rLeS rLeS (tC (.str zl)) (tVar 0) (tC (.str zh)) (L2.start ["mark"] [.str ⟨#[c]⟩]) H Q' :=
      by
        intro zl zh lo hi hl hh H Q' q
        exact ch_sign hl hh rfl q
    refine or_bool (a := decide (97 ≤ c) && decide (c ≤ 122)) (fun Q' q => a0 (by decide +kernel) (by decide +kernel) q) (fun e => ?_) (fun e => ?_)
    · rw [e, Bool.false_or] at k
      refine or_bool (a := decide (65 ≤ c) && decide (c ≤ 90)) (fun Q' q => a0 (by decide +kernel) (by decide +kernel) q) (fun e => ?_) (fun e => ?_)
      · rw [e, Bool.false_or] at k
        exact a0 (by decide +kernel) (by decide +kernel) k
      · rw [e, Bool.true_or] at k
        exact k
    · rw [e, Bool.true_or] at k
      exact k
/-! is_symbol -/
def symB (x : PySem.Str) : Bool := (decide (1 ≤ x.length) && decide (x.length ≤ 8)) && x.cps.toList.all markC
def spSymbol : Sp := fun vs H Q _ => ∃ x : PySem.Str, vs = [.str x] ∧ x.length ≤ 1000 ∧ ∀ H', Same H H' → Q (.bl (symB x)) H'
theorem scSymbol : FnScope ["value", "mark"] ["value"] (defScope sSymbol) := ⟨rfl, rfl, rfl, by decide +kernel, rfl, by decide +kernel, by decide +kernel⟩
theorem ok_symbol {f : Addr} {fd : FuncData} (F : Fun K "is_symbol" "is_symbol" sSymbol f fd) (T : TM mg) (G : Got P w K mg base "is_symbol_mark" 1 ["mark"] spMark) : FnOk P w K mg base CX0 2 f fd ["value"] spSymbol := by
  refine F.ok scSymbol (fun vs H Q E h => ?_) (fun cdv A outer s H vs Q E hr h => ?_)
  · obtain ⟨x, rfl, _⟩ := h
    rfl
  · obtain ⟨x, rfl, hl, k⟩ := h
    refine ⟨_, pss_cons (ps_if (PW.pt (pw_or (pt_not (pt_val (pe_callB call_isi (by rfl) T.isi (by decide +kernel) (pa_cons (pv 0) (pa_cons (pe_bltn (v := .ty "str") (by rfl) T.str PyProof.Rows.Boot.str rfl) pa_nil)))))
        (pw_or1 (pt_not (pt_chain op_le op_le pe_int (pe_callB call_len_str (by rfl) T.len PySem.boot_len (pa_cons (pv 0) pa_nil)) pe_int))))) (pss_one (ps_ret pe_bl)) pss_nil)
      (pss_one (ps_ret (pe_callB (cr_all rfl) (by rfl) T.all (by decide +kernel) (pa_cons (pe_lc (own := [("mark", 1)]) (g := gName 1) (tt := tYes) (by rfl) scSymbol.nd (pi_str (pv 0))
        (blkOk_by (own := [("mark", 1)]) (N := ["value", "mark"]) (sc := defScope sSymbol) (by decide +kernel))
        (fun _ _ _ _ _ => pg_name (i := 1) scSymbol.nd rfl (Or.inl rfl)) (fun _ _ _ _ _ => pts_nil) (fun _ _ _ _ _ => pe_got G hr (by rfl) (pa_cons (pv 1) pa_nil))) pa_nil)))), ?_⟩
    have sz : x.length ≤ sizeLine := Nat.le_trans hl (by decide)
    refine ⟨_, rfl, _, _, _, _, true, rfl, .ty _, .base (.str _), kit_ty (by decide +kernel), _, rfl, ?_⟩
    refine iteF ?_
    unfold symB at k
    refine ⟨_, rfl, x, rfl, sz, _, _, rfl, rfl, _, rfl, ?_⟩
    have stop : (decide (1 ≤ x.length) && decide (x.length ≤ 8)) = false → Q (.bl false) H := fun e => by
      have q := k H (fun _ _ z => z)
      rw [e] at q
      exact q
    refine ite2 (fun c1 => ?_) (fun c1 => ?_)
    · have c1' : (1 : Int) ≤ (x.length : Int) := of_decide_eq_true c1
      refine ⟨_, _, rfl, rfl, _, rfl, ?_⟩
      refine ite2 (fun c2 => ?_) (fun c2 => ?_)
      · have c2' : ¬ ((x.length : Int) ≤ 8) := by simpa using c2
        exact stop (by rw [decide_eq_false (p := x.length ≤ 8) (by omega), Bool.and_false])
      · have c2' : (x.length : Int) ≤ 8 := by simpa using c2
        have e : (decide (1 ≤ x.length) && decide (x.length ≤ 8)) = true := by rw [decide_eq_true (by omega), decide_eq_true (by omega)] <;> rfl
        refine ⟨_, rfl, x, rfl, fun D hD => lc_it walk_str (fun i H' => Same H H' ∧ H' D = some (.lst (((x.cps.toList.take i).map markC).map V.bl)))
          ⟨same_new hD, by rw [upd_same]; rfl⟩ (fun _ _ _ _ => trivial) ?_ ?_⟩
        · rintro i y H1 H2 hi ⟨s1, hD1⟩ ⟨rfl, c0, hc0, rfl⟩
          have hc1 : x.cps.toList[i]? = some c0 := by rw [Array.getElem?_toList]; exact hc0
          refine ⟨rfl, ?_⟩
          refine ⟨_, rfl, c0, rfl, _, hD1, ?_, same_mut s1 hD, ?_⟩
          · rw [List.length_map, List.length_map, List.length_take, Array.length_toList]
            have q : x.cps.size ≤ 1000 := hl
            exact Nat.lt_of_le_of_lt (Nat.le_trans (Nat.min_le_right _ _) q) (by decide)
          · rw [upd_same, take_at hc1, List.map_append, List.map_append]
            rfl
        · rintro H1 ⟨s1, hD1⟩
          refine ⟨D, _, rfl, SqL.of hD1, ?_⟩
          have q := k H1 s1
          rw [e] at q
          have full : x.cps.toList.take x.cps.size = x.cps.toList := List.take_of_length_le (by rw [Array.length_toList]; exact Nat.le_refl _)
          rw [full, List.all_map]
          exact q
    · have c1' : ¬ ((1 : Int) ≤ (x.length : Int)) := fun z => c1 (decide_eq_true z)
      refine ⟨_, rfl, ?_⟩
      exact iteT (stop (by rw [decide_eq_false (p := 1 ≤ x.length) (by omega), Bool.false_and]))
end
end Mk

set_option Elab.async false
set_option maxRecDepth 100000
set_option maxHeartbeats 4000000
namespace Mk
open PySem L2 Pk
section
variable {P : Program} {w : World} {K : PySem.W.Frag} {mg : PySem.Str → Option Value} {base : Heap}
/-! is_alphabet -/
structure Alpha (x : PySem.Str) : Prop where
  low : lowB x = true
  pos : 1 ≤ x.length
  most : x.length ≤ 26
  up : ∀ (i c d : Nat), x.cps.toList[i]? = some c → x.cps.toList[i + 1]? = some d → c < d
def spAlphabet : Sp := fun vs H Q _ => ∃ x : PySem.Str, vs = [.str x] ∧ Alpha x ∧ ∀ H', Same H H' → Q (.bl true) H'
theorem scAlphabet : FnScope ["value", "at"] ["value"] (defScope sAlphabet) := ⟨rfl, rfl, rfl, by decide +kernel, rfl, by decide +kernel, by decide +kernel⟩
theorem dec_str (x y : PySem.Str) : decide (V.str x = V.str y) = decide (x = y) := by simp
theorem same_tr {H H' H'' : Hp} (a : Same H H') (b : Same H' H'') : Same H H'' := a.trans b
theorem ok_alphabet {f : Addr} {fd : FuncData} (F : Fun K "is_alphabet" "is_alphabet" sAlphabet f fd) (T : TM mg) (G : Got P w K mg base "are_letters" 1 ["value", "most"] spLetters) : FnOk P w K mg base CX0 2 f fd ["value"] spAlphabet := by
  refine F.ok scAlphabet (fun vs H Q E h => ?_) (fun cdv A outer s H vs Q E hr h => ?_)
  · obtain ⟨x, rfl, _⟩ := h
    rfl
  · obtain ⟨x, rfl, a, k⟩ := h
    have most := a.most
    have pos := a.pos
    refine ⟨_, pss_cons (ps_if (PW.pt (pw_or (pt_not (pt_val (pe_got G hr (by rfl) (pa_cons (pv 0) (pa_cons pe_int pa_nil)))))
        (pw_or1 (pt_cmpR op_eq (pv 0) pe_str (nomark _))))) (pss_one (ps_ret pe_bl)) pss_nil)
      (pss_one (ps_ret (pe_callB (cr_all rfl) (by rfl) T.all (by decide +kernel) (pa_cons (pe_lc (own := [("at", 1)]) (g := gName 1) (tt := tYes) (by rfl) scAlphabet.nd
        (pi_range1 (by rfl) T.range (pa_cons (pe_op op_sub (pe_callB call_len_str (by rfl) T.len PySem.boot_len (pa_cons (pv 0) pa_nil)) pe_int) pa_nil))
        (blkOk_by (own := [("at", 1)]) (N := ["value", "at"]) (sc := defScope sAlphabet) (by decide +kernel))
        (fun _ _ _ _ _ => pg_name (i := 1) scAlphabet.nd rfl (Or.inl rfl)) (fun _ _ _ _ _ => pts_nil)
        (fun _ _ _ _ _ => pe_cmpR op_lt_str (pe_ix ix_str (pv 0) (pv 1) fun _ _ => rfl) (pe_ix ix_str (pv 0) (pe_op op_add (pv 1) pe_int) fun _ _ => rfl) (nomark _))) pa_nil)))), ?_⟩
    have sz : x.length ≤ sizeLine := Nat.le_trans most (by decide)
    refine ⟨_, rfl, x, 26, rfl, Nat.le_trans most (by decide), fun H1 s1 => ⟨_, rfl, ?_⟩⟩
    rw [a.low, decide_eq_true (p := (x.length : Int) ≤ 26) (by omega)]
    refine iteF ?_
    refine ⟨_, rfl, rfl, _, rfl, ?_⟩
    have ne : ¬ x = (PySem.Str.ofString "") := fun e => by
      rw [e] at pos
      exact absurd pos (by decide +kernel)
    rw [dec_str, decide_eq_false ne]
    refine iteF ?_
    have sz2 : x.cps.size = x.length := rfl
    refine ⟨_, rfl, x, rfl, sz, _, _, rfl, rfl, _, rfl, by omega, by omega, fun D hD => lc_range (lo := 0) (n := ((x.length : Int) - 1).toNat) (fun i H' => Same H H' ∧ H' D = some (.lst ((List.replicate i true).map V.bl)))
        ⟨same_tr s1 (same_new hD), by rw [upd_same]; rfl⟩ ?_ ?_⟩
    · rintro i H2 hi ⟨s2, hD2⟩
      have h1 : i < x.cps.toList.length := by rw [Array.length_toList]; omega
      have h2 : i + 1 < x.cps.toList.length := by rw [Array.length_toList]; omega
      have e1 : x.cps.toList[i]? = some x.cps.toList[i] := List.getElem?_eq_getElem h1
      have e2 : x.cps.toList[i + 1]? = some x.cps.toList[i + 1] := List.getElem?_eq_getElem h2
      have lt := a.up i _ _ e1 e2
      refine ⟨rfl, ?_⟩
      refine ⟨_, rfl, _, rfl, x, _, _, rfl, rfl, sz, (by rw [Int.zero_add]; exact atI_nat e1), _, rfl, _, rfl, _, _, rfl, rfl, x, _, _, rfl, rfl, sz, (by rw [Int.zero_add]; exact atI_nat (j := i + 1) e2), _, _, rfl, rfl, _, hD2, ?_, same_mut s2 (s1.free hD), ?_⟩
      · rw [List.length_map, List.length_replicate]
        exact Nat.lt_of_lt_of_le (show i < 26 by omega) (by decide)
      · rw [upd_same, List.replicate_succ', List.map_append]
        show some (HO.lst (_ ++ [V.bl (decide (([x.cps.toList[i]] : List Nat) < [x.cps.toList[i + 1]]))])) = _
        rw [lt_one, decide_eq_true lt]
        rfl
    · rintro H2 ⟨s2, hD2⟩
      refine ⟨D, _, rfl, SqL.of hD2, ?_⟩
      rw [show (List.replicate ((x.length : Int) - 1).toNat true).all id = true by simp]
      exact k H2 s2
/-! is_sign -/
def Sgn (letters s : PySem.Str) : Prop := ∃ c : Nat, s = ⟨#[c]⟩ ∧ (c = 60 ∨ c = 62 ∨ c ∈ letters.cps.toList)
def spSign : Sp := fun vs H Q _ => ∃ l s : PySem.Str, vs = [.str l, .str s] ∧ Sgn l s ∧ Q (.bl true) H
theorem scSign : FnScope ["letters", "value"] ["letters", "value"] (defScope sSign) := ⟨rfl, rfl, rfl, by decide +kernel, rfl, by decide +kernel, by decide +kernel⟩
theorem ok_sign {f : Addr} {fd : FuncData} (F : Fun K "is_sign" "is_sign" sSign f fd) (T : TM mg) : FnOk P w K mg base CX0 1 f fd ["letters", "value"] spSign := by
  refine F.ok scSign (fun vs H Q E h => ?_) (fun cdv A outer s H vs Q E hr h => ?_)
  · obtain ⟨l, s, rfl, _⟩ := h
    rfl
  · obtain ⟨l, _, rfl, ⟨c, rfl, hc⟩, k⟩ := h
    refine ⟨_, pss_one (ps_ret (pe_and (pe_callB call_isi (by rfl) T.isi (by decide +kernel) (pa_cons (pv 1) (pa_cons (pe_bltn (v := .ty "str") (by rfl) T.str PyProof.Rows.Boot.str rfl) pa_nil)))
      (pe_and (pe_cmpR op_eq (pe_callB call_len_str (by rfl) T.len PySem.boot_len (pa_cons (pv 1) pa_nil)) pe_int (nomark _))
      (pe_one (pe_or (pe_cmpR op_in_sign (pv 1) pe_str rfl) (pe_one (pe_cmpR op_in_sign (pv 1) (pv 0) rfl))))))), ?_⟩
    refine ⟨_, rfl, _, _, _, _, true, rfl, .ty _, .base (.str _), kit_ty (by decide +kernel), _, rfl, ?_⟩
    refine iteT ?_
    refine ⟨_, rfl, _, rfl, (show 1 ≤ sizeLine by decide), rfl, _, rfl, ?_⟩
    refine iteT ?_
    refine or_bool (a := decide (c ∈ (PySem.Str.ofString "<>").cps.toList)) (fun Q' q => ⟨_, rfl, c, _, rfl, rfl, q⟩) (fun e => ?_) fun _ => k
    refine ⟨_, rfl, _, rfl, c, l, rfl, rfl, ?_⟩
    have e' : c ∉ ([60, 62] : List Nat) := of_decide_eq_false e
    have m : c ∈ l.cps.toList := by
      rcases hc with z | z | z
      · exact absurd (by rw [z]; decide) e'
      · exact absurd (by rw [z]; decide) e'
      · exact z
    rw [decide_eq_true m]
    exact k
end
end Mk

set_option Elab.async false
set_option maxRecDepth 100000
set_option maxHeartbeats 4000000
namespace Mk
open PySem L2 Pk
/-- x and y, of which x gives a bool -/
theorem and_bool {ta tb : TE} {σ : L2.St} {H : Hp} {Q : VK} {a : Bool} (h : ∀ Q' : VK, Q' (.bl a) H → ta σ H Q') (g : a = true → tb σ H Q) (q : a = false → Q (.bl false) H) : tAndV ta tb σ H Q := by
  refine h _ ⟨a, rfl, ?_⟩
  cases a
  · exact iteF (q rfl)
  · exact iteT (g rfl)
theorem skip_if {tA : TT} {ta u : TS} {D : Ends} {σ : L2.St} {H : Hp} (h : ∀ R : Bool → Hp → Prop, (∀ H1, Same H H1 → R false H1) → tA σ H R) (g : ∀ H1, Same H H1 → u D σ H1) : tSeq (tIfS tA ta tNext) u D σ H :=
  h _ fun H1 s1 => iteF (g H1 s1)
section
variable {P : Program} {w : World} {K : PySem.W.Frag} {mg : PySem.Str → Option Value} {base : Heap}
abbrev nil0 : PySem.Str := PySem.Str.ofString ""
/-! is_top -/
def Top (x : PySem.Str) : Prop := symB x = true ∨ x = nil0
theorem top_len {x : PySem.Str} (h : Top x) : x.length ≤ 8 := by
  rcases h with h | h
  · unfold symB at h
    rw [Bool.and_eq_true, Bool.and_eq_true, decide_eq_true_eq, decide_eq_true_eq] at h
    exact h.1.2
  · rw [h]
    decide +kernel
def spTop : Sp := fun vs H Q _ => ∃ x : PySem.Str, vs = [.str x] ∧ Top x ∧ ∀ H', Same H H' → Q (.bl true) H'
theorem scTop : FnScope ["value"] ["value"] (defScope sTop) := ⟨rfl, rfl, rfl, by decide +kernel, rfl, by decide +kernel, by decide +kernel⟩
theorem ok_top {f : Addr} {fd : FuncData} (F : Fun K "is_top" "is_top" sTop f fd) (T : TM mg) (G : Got P w K mg base "is_symbol" 2 ["value"] spSymbol) : FnOk P w K mg base CX0 3 f fd ["value"] spTop := by
  refine F.ok scTop (fun vs H Q E h => ?_) (fun cdv A outer s H vs Q E hr h => ?_)
  · obtain ⟨x, rfl, _⟩ := h
    rfl
  · obtain ⟨x, rfl, ht, k⟩ := h
    refine ⟨_, pss_one (ps_ret (pe_or (pe_got G hr (by rfl) (pa_cons (pv 0) pa_nil)) (pe_one (pe_and (pe_callB call_isi (by rfl) T.isi (by decide +kernel) (pa_cons (pv 0) (pa_cons (pe_bltn (v := .ty "str") (by rfl) T.str PyProof.Rows.Boot.str rfl) pa_nil)))
      (pe_one (pe_cmpR op_eq (pv 0) pe_str (nomark _))))))), ?_⟩
    refine ⟨_, rfl, x, rfl, Nat.le_trans (top_len ht) (by decide), fun H1 s1 => ⟨_, rfl, ?_⟩⟩
    rcases ht with e | e
    · rw [e]
      exact iteT (k H1 s1)
    · refine ite2 (fun _ => k H1 s1) fun _ => ?_
      refine ⟨_, rfl, _, _, _, _, true, rfl, .ty _, .base (.str _), kit_ty (by decide +kernel), _, rfl, ?_⟩
      refine iteT ?_
      refine ⟨_, rfl, rfl, ?_⟩
      rw [dec_str, e, decide_eq_true rfl]
      exact k H1 s1
/-! is_move -/
abbrev lt0 : PySem.Str := PySem.Str.ofString "<"
abbrev gt0 : PySem.Str := PySem.Str.ofString ">"
structure Mv (s : PySem.Str) (v : Int) : Prop where
  lo : -1 ≤ v
  hi : v ≤ 1
  l : s = lt0 → v ≠ -1
  r : s = gt0 → v ≠ 1
def spMove : Sp := fun vs H Q _ => ∃ (s : PySem.Str) (v : Int), vs = [.str s, .int v] ∧ Mv s v ∧ Q (.bl true) H
theorem scMove : FnScope ["sign", "value"] ["sign", "value"] (defScope sMove) := ⟨rfl, rfl, rfl, by decide +kernel, rfl, by decide +kernel, by decide +kernel⟩
theorem dec_intV (x y : Int) : decide (V.int x = V.int y) = decide (x = y) := by simp
theorem ok_move {f : Addr} {fd : FuncData} (F : Fun K "is_move" "is_move" sMove f fd) (G : Got P w K mg base "is_between" 2 ["value", "least", "most"] spBetween) : FnOk P w K mg base CX0 3 f fd ["sign", "value"] spMove := by
  refine F.ok scMove (fun vs H Q E h => ?_) (fun cdv A outer s H vs Q E hr h => ?_)
  · obtain ⟨x, v, rfl, _⟩ := h
    rfl
  · obtain ⟨x, v, rfl, m, k⟩ := h
    refine ⟨_, pss_cons (ps_if (pt_not (pt_val (pe_got G hr (by rfl) (pa_cons (pv 1) (pa_cons (pe_un un_neg pe_int) (pa_cons pe_int pa_nil)))))) (pss_one (ps_ret pe_bl)) pss_nil)
      (pss_one (ps_ret (pe_not (pe_or (pe_and (pe_cmpR op_eq (pv 0) pe_str (nomark _)) (pe_one (pe_cmpR op_eq (pv 1) (pe_un un_neg pe_int) (nomark _))))
        (pe_one (pe_and (pe_cmpR op_eq (pv 0) pe_str (nomark _)) (pe_one (pe_cmpR op_eq (pv 1) pe_int (nomark _))))))))), ?_⟩
    refine ⟨_, rfl, _, rfl, v, -1, 1, rfl, _, rfl, ?_⟩
    rw [decide_eq_true m.lo, decide_eq_true m.hi]
    refine iteF ?_
    have fin : ∀ b : Bool, b = false → ∃ c, V.bl b = V.bl c ∧ Q (.bl (!c)) H := fun b e => by
      rw [e]
      exact ⟨false, rfl, k⟩
    dsimp only [tNext, tRet, tNotV]
    refine or_bool (a := decide (x = lt0) && decide (v = -1)) (fun Q' q => ?_) (fun e => ?_) (fun e => ?_)
    · refine and_bool (a := decide (x = lt0)) (fun Q2 q2 => ⟨_, rfl, rfl, by rw [dec_str]; exact q2⟩) (fun e => ?_) (fun e => ?_)
      · refine ⟨_, rfl, _, rfl, rfl, ?_⟩
        rw [dec_intV]
        rw [e] at q
        exact q
      · rw [e] at q
        exact q
    · refine and_bool (a := decide (x = gt0)) (fun Q2 q2 => ⟨_, rfl, rfl, by rw [dec_str]; exact q2⟩) (fun e => ?_) (fun e => ?_)
      · refine ⟨_, rfl, rfl, ?_⟩
        rw [dec_intV, decide_eq_false (m.r (of_decide_eq_true e))]
        exact fin _ rfl
      · exact fin _ rfl
    · rw [Bool.and_eq_true, decide_eq_true_eq, decide_eq_true_eq] at e
      exact absurd e.2 (m.l e.1)
/-! is_deed -/
abbrev keep0 : PySem.Str := PySem.Str.ofString "keep"
abbrev pop0 : PySem.Str := PySem.Str.ofString "pop"
abbrev push0 : PySem.Str := PySem.Str.ofString "push"
abbrev swap0 : PySem.Str := PySem.Str.ofString "swap"
structure Deed (t d s : PySem.Str) : Prop where
  one : d = keep0 ∨ d = pop0 ∨ d = push0 ∨ d = swap0
  low : t = nil0 → d = keep0 ∨ d = push0
  sym : d = push0 ∨ d = swap0 → symB s = true
  no : d = keep0 ∨ d = pop0 → s = nil0
/-- the module's tuple DEEDS -/
def Deeds (K : PySem.W.Frag) (mg : PySem.Str → Option Value) : Prop := ∃ a, mg "DEEDS" = some (.ref a) ∧ ∀ H : Hp, SqT K H a [.str keep0, .str pop0, .str push0, .str swap0]
def spDeed : Sp := fun vs H Q _ => ∃ t d s : PySem.Str, vs = [.str t, .str d, .str s] ∧ Deed t d s ∧ ∀ H', Same H H' → Q (.bl true) H'
theorem scDeed : FnScope ["top", "deed", "symbol"] ["top", "deed", "symbol"] (defScope sDeed) := ⟨rfl, rfl, rfl, by decide +kernel, rfl, by decide +kernel, by decide +kernel⟩
theorem ok_deed {f : Addr} {fd : FuncData} (F : Fun K "is_deed" "is_deed" sDeed f fd) (T : TM mg) (D : Deeds K mg) (G : Got P w K mg base "is_symbol" 2 ["value"] spSymbol) : FnOk P w K mg base CX0 3 f fd ["top", "deed", "symbol"] spDeed := by
  refine F.ok scDeed (fun vs H Q E h => ?_) (fun cdv A outer s H vs Q E hr h => ?_)
  · obtain ⟨t, d, x, rfl, _⟩ := h
    rfl
  · obtain ⟨t, d, x, rfl, m, k⟩ := h
    obtain ⟨aD, gD, hD⟩ := D
    refine ⟨_, pss_cons (ps_if (PW.pt (pw_or (pt_not (pt_val (pe_callB call_isi (by rfl) T.isi (by decide +kernel) (pa_cons (pv 1) (pa_cons (pe_bltn (v := .ty "str") (by rfl) T.str PyProof.Rows.Boot.str rfl) pa_nil)))))
        (pw_or1 (pt_cmpR op_notIn_seq (pv 1) (pe_glob (v := .ref aD) (by rfl) gD rfl) rfl)))) (pss_one (ps_ret pe_bl)) pss_nil)
      (pss_cons (ps_if (PW.pt (pw_and (pt_cmpR op_eq (pv 0) pe_str (nomark _)) (pw_and1 (pt_cmpR op_notIn_seq (pv 1) (pe_tup (pa_cons pe_str (pa_cons pe_str pa_nil))) rfl)))) (pss_one (ps_ret pe_bl)) pss_nil)
      (pss_cons (ps_if (pt_cmpR op_in_seq (pv 1) (pe_tup (pa_cons pe_str (pa_cons pe_str pa_nil))) rfl) (pss_one (ps_ret (pe_got G hr (by rfl) (pa_cons (pv 2) pa_nil)))) pss_nil)
      (pss_one (ps_ret (pe_and (pe_callB call_isi (by rfl) T.isi (by decide +kernel) (pa_cons (pv 2) (pa_cons (pe_bltn (v := .ty "str") (by rfl) T.str PyProof.Rows.Boot.str rfl) pa_nil)))
        (pe_one (pe_cmpR op_eq (pv 2) pe_str (nomark _)))))))), ?_⟩
    refine ⟨_, rfl, _, _, _, _, true, rfl, .ty _, .base (.str _), kit_ty (by decide +kernel), _, rfl, ?_⟩
    refine iteF ?_
    have rest : ∀ H1 : Hp, Same H H1 → (∀ H2, Same H1 H2 → Q (.bl true) H2) := fun H1 s1 H2 s2 => k H2 (s1.trans s2)
    have inD : inV (.str d) [.str keep0, .str pop0, .str push0, .str swap0] = true := by
      rcases m.one with e | e | e | e <;> rw [e] <;> decide +kernel
    refine ⟨_, rfl, aD, _, rfl, .inr (hD H), rfl, rfl, _, rfl, ?_⟩
    rw [inD]
    refine iteF ?_
    have two : ∀ {a b : PySem.Str} {p : Addr} {H1 : Hp}, SqT K (upd H1 p (.tup [.str a, .str b])) p [.str a, .str b] := .inl (.inl upd_same)
    dsimp only [tNext]
    refine skip_if (fun R r => ?_) (fun H1 s1 => ?_)
    · refine ⟨_, rfl, rfl, _, rfl, ?_⟩
      refine ite2 (fun e => ?_) (fun _ => r H (fun _ _ z => z))
      rw [dec_str, decide_eq_true_eq] at e
      refine ⟨_, rfl, by decide, fun p hp => ⟨p, _, rfl, .inr two, rfl, rfl, _, rfl, ?_⟩⟩
      have z : inV (.str d) [.str keep0, .str push0] = true := by
        rcases m.low e with e | e <;> rw [e] <;> decide +kernel
      rw [z]
      exact r _ (same_new hp)
    · by_cases e : d = push0 ∨ d = swap0
      · have z : inV (.str d) [.str push0, .str swap0] = true := by
          rcases e with e | e <;> rw [e] <;> decide +kernel
        refine ⟨_, rfl, by decide, fun p hp => ⟨p, _, rfl, .inr two, rfl, rfl, _, rfl, ?_⟩⟩
        rw [z]
        refine iteT ?_
        have y := m.sym e
        refine ⟨_, rfl, x, rfl, Nat.le_trans (top_len (.inl y)) (by decide), fun H2 s2 => ?_⟩
        rw [y]
        exact k H2 ((s1.trans (same_new hp)).trans s2)
      · have e2 : d = keep0 ∨ d = pop0 := by
          rcases m.one with z | z | z | z
          · exact .inl z
          · exact .inr z
          · exact absurd (.inl z) e
          · exact absurd (.inr z) e
        have z : inV (.str d) [.str push0, .str swap0] = false := by
          rcases e2 with e | e <;> rw [e] <;> decide +kernel
        refine ⟨_, rfl, by decide, fun p hp => ⟨p, _, rfl, .inr two, rfl, rfl, _, rfl, ?_⟩⟩
        rw [z]
        refine iteF ?_
        refine ⟨_, rfl, _, _, _, _, true, rfl, .ty _, .base (.str _), kit_ty (by decide +kernel), _, rfl, ?_⟩
        refine iteT ?_
        refine ⟨_, rfl, rfl, ?_⟩
        rw [dec_str, m.no e2, decide_eq_true rfl]
        exact k _ (s1.trans (same_new hp))
end
end Mk

set_option Elab.async false
set_option maxRecDepth 100000
set_option maxHeartbeats 4000000
namespace Mk
open PySem L2 Pk
def gSq (b : Bool) (K : PySem.W.Frag) (n : Nat) (t : TGs) : TG := match b with
  | true => gLst K n t
  | false => gTup K n t
theorem pg_sq {X : Cx} {pos : Pos} {es : List Expr} {k : Nat} {t : TGs} {n : Nat} (b : Bool) (hc : X.calm = true) (h : PGs X es t)
    (hn : (assignEach es X.env).length = n := by rfl) (hst : (assignEach es X.env).findIdx? (·.1) = none := by rfl) : PG X (.Tuple es k pos) (gSq b X.K n t) := by
  cases b
  · exact pg_tup hc h hn hst
  · exact pg_lst hc h hn hst
theorem gsq_of {b : Bool} {K : PySem.W.Frag} {n : Nat} {t : TGs} {v : V} {σ : L2.St} {H : Hp} {Q} (h : ∃ a xs, v = .ref a ∧ SqB b K H a xs ∧ xs.length = n ∧ t xs σ H Q) : gSq b K n t v σ H Q := by
  cases b
  · exact h
  · exact h
/-- a rule -/
structure Rl where
  st : Int
  sg : PySem.Str
  tp : PySem.Str
  af : Int
  mv : Int
  de : PySem.Str
  sy : PySem.Str
  sa : PySem.Str
  deriving DecidableEq
def Rl.vs (r : Rl) : List V := [.int r.st, .str r.sg, .str r.tp, .int r.af, .int r.mv, .str r.de, .str r.sy, .str r.sa]
structure RlOk (l : PySem.Str) (n : Int) (r : Rl) : Prop where
  st : 0 ≤ r.st ∧ r.st ≤ n - 1
  sg : Sgn l r.sg
  tp : Top r.tp
  af : 0 ≤ r.af ∧ r.af ≤ n - 1
  mv : Mv r.sg r.mv
  de : Deed r.tp r.de r.sy
  sa : lowB r.sa = true ∧ r.sa.length ≤ 3
section
variable {P : Program} {w : World} {K : PySem.W.Frag} {mg : PySem.Str → Option Value} {base : Heap}
/-! is_state -/
def spState : Sp := fun vs H Q _ => ∃ n v : Int, vs = [.int n, .int v] ∧ Q (.bl (decide (0 ≤ v) && decide (v ≤ n - 1))) H
theorem scState : FnScope ["states", "value"] ["states", "value"] (defScope sState) := ⟨rfl, rfl, rfl, by decide +kernel, rfl, by decide +kernel, by decide +kernel⟩
theorem ok_state {f : Addr} {fd : FuncData} (F : Fun K "is_state" "is_state" sState f fd) (G : Got P w K mg base "is_between" 2 ["value", "least", "most"] spBetween) : FnOk P w K mg base CX0 3 f fd ["states", "value"] spState := by
  refine F.ok scState (fun vs H Q E h => ?_) (fun cdv A outer s H vs Q E hr h => ?_)
  · obtain ⟨n, v, rfl, _⟩ := h
    rfl
  · obtain ⟨n, v, rfl, k⟩ := h
    refine ⟨_, pss_one (ps_ret (pe_got G hr (by rfl) (pa_cons (pv 1) (pa_cons pe_int (pa_cons (pe_op op_sub (pv 0) pe_int) pa_nil))))), ?_⟩
    exact ⟨_, rfl, _, rfl, _, _, rfl, rfl, v, 0, n - 1, rfl, k⟩
/-! is_rule -/
structure RuleDefs (P : Program) (w : World) (K : PySem.W.Frag) (mg : PySem.Str → Option Value) (base : Heap) : Prop where
  row : Got P w K mg base "is_row" 2 ["value", "length"] (spRow K)
  state : Got P w K mg base "is_state" 3 ["states", "value"] spState
  sign : Got P w K mg base "is_sign" 1 ["letters", "value"] spSign
  top : Got P w K mg base "is_top" 3 ["value"] spTop
  move : Got P w K mg base "is_move" 3 ["sign", "value"] spMove
  deed : Got P w K mg base "is_deed" 3 ["top", "deed", "symbol"] spDeed
  letters : Got P w K mg base "are_letters" 1 ["value", "most"] spLetters
def spRule (K : PySem.W.Frag) : Sp := fun vs H Q _ => ∃ (l : PySem.Str) (n : Int) (a : Addr) (b : Bool) (r : Rl), vs = [.str l, .int n, .ref a] ∧ SqB b K H a r.vs ∧ RlOk l n r ∧ ∀ H', Same H H' → Q (.bl true) H'
abbrev nRule : List PySem.Str := ["letters", "states", "value", "state", "sign", "top", "after", "move", "deed", "symbol", "said"]
theorem scRule : FnScope nRule ["letters", "states", "value"] (defScope sRule) := ⟨rfl, rfl, rfl, by decide +kernel, rfl, by decide +kernel, by decide +kernel⟩
theorem ok_rule {f : Addr} {fd : FuncData} (F : Fun K "is_rule" "is_rule" sRule f fd) (G : RuleDefs P w K mg base) : FnOk P w K mg base CX0 4 f fd ["letters", "states", "value"] (spRule K) := by
  refine F.ok scRule (fun vs H Q E h => ?_) (fun cdv A outer s H vs Q E hr h => ?_)
  · obtain ⟨l, n, a, b, r, rfl, _⟩ := h
    rfl
  · obtain ⟨l, n, a, b, r, rfl, hS, ok, k⟩ := h
    have h2 := hr.mono (show 2 ≤ 3 by decide)
    have h1 := hr.mono (show 1 ≤ 3 by decide)
    refine ⟨_, pss_cons (ps_if (pt_not (pt_val (pe_got G.row h2 (by rfl) (pa_cons (pv 2) (pa_cons pe_int pa_nil))))) (pss_one (ps_ret pe_bl)) pss_nil)
      (pss_cons (ps_asg (pv 2) (pg_sq b (by rfl) (pgs_cons (pg_name (i := 3) scRule.nd rfl (Or.inl rfl)) (pgs_cons (pg_name (i := 4) scRule.nd rfl (Or.inl rfl)) (pgs_cons (pg_name (i := 5) scRule.nd rfl (Or.inl rfl))
        (pgs_cons (pg_name (i := 6) scRule.nd rfl (Or.inl rfl)) (pgs_cons (pg_name (i := 7) scRule.nd rfl (Or.inl rfl)) (pgs_cons (pg_name (i := 8) scRule.nd rfl (Or.inl rfl)) (pgs_cons (pg_name (i := 9) scRule.nd rfl (Or.inl rfl)) (pgs_cons (pg_name (i := 10) scRule.nd rfl (Or.inl rfl)) pgs_nil))))))))))
      (pss_cons (ps_if (pt_not (PW.pt (pw_and (pt_val (pe_got G.state hr (by rfl) (pa_cons (pv 1) (pa_cons (pv 3) pa_nil)))) (pw_and (pt_val (pe_got G.sign h1 (by rfl) (pa_cons (pv 0) (pa_cons (pv 4) pa_nil)))) (pw_and1 (pt_val (pe_got G.top hr (by rfl) (pa_cons (pv 5) pa_nil))))))) ) (pss_one (ps_ret pe_bl)) pss_nil)
      (pss_cons (ps_if (pt_not (PW.pt (pw_and (pt_val (pe_got G.state hr (by rfl) (pa_cons (pv 1) (pa_cons (pv 6) pa_nil)))) (pw_and1 (pt_val (pe_got G.move hr (by rfl) (pa_cons (pv 4) (pa_cons (pv 7) pa_nil))))))) ) (pss_one (ps_ret pe_bl)) pss_nil)
      (pss_one (ps_ret (pe_and (pe_got G.deed hr (by rfl) (pa_cons (pv 5) (pa_cons (pv 8) (pa_cons (pv 9) pa_nil)))) (pe_one (pe_got G.letters h1 (by rfl) (pa_cons (pv 10) (pa_cons pe_int pa_nil)))))))))), ?_⟩
    refine ⟨_, rfl, a, b, r.vs, 8, rfl, hS, fun H1 s1 => ⟨_, rfl, ?_⟩⟩
    rw [show decide (((r.vs.length : Nat) : Int) = 8) = true from rfl]
    refine iteF ?_
    refine ⟨_, rfl, gsq_of ⟨a, r.vs, rfl, hS.mono s1, rfl, _, _, rfl, _, _, rfl, _, _, rfl, _, _, rfl, _, _, rfl, _, _, rfl, _, _, rfl, _, _, rfl, rfl, ?_⟩⟩
    refine ⟨_, rfl, _, rfl, n, r.st, rfl, _, rfl, ?_⟩
    rw [decide_eq_true ok.st.1, decide_eq_true ok.st.2]
    refine iteT ?_
    refine ⟨_, rfl, _, rfl, l, r.sg, rfl, ok.sg, _, rfl, ?_⟩
    refine iteT ?_
    refine ⟨_, rfl, r.tp, rfl, ok.tp, fun H2 s2 => ⟨_, rfl, ?_⟩⟩
    refine iteF ?_
    refine ⟨_, rfl, _, rfl, n, r.af, rfl, _, rfl, ?_⟩
    rw [decide_eq_true ok.af.1, decide_eq_true ok.af.2]
    refine iteT ?_
    refine ⟨_, rfl, _, rfl, r.sg, r.mv, rfl, ok.mv, _, rfl, ?_⟩
    refine iteF ?_
    refine ⟨_, rfl, _, rfl, _, rfl, r.tp, r.de, r.sy, rfl, ok.de, fun H3 s3 => ⟨_, rfl, ?_⟩⟩
    refine iteT ?_
    refine ⟨_, rfl, r.sa, 3, rfl, Nat.le_trans ok.sa.2 (by decide), fun H4 s4 => ?_⟩
    rw [ok.sa.1, decide_eq_true (p := (r.sa.length : Int) ≤ 3) (by have := ok.sa.2; omega)]
    exact k H4 (((s1.trans s2).trans s3).trans s4)
end
end Mk

set_option Elab.async false
set_option maxRecDepth 100000
set_option maxHeartbeats 4000000
namespace Mk
open PySem L2 Pk
def iSq (b : Bool) (K : PySem.W.Frag) (tl : TE) : TI := match b with
  | true => iList K tl
  | false => iTup K tl
theorem pi_sq {X : Cx} {tg l : Expr} {tl : TE} (b : Bool) (hl : PE X l tl) : PI X tg l (iSq b X.K tl) := by
  cases b
  · exact pi_tup hl
  · exact pi_list hl
def ItB (b : Bool) (K : PySem.W.Frag) (a : Addr) := match b with
  | true => Itl K a
  | false => Itt K a
theorem isq_of {b : Bool} {K : PySem.W.Frag} {tl : TE} {σ : L2.St} {H : Hp} {R} (h : tl σ H fun x H1 => ∃ a, x = .ref a ∧ (∃ xs, SqB b K H1 a xs) ∧ R (ItB b K a) H1) : iSq b K tl σ H R := by
  cases b
  · exact h
  · exact h
/-- a walk over a list or a tuple that stays -/
theorem walk_sq {b : Bool} {K : PySem.W.Frag} {a : Addr} {xs : List V} : Walk (ItB b K a) xs.length (fun H => SqB b K H a xs) (YAt xs) := by
  cases b
  · exact walk_tup
  · exact walk_list
theorem ix_sq {b : Bool} {K : PySem.W.Frag} {H : Hp} {a : Addr} {xs : List V} {i : Int} {v : V} {Q : VK} (h : SqB b K H a xs) (e : atI xs i = some v) (q : Q v H) : rIx K (.ref a) (.int i) H Q := by
  cases b
  · exact .inr (.inl ⟨a, xs, i, v, rfl, rfl, h, e, q⟩)
  · exact .inl ⟨a, xs, i, v, rfl, rfl, h, e, q⟩
abbrev sCheck : Stmt := top 39
/-- rules as they are handed in -/
abbrev Hand := List (Addr × Bool × Rl)
structure HandOk (K : PySem.W.Frag) (H : Hp) (l : PySem.Str) (n : Int) (R : Hand) : Prop where
  at_ : ∀ p ∈ R, SqB p.2.1 K H p.1 p.2.2.vs
  ok : ∀ p ∈ R, RlOk l n p.2.2
  most : R.length ≤ 20000
theorem HandOk.mono {K : PySem.W.Frag} {H H' : Hp} {l : PySem.Str} {n : Int} {R : Hand} (h : HandOk K H l n R) (e : Same H H') : HandOk K H' l n R := ⟨fun p m => (h.at_ p m).mono e, h.ok, h.most⟩
section
variable {P : Program} {w : World} {K : PySem.W.Frag} {mg : PySem.Str → Option Value} {base : Heap}
structure ChkDefs (P : Program) (w : World) (K : PySem.W.Frag) (mg : PySem.Str → Option Value) (base : Heap) : Prop where
  alphabet : Got P w K mg base "is_alphabet" 2 ["value"] spAlphabet
  between : Got P w K mg base "is_between" 2 ["value", "least", "most"] spBetween
  sequence : Got P w K mg base "is_sequence" 1 ["value"] (spSequence K)
  rule : Got P w K mg base "is_rule" 4 ["letters", "states", "value"] (spRule K)
  state : Got P w K mg base "is_state" 3 ["states", "value"] spState
  ms : ∃ t, mg "MOST_STATES" = some (.int 2000 t)
  mr : ∃ t, mg "MOST_RULES" = some (.int 20000 t)
def refsH (R : Hand) : List V := R.map fun p => .ref p.1
structure ArgsOk (K : PySem.W.Frag) (H : Hp) (l : PySem.Str) (n : Int) (aR aY : Addr) (bR bY : Bool) (R : Hand) (ys : List Int) : Prop where
  alpha : Alpha l
  num : 1 ≤ n ∧ n ≤ 2000
  rs : SqB bR K H aR (refsH R)
  hand : HandOk K H l n R
  yes : SqB bY K H aY (ys.map V.int)
  in_ : ∀ y ∈ ys, 0 ≤ y ∧ y ≤ n - 1
  few : ys.length ≤ 100000
def spCheck (K : PySem.W.Frag) : Sp := fun vs H Q _ => ∃ (l : PySem.Str) (n : Int) (aR aY : Addr) (bR bY : Bool) (R : Hand) (ys : List Int), vs = [.str l, .int n, .ref aR, .ref aY] ∧ ArgsOk K H l n aR aY bR bY R ys ∧ ∀ H', Same H H' → Q .non H'
abbrev nCheck : List PySem.Str := ["letters", "states", "rules", "yes", "index", "state"]
theorem scCheck : FnScope nCheck ["letters", "states", "rules", "yes"] (defScope sCheck) := ⟨rfl, rfl, rfl, by decide +kernel, rfl, by decide +kernel, by decide +kernel⟩
theorem ok_check {f : Addr} {fd : FuncData} (F : Fun K "check_arguments" "check_arguments" sCheck f fd) (T : TM mg) (G : ChkDefs P w K mg base) : FnOk P w K mg base CX0 5 f fd ["letters", "states", "rules", "yes"] (spCheck K) := by
  refine F.ok scCheck (fun vs H Q E h => ?_) (fun cdv A outer s H vs Q E hr h => ?_)
  · obtain ⟨l, n, aR, aY, bR, bY, R, ys, rfl, _⟩ := h
    rfl
  · obtain ⟨l, n, aR, aY, bR, bY, R, ys, rfl, a, k⟩ := h
    obtain ⟨t1, gS⟩ := G.ms
    obtain ⟨t2, gR⟩ := G.mr
    have h1 := hr.mono (show 1 ≤ 4 by decide)
    have h2 := hr.mono (show 2 ≤ 4 by decide)
    have h3 := hr.mono (show 3 ≤ 4 by decide)
    have most := a.hand.most
    refine ⟨_, pss_cons (ps_if (pt_not (pt_val (pe_got G.alphabet h2 (by rfl) (pa_cons (pv 0) pa_nil)))) pss_never pss_nil)
      (pss_cons (ps_if (pt_not (pt_val (pe_got G.between h2 (by rfl) (pa_cons (pv 1) (pa_cons pe_int (pa_cons (pe_glob (v := .int 2000) (by rfl) gS ⟨t1, rfl⟩) pa_nil)))))) pss_never pss_nil)
      (pss_cons (ps_if (PW.pt (pw_or (pt_not (pt_val (pe_got G.sequence h1 (by rfl) (pa_cons (pv 2) pa_nil)))) (pw_or1 (pt_cmpR op_gt (pe_callB call_len_seq (by rfl) T.len PySem.boot_len (pa_cons (pv 2) pa_nil)) (pe_glob (v := .int 20000) (by rfl) gR ⟨t2, rfl⟩) (nomark _))))) pss_never pss_nil)
      (pss_cons (ps_for PassesOwn.never rfl (pi_range1 (by rfl) T.range (pa_cons (pe_callB call_len_seq (by rfl) T.len PySem.boot_len (pa_cons (pv 2) pa_nil)) pa_nil)) (pg_name (i := 4) scCheck.nd rfl (Or.inl rfl))
        (pss_one (ps_if (pt_not (pt_val (pe_got G.rule hr (by rfl) (pa_cons (pv 0) (pa_cons (pv 1) (pa_cons (pe_ix ix_seq (pv 2) (pv 4) fun _ _ => rfl) pa_nil)))))) pss_never pss_nil)))
      (pss_one (ps_if (PW.pt (pw_or (pt_not (pt_val (pe_got G.sequence h1 (by rfl) (pa_cons (pv 3) pa_nil)))) (pw_or1 (pt_not (pt_val (pe_callB (cr_all rfl) (by rfl) T.all (by decide +kernel) (pa_cons (pe_lc (own := [("state", 5)]) (g := gName 5) (tt := tYes) (by rfl) scCheck.nd (pi_sq bY (pv 3))
        (blkOk_by (own := [("state", 5)]) (N := nCheck) (sc := defScope sCheck) (by decide +kernel))
        (fun _ _ _ _ _ => pg_name (i := 5) scCheck.nd rfl (Or.inl rfl)) (fun _ _ _ _ _ => pts_nil) (fun _ _ _ _ _ => pe_got G.state h3 (by rfl) (pa_cons (pv 1) (pa_cons (pv 5) pa_nil)))) pa_nil))))))) pss_never pss_nil))))), ?_⟩
    refine ⟨_, rfl, l, rfl, a.alpha, fun H1 s1 => ⟨_, rfl, ?_⟩⟩
    refine iteF ?_
    refine ⟨_, rfl, n, 1, 2000, rfl, _, rfl, ?_⟩
    rw [decide_eq_true a.num.1, decide_eq_true a.num.2]
    refine iteF ?_
    refine ⟨_, rfl, aR, bR, _, rfl, a.rs.mono s1, fun H2 s2 => ⟨_, rfl, ?_⟩⟩
    refine iteF ?_
    have s12 := s1.trans s2
    have lR : (refsH R).length = R.length := List.length_map ..
    refine ⟨_, rfl, aR, _, rfl, (a.rs.mono s12).any, _, _, rfl, rfl, _, rfl, ?_⟩
    rw [decide_eq_false (p := ((refsH R).length : Int) > 20000) (by rw [lR]; omega)]
    refine iteF ?_
    refine ⟨_, rfl, aR, _, rfl, (a.rs.mono s12).any, _, rfl, by omega, by omega, for_range (lo := 0) (n := (((refsH R).length : Nat) : Int).toNat) (fun i σ H' => Same H H' ∧ ∃ v : Option V, σ = [some (.str l), some (.int n), some (.ref aR), some (.ref aY), v, none])
      ⟨s12, none, rfl⟩ ?_ ?_⟩
    · rintro i σ H3 hi ⟨s3, v, rfl⟩
      have hi' : i < R.length := by omega
      have hx : (refsH R)[i]? = some (.ref R[i].1) := by unfold refsH; rw [List.getElem?_map, List.getElem?_eq_getElem hi'] <;> rfl
      have m : R[i] ∈ R := List.getElem_mem hi'
      refine ⟨_, rfl, _, rfl, _, rfl, _, rfl, ix_sq (a.rs.mono s3) (by rw [Int.zero_add]; exact atI_nat hx) ?_⟩
      refine ⟨l, n, _, _, R[i].2.2, rfl, (a.hand.at_ _ m).mono s3, a.hand.ok _ m, fun H4 s4 => ⟨_, rfl, ?_⟩⟩
      refine iteF ?_
      exact ⟨s3.trans s4, _, rfl⟩
    · rintro σ H3 ⟨s3, v, rfl⟩
      refine ⟨_, rfl, aY, bY, _, rfl, a.yes.mono s3, fun H4 s4 => ⟨_, rfl, ?_⟩⟩
      refine iteF ?_
      have s34 := s3.trans s4
      refine isq_of ⟨_, rfl, aY, rfl, ⟨_, a.yes.mono s34⟩, fun D hD => lc_it (walk_sq (b := bY) (K := K) (a := aY) (xs := ys.map V.int)) (fun i H' => Same H H' ∧ H' D = some (.lst ((List.replicate i true).map V.bl)))
        ⟨s34.trans (same_new hD), by rw [upd_same]; rfl⟩ (fun i H' _ h => a.yes.mono h.1) ?_ ?_⟩
      · rintro i y H5 H6 hi ⟨s5, hD5⟩ ⟨rfl, ey⟩
        obtain ⟨z, ez, rfl⟩ := mapInt ey
        have iz := a.in_ z (List.mem_of_getElem? ez)
        rw [List.length_map] at hi
        refine ⟨rfl, ?_⟩
        refine ⟨_, rfl, _, rfl, n, z, rfl, _, hD5, ?_, same_mut s5 (s34.free hD), ?_⟩
        · rw [List.length_map, List.length_replicate]
          exact Nat.lt_of_lt_of_le (Nat.lt_of_lt_of_le hi a.few) (by decide)
        · rw [upd_same, List.replicate_succ', List.map_append, decide_eq_true iz.1, decide_eq_true iz.2]
          rfl
      · rintro H5 ⟨s5, hD5⟩
        refine ⟨D, _, rfl, SqL.of hD5, _, rfl, ?_⟩
        rw [show (List.replicate (ys.map V.int).length true).all id = true by simp]
        refine iteF ?_
        exact k H5 s5
end
end Mk

/-! the map x ↦ 5 x + 1 modulo a power of two runs through all places -/
namespace Sx
/-- 1 + 5 + .. + 5^(n-1) -/
def geo : Nat → Nat
  | 0 => 0
  | n + 1 => geo n * 5 + 1
theorem geo_pow : ∀ n, 4 * geo n + 1 = 5 ^ n
  | 0 => rfl
  | n + 1 => by
    have h := geo_pow n
    show 4 * (geo n * 5 + 1) + 1 = 5 ^ n * 5
    omega
theorem geo_add (a : Nat) : ∀ b, geo (a + b) = geo a * 5 ^ b + geo b
  | 0 => by show geo a = geo a * 1 + 0; omega
  | b + 1 => by
    have h := geo_add a b
    show geo (a + b) * 5 + 1 = geo a * (5 ^ b * 5) + (geo b * 5 + 1)
    rw [h, Nat.add_mul, Nat.mul_assoc]
    omega
theorem geo_odd : ∀ n, geo n % 2 = n % 2
  | 0 => rfl
  | n + 1 => by
    have h := geo_odd n
    show (geo n * 5 + 1) % 2 = (n + 1) % 2
    omega
theorem pow5_mod4 (n : Nat) : 5 ^ n % 4 = 1 := by
  have h := geo_pow n
  omega
/-- geo (2 n) = geo n times twice an odd number -/
theorem geo_two (n : Nat) : ∃ q, geo (2 * n) = geo n * (2 * (2 * q + 1)) := by
  have h4 := pow5_mod4 n
  refine ⟨5 ^ n / 4, ?_⟩
  have e : 5 ^ n + 1 = 2 * (2 * (5 ^ n / 4) + 1) := by omega
  rw [← e, show 2 * n = n + n by omega, geo_add, Nat.mul_add, Nat.mul_one]
theorem odd_drop {k a q : Nat} (h : 2 ^ k ∣ a * (2 * q + 1)) : 2 ^ k ∣ a := by
  induction k generalizing a with
  | zero => exact ⟨a, by simp⟩
  | succ k ih =>
    have h1 : 2 ^ k ∣ a * (2 * q + 1) := Nat.dvd_trans ⟨2, by rw [Nat.pow_succ]⟩ h
    obtain ⟨b, rfl⟩ := ih h1
    obtain ⟨c, hc⟩ := h
    have hp : 0 < 2 ^ k := Nat.pow_pos (by decide)
    have e : b * (2 * q + 1) = 2 * c := by
      have : 2 ^ k * (b * (2 * q + 1)) = 2 ^ k * (2 * c) := by
        rw [← Nat.mul_assoc, hc, Nat.pow_succ, Nat.mul_assoc]
      exact Nat.eq_of_mul_eq_mul_left hp this
    have e2 : b * (2 * q) + b = 2 * c := by rw [← e, Nat.mul_add, Nat.mul_one]
    have e3 : b * (2 * q) = 2 * (b * q) := by rw [← Nat.mul_assoc, Nat.mul_comm b 2, Nat.mul_assoc]
    have hb : b % 2 = 0 := by omega
    obtain ⟨d, rfl⟩ : ∃ d, b = 2 * d := ⟨b / 2, by omega⟩
    exact ⟨d, by rw [Nat.pow_succ, Nat.mul_assoc]⟩
theorem geo_dvd : ∀ (k n : Nat), 2 ^ k ∣ geo n → 2 ^ k ∣ n
  | 0, n, _ => ⟨n, by simp⟩
  | k + 1, n, h => by
    have h2 : 2 ∣ geo n := Nat.dvd_trans ⟨2 ^ k, by rw [Nat.pow_succ, Nat.mul_comm]⟩ h
    have ev : n % 2 = 0 := by
      have o := geo_odd n
      omega
    obtain ⟨m, rfl⟩ : ∃ m, n = 2 * m := ⟨n / 2, by omega⟩
    obtain ⟨q, e⟩ := geo_two m
    rw [e] at h
    have h3 : 2 ^ k ∣ geo m * (2 * q + 1) := by
      obtain ⟨c, hc⟩ := h
      refine ⟨c, ?_⟩
      have : 2 * (geo m * (2 * q + 1)) = 2 * (2 ^ k * c) := by
        have l : geo m * (2 * (2 * q + 1)) = 2 * (geo m * (2 * q + 1)) := by rw [← Nat.mul_assoc, Nat.mul_comm (geo m) 2, Nat.mul_assoc]
        rw [← l, hc, Nat.pow_succ, Nat.mul_comm (2 ^ k) 2, Nat.mul_assoc]
      exact Nat.eq_of_mul_eq_mul_left (by decide) this
    obtain ⟨c, hc⟩ := geo_dvd k m (odd_drop h3)
    exact ⟨c, by rw [hc, Nat.pow_succ, Nat.mul_comm (2 ^ k) 2, Nat.mul_assoc]⟩
/-- the n-th place from i -/
def orb (M i : Nat) : Nat → Nat
  | 0 => i
  | n + 1 => (orb M i n * 5 + 1) % M
theorem orb_val {M i : Nat} (hi : i < M) : ∀ n, orb M i n = (5 ^ n * i + geo n) % M
  | 0 => by show i = (1 * i + 0) % M; rw [Nat.one_mul, Nat.add_zero, Nat.mod_eq_of_lt hi]
  | n + 1 => by
    show (orb M i n * 5 + 1) % M = (5 ^ n * 5 * i + (geo n * 5 + 1)) % M
    rw [orb_val hi n, Nat.add_mod, Nat.mul_mod, Nat.mod_mod, ← Nat.mul_mod, ← Nat.add_mod]
    congr 1
    rw [Nat.add_mul, Nat.mul_right_comm]
    omega
theorem mod_eq_dvd {M a b : Nat} (h : a % M = b % M) : M ∣ b - a := by
  have e : (b - a) % M = 0 := Nat.sub_mod_eq_zero_of_mod_eq h.symm
  exact Nat.dvd_of_mod_eq_zero e
theorem orb_inj {k i a b : Nat} (hi : i < 2 ^ k) (hab : a ≤ b) (hb : b < 2 ^ k) (h : orb (2 ^ k) i a = orb (2 ^ k) i b) : a = b := by
  rw [orb_val hi, orb_val hi] at h
  have d := mod_eq_dvd h
  obtain ⟨c, rfl⟩ : ∃ c, b = c + a := ⟨b - a, by omega⟩
  have ga := geo_pow a
  have gb := geo_pow (c + a)
  have gs := geo_add c a
  have e : 5 ^ (c + a) * i + geo (c + a) - (5 ^ a * i + geo a) = geo c * 5 ^ a * (2 * (2 * i) + 1) := by
    have l : geo (c + a) = geo c * 5 ^ a + geo a := gs
    rw [← gb, l]
    generalize geo c * 5 ^ a = x
    rw [← ga]
    have e1 : (4 * (x + geo a) + 1) * i = 4 * (x * i) + (4 * geo a + 1) * i := by
      rw [Nat.mul_add, Nat.add_assoc, Nat.add_mul, Nat.mul_assoc]
    have e2 : x * (2 * (2 * i) + 1) = 4 * (x * i) + x := by
      rw [Nat.mul_add, Nat.mul_one, ← Nat.mul_assoc 2 2 i, Nat.mul_left_comm]
    rw [e1, e2]
    omega
  rw [e] at d
  have d2 := odd_drop d
  obtain ⟨q, hq⟩ : ∃ q, 5 ^ a = 2 * q + 1 := ⟨5 ^ a / 2, by have := pow5_mod4 a; omega⟩
  rw [hq] at d2
  obtain ⟨t, ht⟩ := geo_dvd k c (odd_drop d2)
  cases t with
  | zero => rw [Nat.mul_zero] at ht; omega
  | succ t =>
    have : 2 ^ k ≤ c := by rw [ht, Nat.mul_succ]; omega
    omega
theorem nd_len {α : Type} [DecidableEq α] : ∀ (l D : List α), l.Nodup → (∀ x ∈ l, x ∈ D) → l.length ≤ D.length
  | [], _, _, _ => Nat.zero_le _
  | a :: l, D, h, s => by
    have ha := s a List.mem_cons_self
    have hn := List.nodup_cons.mp h
    have ih := nd_len l (D.erase a) hn.2 fun x hx => (List.mem_erase_of_ne (fun e => hn.1 (by rw [← e]; exact hx))).2 (s x (List.mem_cons_of_mem _ hx))
    rw [List.length_erase_of_mem ha] at ih
    have : 0 < D.length := List.length_pos_of_mem ha
    rw [List.length_cons]
    omega
theorem orb_lt {M i : Nat} (hi : i < M) : ∀ n, orb M i n < M
  | 0 => hi
  | _ + 1 => Nat.mod_lt _ (by omega)
/-- every place is met -/
theorem orb_all {k i j : Nat} (hi : i < 2 ^ k) (hj : j < 2 ^ k) : ∃ n, n < 2 ^ k ∧ orb (2 ^ k) i n = j := by
  apply Classical.byContradiction
  intro no
  have miss : ∀ n, n < 2 ^ k → orb (2 ^ k) i n ≠ j := fun n hn e => no ⟨n, hn, e⟩
  have nd : (j :: (List.range (2 ^ k)).map (orb (2 ^ k) i)).Nodup := by
    refine List.nodup_cons.mpr ⟨fun hm => ?_, ?_⟩
    · obtain ⟨n, hn, e⟩ := List.mem_map.mp hm
      exact miss n (List.mem_range.mp hn) e
    · refine List.Pairwise.map _ (fun a b h => h) ?_
      refine List.Pairwise.imp_of_mem ?_ (List.nodup_range (n := 2 ^ k))
      intro a b ha hb hne e
      have ha' := List.mem_range.mp ha
      have hb' := List.mem_range.mp hb
      rcases Nat.le_total a b with c | c
      · exact hne (orb_inj hi c hb' e)
      · exact hne (orb_inj hi c ha' e.symm).symm
  have l := nd_len _ (List.range (2 ^ k)) nd fun x hx => by
    rcases List.mem_cons.mp hx with rfl | hx
    · exact List.mem_range.mpr hj
    · obtain ⟨n, _, rfl⟩ := List.mem_map.mp hx
      exact List.mem_range.mpr (orb_lt hi n)
  rw [List.length_cons, List.length_map, List.length_range] at l
  omega
end Sx

set_option linter.all false
set_option maxRecDepth 100000
/-! sets whose table has any mask 2^k - 1: the search finds what stands there -/
namespace Sx
open PySem PyProof.Rows L2

/-- the masks of tables of fewer than some thousand items -/
def MaskG (m : Nat) : Prop := ∃ k, 3 ≤ k ∧ k ≤ 13 ∧ m + 1 = 2 ^ k
theorem MaskG.odd {m : Nat} (h : MaskG m) : m % 2 = 1 := by
  obtain ⟨k, h3, _, e⟩ := h
  obtain ⟨q, rfl⟩ : ∃ q, k = q + 1 := ⟨k - 1, by omega⟩
  rw [Nat.pow_succ] at e
  omega
theorem MaskG.top {m : Nat} (h : MaskG m) : m ≤ 8191 := by
  obtain ⟨k, _, h13, e⟩ := h
  have q : 2 ^ k ≤ 2 ^ 13 := Nat.pow_le_pow_right (by decide) h13
  have z : (2 : Nat) ^ 13 = 8192 := by decide
  omega
theorem lcg_is_orb (m i : Nat) : ∀ n, lcgI m i n = orb (m + 1) i n
  | 0 => rfl
  | n + 1 => by
    show (lcgI m i n * 5 + 1) % (m + 1) = (orb (m + 1) i n * 5 + 1) % (m + 1)
    rw [lcg_is_orb m i n]
theorem runs_come {m : Nat} (g : MaskG m) (h : Int) {j : Nat} (hj : j ≤ m) : ∃ n, n ≤ m + 12 ∧ runI m (SetTable.bits h) n = j := by
  obtain ⟨k, _, _, e⟩ := g
  have lo := runI_le m (SetTable.bits h) 12
  obtain ⟨n, hn, q⟩ := orb_all (k := k) (i := runI m (SetTable.bits h) 12) (j := j) (by omega) (by omega)
  refine ⟨12 + n, by omega, ?_⟩
  rw [runI_tail (bits_lt h), lcg_is_orb, e]
  exact q
theorem slots_come {m : Nat} (g : MaskG m) (h : Int) {j : Nat} (hj : j ≤ m) : ∃ k, k < 10 * SetTable.turns m ∧ way m h k = j := by
  obtain ⟨n, a, b⟩ := runs_come g h hj
  obtain ⟨k, c, d⟩ := run_nth m (SetTable.bits h) n
  have t : SetTable.turns m = m + 15 := rfl
  refine ⟨k, by omega, ?_⟩
  show (nth m (runAt m (SetTable.bits h % (m + 1)) (SetTable.bits h)) k).j = j
  rw [d]
  exact b
theorem way_in {m : Nat} {h : Int} {k : Nat} : way m h k ≤ m := by
  have first : SetTable.bits h % (m + 1) ≤ m := Nat.le_of_lt_succ (Nat.mod_lt _ (Nat.succ_pos _))
  have q := runEnd_bd first
  have z := nth_in k (runAt m (SetTable.bits h % (m + 1)) (SetTable.bits h)) (m := m) (show SetTable.bits h % (m + 1) + (SetTable.runEnd m (SetTable.bits h % (m + 1)) - SetTable.bits h % (m + 1)) ≤ m by omega)
  exact Nat.le_trans (Nat.le_add_right _ _) z

/-- each item's slot is found from its hash -/
structure Tab (t : SetTable) (hs : List Int) : Prop where
  up : Ris t.place.toList
  clean : t.dummies = #[]
  size : t.place.size = hs.length
  mask : MaskG t.mask
  le : ∀ x ∈ t.place.toList, x ≤ t.mask
  found : ∀ (i : Nat) (h : Int) (j : Nat), hs[i]? = some h → t.place.toList[i]? = some j → ∃ k, way t.mask h k = j ∧ ∀ c, c < k → way t.mask h c ∈ t.place.toList

section
variable {t : SetTable} {hs : List Int}
theorem Tab.gap (T : Tab t hs) (few : hs.length ≤ t.mask) (h : Int) : ∃ K, K < 10 * SetTable.turns t.mask ∧ way t.mask h K ∉ t.place.toList ∧ ∀ k, k < K → way t.mask h k ∈ t.place.toList := by
  have size := T.size
  obtain ⟨j, lt, no⟩ := st_missing t.place.toList (t.mask + 1) (by rw [Array.length_toList]; omega)
  obtain ⟨k, hk, rfl⟩ := slots_come T.mask h (Nat.le_of_lt_succ lt)
  obtain ⟨K, le, nK, below⟩ := st_least (p := fun k => way t.mask h k ∉ t.place.toList) k no
  exact ⟨K, by omega, nK, fun c hc => Classical.byContradiction (below c hc)⟩
theorem Tab.sooner (T : Tab t hs) {h : Int} {K i j : Nat} (nK : way t.mask h K ∉ t.place.toList) (hi : hs[i]? = some h) (hj : t.place.toList[i]? = some j) : ∃ k, k < K ∧ way t.mask h k = j := by
  obtain ⟨k, e, all⟩ := T.found i h j hi hj
  refine ⟨k, Nat.lt_of_not_le fun le => ?_, e⟩
  rcases Nat.lt_or_eq_of_le le with c | c
  · exact nK (all K c)
  · exact nK (by rw [c, e]; exact List.mem_of_getElem? hj)
/-- one more, at the first gap of its way -/
theorem Tab.one_more (T : Tab t hs) {h : Int} {K : Nat} (nK : way t.mask h K ∉ t.place.toList) (all : ∀ k, k < K → way t.mask h k ∈ t.place.toList) :
    SetTable.below t.place (way t.mask h K) ≤ hs.length ∧
    Tab (t.put (way t.mask h K)).1 (hs.take (SetTable.below t.place (way t.mask h K)) ++ h :: hs.drop (SetTable.below t.place (way t.mask h K))) ∧
    (t.put (way t.mask h K)).1.fill = hs.length + 1 := by
  have inside : way t.mask h K ≤ t.mask := way_in
  generalize ej : way t.mask h K = j at nK inside ⊢
  obtain ⟨low, _, _⟩ := below_cut T.up j
  have ps := T.size
  have lp : SetTable.below t.place j ≤ t.place.toList.length := by rw [Array.length_toList]; exact low
  have lh : SetTable.below t.place j ≤ hs.length := ps ▸ low
  have pl := put_place t j
  have keep : ∀ {x : Nat}, x ∈ t.place.toList → x ∈ (t.put j).1.place.toList := fun m => by rw [pl]; exact mem_ins.2 (.inr m)
  have sz : (t.put j).1.place.size = hs.length + 1 := by
    rw [← Array.length_toList, pl, len_ins _ lp, Array.length_toList, ps]
  have nw : t.place[SetTable.below t.place j]? ≠ some j := fun e => nK (List.mem_of_getElem? (by rw [Array.getElem?_toList]; exact e))
  refine ⟨lh, ?_, ?_⟩
  · constructor
    · exact ris_insert T.up nw
    · exact put_dm T.clean j
    · rw [len_ins _ lh]; exact sz
    · exact T.mask
    · intro x m
      rw [pl] at m
      rcases mem_ins.1 m with e | m
      · rw [e]; exact inside
      · exact T.le x m
    · intro i h' j' e1 e2
      rw [tins_get hs lh] at e1
      rw [pl, tins_get _ lp] at e2
      show ∃ k, way t.mask h' k = j' ∧ ∀ c, c < k → way t.mask h' c ∈ (t.put j).1.place.toList
      split at e1
      · rename_i c
        rw [if_pos c] at e2
        obtain ⟨k, e, z⟩ := T.found i h' j' e1 e2
        exact ⟨k, e, fun q hq => keep (z q hq)⟩
      · rename_i c
        rw [if_neg c] at e2
        split at e1
        · rename_i d
          rw [if_pos d] at e2
          cases e1
          cases e2
          exact ⟨K, ej, fun q hq => keep (all q hq)⟩
        · rename_i d
          rw [if_neg d] at e2
          obtain ⟨k, e, z⟩ := T.found (i - 1) h' j' e1 e2
          exact ⟨k, e, fun q hq => keep (z q hq)⟩
  · show (t.put j).1.place.size + (t.put j).1.dummies.size = hs.length + 1
    rw [put_dm T.clean j, sz] <;> rfl
end

/-! ### all laid anew -/
theorem gap_found {m : Nat} (g : MaskG m) (owner : Array (Option Nat)) (h : Int) {j : Nat} (hj : j ≤ m) (free : oAt owner j = none) :
    ∃ K, SetTable.layClean.free m owner (SetTable.turns m) (SetTable.bits h % (m + 1)) (SetTable.bits h) = some (way m h K) ∧ oAt owner (way m h K) = none ∧ ∀ k, k < K → oAt owner (way m h k) ≠ none := by
  obtain ⟨n, le, e⟩ := runs_come g h hj
  generalize hb : SetTable.bits h = b at e
  have st : way m h (off m (b % (m + 1)) b n) = j := by
    unfold way
    rw [hb, nth_off, itL_run]
    exact e
  have free' : oAt owner (way m h (off m (b % (m + 1)) b n)) = none := by rw [st]; exact free
  obtain ⟨K, leK, eK, below⟩ := st_least (p := fun k => oAt owner (way m h k) = none) _ free'
  have wb : ∀ k, way m h k = (nth m (runAt m (b % (m + 1)) b) k).j := fun k => by unfold way; rw [hb]
  refine ⟨K, ?_, eK, below⟩
  have q := free_spec m owner (SetTable.turns m) n (b % (m + 1)) b K (show n < m + 15 by omega) leK (fun k hk => ?_) ?_
  · rw [q, wb]
  · rw [← wb, Option.isNone_eq_false_iff, Option.isSome_iff_ne_none]
    exact below k hk
  · rw [← wb, eK] <;> rfl
theorem own_step {m : Nat} (g : MaskG m) {done : List Int} {owner : Array (Option Nat)} (W : Own m done owner) (few : done.length ≤ m) (h : Int) :
    ∃ j, SetTable.layClean.free m owner (SetTable.turns m) (SetTable.bits h % (m + 1)) (SetTable.bits h) = some j ∧ Own m (done ++ [h]) (owner.setIfInBounds j (some done.length)) := by
  obtain ⟨ps, lps, cov⟩ := W.ps
  obtain ⟨j0, lt0, nin⟩ := st_missing ps (m + 1) (by omega)
  have f0 : oAt owner j0 = none := Classical.byContradiction fun z => nin (cov j0 (Nat.le_of_lt_succ lt0) z)
  obtain ⟨K, got, fK, below⟩ := gap_found g owner h (Nat.le_of_lt_succ lt0) f0
  have le : way m h K ≤ m := way_in
  have osz := W.sz
  have self := oAt_set_self (owner := owner) (j := way m h K) (some done.length) (by omega)
  refine ⟨_, got, ?_⟩
  generalize ep : way m h K = p at got fK le self ⊢
  have more : ∀ {i : Nat}, oAt owner i ≠ none → oAt (owner.setIfInBounds p (some done.length)) i ≠ none := fun {i} ne => by
    by_cases c : i = p
    · subst c; rw [self]; exact Option.some_ne_none _
    · rw [oAt_set_ne _ c]; exact ne
  have osz2 : (owner.setIfInBounds p (some done.length)).size = m + 1 := by rw [Array.size_setIfInBounds]; exact osz
  constructor
  · exact osz2
  · intro j k hj e
    by_cases c : j = p
    · subst c
      rw [self] at e
      cases e
      exact ⟨h, K, by simp, ep, fun q hq => more (below q hq)⟩
    · rw [oAt_set_ne _ c] at e
      obtain ⟨x, k0, e1, e2, e3⟩ := W.at_ j k hj e
      have lt := (List.getElem?_eq_some_iff.mp e1).1
      exact ⟨x, k0, by rw [List.getElem?_append_left lt]; exact e1, e2, fun q hq => more (e3 q hq)⟩
  · intro k hk
    rcases Nat.lt_or_ge k done.length with c | c
    · obtain ⟨j, hj, e⟩ := W.all k c
      have np : j ≠ p := fun z => by rw [z, fK] at e; cases e
      exact ⟨j, hj, by rw [oAt_set_ne _ np]; exact e⟩
    · rw [List.length_append] at hk
      have ek : done.length = k := by
        have : [h].length = 1 := rfl
        omega
      exact ⟨p, le, by rw [self, ek]⟩
  · refine ⟨p :: ps, by simp [lps], fun j hj ne => ?_⟩
    by_cases c : j = p
    · exact c ▸ List.mem_cons_self
    · rw [oAt_set_ne _ c] at ne
      exact List.mem_cons_of_mem _ (cov j hj ne)
theorem lay_some {m : Nat} (g : MaskG m) : ∀ (rest done : List Int) (owner : Array (Option Nat)), Own m done owner → done.length + rest.length ≤ m →
    ∃ o2, rest.foldl (stepF m) (some (owner, done.length)) = some (o2, (done ++ rest).length) ∧ Own m (done ++ rest) o2 := by
  intro rest
  induction rest with
  | nil => intro done owner W _; exact ⟨owner, by simp, by simpa using W⟩
  | cons h rest ih =>
    intro done owner W le
    have l1 : (h :: rest).length = rest.length + 1 := rfl
    have l2 : (done ++ [h]).length = done.length + 1 := by simp
    obtain ⟨j, e, W2⟩ := own_step g W (by omega) h
    obtain ⟨o2, f, W3⟩ := ih (done ++ [h]) _ W2 (by omega)
    rw [l2] at f
    have ap : done ++ [h] ++ rest = done ++ h :: rest := by simp
    rw [ap] at f W3
    exact ⟨o2, by rw [List.foldl_cons, stepF_some e]; exact f, W3⟩
theorem lay_clean {m : Nat} (g : MaskG m) {hs : Array Int} (few : hs.size ≤ m) : ∃ owner, SetTable.layClean m hs = some owner ∧ Own m hs.toList owner := by
  obtain ⟨owner, f, W⟩ := lay_some g hs.toList [] _ (Own.init m) (by simpa using few)
  refine ⟨owner, ?_, by simpa using W⟩
  rw [layClean_eq, show (some (Array.replicate (m + 1) (none : Option Nat), 0)) = some (Array.replicate (m + 1) none, ([] : List Int).length) from rfl, f] <;> rfl
/-- the table laid anew -/
theorem laid_anew (t : SetTable) {hs : Array Int} {wanted M : Nat} (hw : SetTable.sizeAbove wanted - 1 = M) (g : MaskG M) (few : hs.size ≤ M) :
    ∃ t2 order, t.relaid hs wanted = some (t2, order) ∧ order.toList.Perm (List.range hs.size) ∧ Tab t2 (order.toList.map fun i => hs.getD i 0) ∧ t2.mask = M ∧ t2.led = t.led ∧ t2.plain = t.plain := by
  obtain ⟨owner, e, W⟩ := lay_clean g few
  have rel : t.relaid hs wanted = some (tabOf t M owner, ((liveOf M owner).map (·.2)).toArray) := by rw [relaid_eq, hw, e] <;> rfl
  obtain ⟨up, inr⟩ := ris_live (fun j => owner.getD j none) (List.range (M + 1)) (by unfold Ris; exact List.pairwise_lt_range)
  have up' : Ris ((liveOf M owner).map (·.1)) := up
  have inr' : ∀ x ∈ (liveOf M owner).map (·.1), x ∈ List.range (M + 1) := inr
  have dist : ((liveOf M owner).map (·.1)).Nodup := up'.imp fun lt => Nat.ne_of_lt lt
  have len : (liveOf M owner).length = hs.size := by
    obtain ⟨ps, lps, cov⟩ := W.ps
    have a : (liveOf M owner).length ≤ ps.length := by
      have z := nd_len ((liveOf M owner).map (·.1)) ps dist fun x hx => by
        obtain ⟨⟨y, k⟩, hq, ey⟩ := List.mem_map.mp hx
        cases ey
        obtain ⟨le, own⟩ := (mem_live W.sz).1 hq
        exact cov y le (by rw [own]; exact Option.some_ne_none _)
      rwa [List.length_map] at z
    have b : hs.size ≤ (liveOf M owner).length := by
      have z := nd_len (List.range hs.size) ((liveOf M owner).map (·.2)) List.nodup_range fun k hk => by
        obtain ⟨j, le, own⟩ := W.all k (by simpa using hk)
        exact List.mem_map.mpr ⟨(j, k), (mem_live W.sz).2 ⟨le, own⟩, rfl⟩
      rwa [List.length_map, List.length_range] at z
    have c : hs.toList.length = hs.size := rfl
    omega
  refine ⟨_, _, rel, ?_, ?_, rfl, rfl, rfl⟩
  · refine perm_range hs.size _ (by show ((liveOf M owner).map (·.2)).length = hs.size; rw [List.length_map, len]) fun k hk => ?_
    obtain ⟨j, le, own⟩ := W.all k (by simpa using hk)
    exact List.mem_map.mpr ⟨(j, k), (mem_live W.sz).2 ⟨le, own⟩, rfl⟩
  · constructor
    · exact up'
    · rfl
    · show ((liveOf M owner).map (·.1)).toArray.size = (((liveOf M owner).map (·.2)).map fun i => hs.getD i 0).length
      simp
    · exact g
    · intro x hx
      exact Nat.le_of_lt_succ (List.mem_range.mp (inr' x hx))
    · intro i h j e1 e2
      have e1' : (((liveOf M owner).map (·.2)).map fun i => hs.getD i 0)[i]? = some h := e1
      have e2' : ((liveOf M owner).map (·.1))[i]? = some j := e2
      rw [List.getElem?_map, List.getElem?_map] at e1'
      rw [List.getElem?_map] at e2'
      rcases hq : (liveOf M owner)[i]? with _ | ⟨y, k⟩
      · rw [hq] at e2'; cases e2'
      · rw [hq] at e1' e2'
        cases e2'
        have eh : hs.getD k 0 = h := Option.some.inj e1'
        obtain ⟨le, own⟩ := (mem_live W.sz).1 (List.mem_of_getElem? hq)
        obtain ⟨x, K, f1, f2, f3⟩ := W.at_ y k le own
        have ex : x = h := by
          rw [← eh, Array.getD_eq_getD_getElem?, ← Array.getElem?_toList, f1] <;> rfl
        subst ex
        refine ⟨K, f2, fun c hc => ?_⟩
        show way M x c ∈ (liveOf M owner).map (·.1)
        rcases z : oAt owner (way M x c) with _ | k2
        · exact absurd z (f3 c hc)
        · exact List.mem_map.mpr ⟨(way M x c, k2), (mem_live W.sz).2 ⟨way_in, z⟩, rfl⟩
/-- the size of a new table: a power of two above what is wanted -/
theorem size_go (n : Nat) : ∀ (f k : Nat), n < 2 ^ (k + f) → 3 ≤ k → (k = 3 ∨ 2 ^ (k - 1) ≤ n) → ∃ q, 3 ≤ q ∧ SetTable.sizeAbove.go n f (2 ^ k) = 2 ^ q ∧ n < 2 ^ q ∧ (q = 3 ∨ 2 ^ (q - 1) ≤ n)
  | 0, k, h, h3, c => ⟨k, h3, rfl, h, c⟩
  | f + 1, k, h, h3, c => by
    have e : SetTable.sizeAbove.go n (f + 1) (2 ^ k) = if 2 ^ k ≤ n then SetTable.sizeAbove.go n f (2 ^ k * 2) else 2 ^ k := rfl
    rw [e]
    by_cases le : 2 ^ k ≤ n
    · rw [if_pos le, ← Nat.pow_succ]
      exact size_go n f (k + 1) (by rw [show k + 1 + f = k + (f + 1) by omega]; exact h) (by omega) (.inr le)
    · rw [if_neg le]
      exact ⟨k, h3, rfl, by omega, c⟩
theorem size_above {n : Nat} (h : n ≤ 6400) : ∃ q, 3 ≤ q ∧ q ≤ 13 ∧ SetTable.sizeAbove n = 2 ^ q ∧ n < 2 ^ q := by
  obtain ⟨q, h3, e, lt, c⟩ := size_go n 64 3 (Nat.lt_of_le_of_lt h (by decide)) (Nat.le_refl _) (.inl rfl)
  refine ⟨q, h3, ?_, e, lt⟩
  rcases c with c | c
  · omega
  · refine Nat.le_of_not_lt fun z => ?_
    have y : 2 ^ 13 ≤ 2 ^ (q - 1) := Nat.pow_le_pow_right (by decide) (by omega)
    have x : (2 : Nat) ^ 13 = 8192 := by decide
    omega
end Sx

set_option linter.all false
set_option maxRecDepth 100000
/-! sets of tuples of ints and texts -/
namespace Sx
open PySem PySem.Spec PyProof.Rows L2

abbrev MixT (P : Program) (w : World) (h : Heap) (k : List Key) (a : Addr) : Prop := IsTupleKey (mixKind P w) h k a
abbrev mh (P : Program) (w : World) (k : List Key) : Int := tupleKeyHash (mixKind P w) k
/-- ints and texts: no class of the program's, hashed by value -/
def Flat (v : Value) : Prop := (∃ i t, v = Value.int i t) ∨ ∃ x t, v = Value.str x t
theorem Flat.noClass {v : Value} (n : Nat) (h : Flat v) : ofAClassStatement n v = pure false := by
  rcases h with ⟨i, t, rfl⟩ | ⟨x, t, rfl⟩ <;> cases n <;> rfl
theorem strNotByVal (n : Nat) (x : Str) (t : Tok) : hashByValue n (.str x t) = pure false := by
  unfold hashByValue; rfl
section
variable {P : Program} {w : World} {A : Around} {E : Value → Shared → Prop} {s : Shared}
theorem flat_items {k : List Key} {vs : List Value} (h : ItemsAre (mixKind P w) k vs) : ∀ v ∈ vs, Flat v := by
  induction h with
  | nil => exact fun v m => absurd m List.not_mem_nil
  | cons h1 _ ih =>
    intro v m
    rcases List.mem_cons.mp m with rfl | m
    · rcases keyIs_shape h1 with ⟨i, t, _, e⟩ | ⟨x, t, _, e⟩
      · exact .inl ⟨i, t, e⟩
      · exact .inr ⟨x, t, e⟩
    · exact ih v m
theorem noClass_mix {k : List Key} {b : Addr} {Q : Bool → Shared → Prop} (hk : MixT P w s.heap k b) (h : Q false s) : wpAny (model P w) A (ofAClassStatement 8 (.ref b)) Q E s := by
  have ty := hk.typeIs
  obtain ⟨o, items, n, ho, _, hd, hi⟩ := hk
  unfold ofAClassStatement
  refine wpAny_bind (wpAny_typeOf ty ?_)
  dsimp only
  simp only [show (("tuple" : String) == "tuple") = true from by decide, if_true, Bool.not_true, Bool.false_eq_true, if_false]
  try refine wpAny_bind (wpAny_pure ?_)
  try simp only [Bool.not_true, Bool.false_eq_true, if_false]
  refine wpAny_bind (show wpAny _ _ (seqItems? (.ref b)) _ _ s from wpAny_seqItems ho hd ?_)
  dsimp only
  refine wpAny_bind (show wpAny _ _ (forIn items _ _) _ _ s from ?_)
  rw [← Array.forIn_toList]
  refine wpAny_forIn_list _ (fun rest r s' => s' = s ∧ r.1 = none ∧ ∀ v ∈ rest, Flat v) _ ?_ ?_ _ _ ⟨rfl, rfl, flat_items hi⟩
  · rintro v rest r s' ⟨rfl, hr, all⟩
    rw [(all v List.mem_cons_self).noClass]
    refine wpAny_bind (wpAny_pure ?_)
    simp only [Bool.false_eq_true, if_false]
    exact wpAny_pure ⟨rfl, rfl, fun u m => all u (List.mem_cons_of_mem _ m)⟩
  · rintro ⟨r1, r2⟩ s' ⟨rfl, hr, _⟩
    cases (show r1 = none from hr)
    exact wpAny_pure h
theorem byVal_mix {k : List Key} {b : Addr} {Q : Bool → Shared → Prop} (hk : MixT P w s.heap k b) (h : ∀ c, Q c s) : wpAny (model P w) A (hashByValue 8 (.ref b)) Q E s := by
  have ty := hk.typeIs
  obtain ⟨o, items, n, ho, _, hd, hi⟩ := hk
  unfold hashByValue
  refine wpAny_bind (wpAny_specialOf ty F.slot_tuple_hash.lookup ?_)
  refine wpAny_bind (show wpAny _ _ (seqItems? (.ref b)) _ _ s from wpAny_seqItems ho hd ?_)
  refine wpAny_bind (show wpAny _ _ (forIn items _ _) _ _ s from ?_)
  rw [← Array.forIn_toList]
  refine wpAny_forIn_list _ (fun rest r s' => s' = s ∧ r.1 = none ∧ ∀ v ∈ rest, Flat v) _ ?_ ?_ _ _ ⟨rfl, rfl, flat_items hi⟩
  · rintro v rest r s' ⟨rfl, hr, all⟩
    rcases all v List.mem_cons_self with ⟨i, t, rfl⟩ | ⟨x, t, rfl⟩
    · rw [hashBy_int]
      refine wpAny_bind (wpAny_pure ?_)
      simp only [Bool.not_true, Bool.false_eq_true, if_false]
      exact wpAny_pure ⟨rfl, rfl, fun u m => all u (List.mem_cons_of_mem _ m)⟩
    · rw [strNotByVal]
      refine wpAny_bind (wpAny_pure ?_)
      simp only [Bool.not_false, if_true]
      exact wpAny_pure (wpAny_pure (h false))
  · rintro ⟨r1, r2⟩ s' ⟨rfl, hr, _⟩
    cases (show r1 = none from hr)
    exact wpAny_pure (h true)
/-- a search among such tuples shows nothing -/
theorem unseen_mix {k : List Key} {b : Addr} {Q : Bool → Shared → Prop} (hk : MixT P w s.heap k b) {ys : List Value} (hy : ∀ y ∈ ys, ∃ k2 c, y = Value.ref c ∧ MixT P w s.heap k2 c) (h : Q false s) :
    wpAny (model P w) A (searchCouldBeSeen (.ref b) ys) Q E s := by
  unfold searchCouldBeSeen
  refine wpAny_bind (wpAny_forIn_list _ (fun rest r s' => s' = s ∧ r.1 = none ∧ ∀ y ∈ rest, ∃ k2 c, y = Value.ref c ∧ MixT P w s.heap k2 c) _ ?_ ?_ _ _ ⟨rfl, rfl, hy⟩)
  · rintro v rest r s' ⟨rfl, hr, all⟩
    obtain ⟨k2, c, rfl, hc⟩ := all v List.mem_cons_self
    have all2 := fun u m => all u (List.mem_cons_of_mem (Value.ref c) m)
    dsimp only
    by_cases hv : (b == c || (carriedByValue (.ref b) && carriedByValue (.ref c))) = true
    · exact wp_if_pos hv (wpAny_pure ⟨rfl, rfl, all2⟩)
    · refine wp_if_neg hv (wpAny_bind (wpAny_eqIsQuiet_tuple hk ?_))
      simp only [Bool.not_true, Bool.false_eq_true, if_false]
      refine wpAny_bind (wpAny_eqIsQuiet_tuple hc ?_)
      simp only [Bool.not_true, Bool.false_eq_true, if_false]
      refine wpAny_bind (noClass_mix hk ?_)
      simp only [Bool.false_eq_true, if_false]
      refine wpAny_bind (noClass_mix hc ?_)
      simp only [Bool.false_eq_true, if_false]
      exact wpAny_pure ⟨rfl, rfl, all2⟩
  · rintro ⟨r1, r2⟩ s' ⟨rfl, hr, _⟩
    cases (show r1 = none from hr)
    exact wpAny_pure h

/-! ### what the set is -/
abbrev Rows := List (Addr × List Key)
def cells (P : Program) (w : World) (L : Rows) : List (Int × Value) := L.map fun p => (mh P w p.2, Value.ref p.1)
theorem cells_len (L : Rows) : (cells P w L).length = L.length := List.length_map ..
structure MSet (P : Program) (w : World) (h : Heap) (a : Addr) (L : Rows) (es : Array (Int × Value)) (ep : Nat) (t : SetTable) : Prop where
  ob : ∃ o, h.get? a = some o ∧ o.ExactSet ∧ o.data = .set es ep t
  rows : es.toList = cells P w L
  tab : Tab t (L.map fun p => mh P w p.2)
  nd : (L.map (·.2)).Nodup
  tup : ∀ p ∈ L, MixT P w h p.2 p.1
  led : w.params.followText "set-order" = true ∨ t.led = true
  room : L.length * 5 < t.mask * 3
  few : L.length ≤ 1500
variable {a : Addr} {L : Rows} {es : Array (Int × Value)} {ep : Nat} {t : SetTable}
theorem cells_size (r : es.toList = cells P w L) : es.size = L.length := by
  rw [← Array.length_toList, r, cells_len]
theorem MSet.fits (R : MSet P w s.heap a L es ep t) : t.fits es.size = true := by
  have ts := R.tab.size
  have room := R.room
  rw [List.length_map] at ts
  rw [cells_size R.rows]
  unfold SetTable.fits SetTable.fill
  rw [R.tab.clean]
  simp
  omega
theorem cells_at (r : es.toList = cells P w L) {i : Nat} {p : Addr × List Key} (h : L[i]? = some p) : es[i]? = some (mh P w p.2, Value.ref p.1) := by
  rw [← Array.getElem?_toList, r]
  unfold cells
  rw [List.getElem?_map, h] <;> rfl
theorem MSet.steady (R : MSet P w s.heap a L es ep t) : ¬ t.gaveWay = true := by
  unfold SetTable.gaveWay
  rw [R.tab.mask.odd]
  decide

/-- the probe's start for a hash -/
abbrev pst (t : SetTable) (h : Int) (c : Nat) : SetTable.Probe := nth t.mask (runAt t.mask (SetTable.bits h % (t.mask + 1)) (SetTable.bits h)) c
theorem pst_add (t : SetTable) (h : Int) (c q : Nat) : nth t.mask (pst t h c) q = pst t h (c + q) := (nth_add t.mask c _ q).symm
theorem pst_j (t : SetTable) (h : Int) (c q : Nat) : (nth t.mask (pst t h c) q).j = way t.mask h (c + q) := by rw [pst_add]
theorem pst_free (t : SetTable) (h : Int) : ∀ c, (pst t h c).dummy = none := by
  intro c
  induction c with
  | zero => rfl
  | succ c ih =>
    rw [← pst_add t h c 1]
    show (adv t.mask (pst t h c)).dummy = none
    unfold adv
    split <;> exact ih

/-- the search from the c-th step of its way on -/
theorem find_from (R : MSet P w s.heap a L es ep t) {x : Addr} {k : List Key} (hx : MixT P w s.heap k x) (hu : A.units < cLine) {K : Nat} (hf : K < 10 * SetTable.turns t.mask)
    (nK : way t.mask (mh P w k) K ∉ t.place.toList) (low : ∀ c, c < K → way t.mask (mh P w k) c ∈ t.place.toList) {Q : SetFound → Shared → Prop}
    (yes : k ∈ L.map (·.2) → Q (.there none) s) (no : k ∉ L.map (·.2) → Q (.free (way t.mask (mh P w k) K) false) s) :
    ∀ (f c : Nat) (stand : Option SetTable.Probe), stand.getD (t.probeStart (mh P w k)) = pst t (mh P w k) c → c ≤ K → K - c < f →
      (∀ (i : Nat) p, L[i]? = some p → p.2 = k → ∃ q, c ≤ q ∧ q < K ∧ t.place.toList[i]? = some (way t.mask (mh P w k) q)) →
      wpAny (model P w) A (setSearchFrom a (.ref x) (mh P w k) true f stand) Q E s := by
  intro f
  induction f with
  | zero => intro c _ _ _ z; exact absurd z (Nat.not_lt_zero _)
  | succ f ih =>
    intro c stand st le lt reach
    obtain ⟨o, ho, _, hd⟩ := R.ob
    rw [setSearchFrom_succ]
    refine wpAny_bind (wpAny_setState_of ho hd R.fits ?_)
    dsimp only
    refine wp_if_neg R.steady ?_
    try refine wpAny_bind (wpAny_pure ?_)
    have hashes : ∀ (i : Nat) p, L[i]? = some p → (fun i => (es[i]?.map (·.1)).getD 0) i = mh P w p.2 := fun i p e => by
      show (es[i]?.map (·.1)).getD 0 = _
      rw [cells_at R.rows e] <;> rfl
    rcases go_spec t R.tab.up R.tab.clean (fun i => (es[i]?.map (·.1)).getD 0) (mh P w k) (10 * SetTable.turns t.mask) (K - c) (pst t (mh P w k) c) (pst_free ..) (by omega)
      (fun q hq => by rw [pst_j]; exact low _ (by omega)) (by rw [pst_j, show c + (K - c) = K by omega]; exact nK) with ⟨q, i, hq, at_, same, before, pr⟩ | ⟨before, pr⟩
    · rw [pst_j] at at_ pr
      rw [pst_add] at pr
      have met : t.probe (fun i => (es[i]?.map (·.1)).getD 0) (mh P w k) (stand.getD (t.probeStart (mh P w k))) = some (.candidate (way t.mask (mh P w k) (c + q)) i (pst t (mh P w k) (c + (q + 1)))) := by
        rw [st]; exact pr
      rw [met]
      dsimp only
      have il : i < L.length := by
        have z1 := (List.getElem?_eq_some_iff.mp at_).1
        have z2 := R.tab.size
        rw [List.length_map] at z2
        rw [Array.length_toList, z2] at z1
        exact z1
      obtain ⟨p, ep'⟩ : ∃ p, L[i]? = some p := ⟨_, List.getElem?_eq_getElem il⟩
      have pm := List.mem_of_getElem? ep'
      have live : t.slot (way t.mask (mh P w k) (c + q)) = .live i := slot_live R.tab.up at_
      have go : wpAny (model P w) A (searchRest a (.ref x) (mh P w k) true f es t (way t.mask (mh P w k) (c + q)) i (pst t (mh P w k) (c + (q + 1)))) Q E s := by
        unfold searchRest
        rw [cells_at R.rows ep']
        dsimp only
        refine wpAny_bind (wpAny_holding (wpAny_eqBool_tuple hu (R.tup p pm) hx ?_))
        refine wpAny_bind (wpAny_setState_of ho hd R.fits ?_)
        dsimp only
        by_cases ek : p.2 = k
        · exact wp_if_pos (by simp [ek]) (wpAny_pure (yes (List.mem_map.mpr ⟨p, pm, ek⟩)))
        · refine wp_if_neg (by simp [ek]) ?_
          try refine wpAny_bind (wpAny_pure ?_)
          rw [sameMem]
          dsimp only
          simp only [if_true, live, cells_at R.rows ep']
          refine wpAny_bind (wpAny_isSame_ref_self (wpAny_bind (wpAny_pure ?_)))
          simp only [if_true]
          refine wp_if_neg (by simp [ek]) (ih (c + (q + 1)) _ rfl (by omega) (by omega) fun i0 p0 h0 k0 => ?_)
          obtain ⟨d, d1, d2, d3⟩ := reach i0 p0 h0 k0
          refine ⟨d, Nat.lt_of_not_le fun (z : d ≤ c + q) => ?_, d2, d3⟩
          rcases Nat.lt_or_eq_of_le z with z | z
          · refine before (d - c) i0 (by omega) (by rw [pst_j, show c + (d - c) = d by omega]; exact d3) ?_
            exact (hashes i0 p0 h0).trans (by rw [k0])
          · rw [z] at d3
            have l2 := slot_live R.tab.up d3
            rw [live] at l2
            injection l2 with l2
            rw [← l2, ep'] at h0
            cases h0
            exact ek k0
      by_cases hl : t.led = true
      · refine wp_if_neg (by simp [hl]) ?_
        try refine wpAny_bind (wpAny_pure ?_)
        exact go
      · refine wp_if_pos (by simp [hl]) (wpAny_bind (unseen_mix hx (fun y hy => ?_) ?_))
        · obtain ⟨e, he, rfl⟩ := List.mem_map.mp hy
          have he2 : e ∈ es.toList := by
            have z : e ∈ es ∧ e.1 = mh P w k := by simpa using he
            simpa using z.1
          rw [R.rows] at he2
          obtain ⟨p2, hp2, rfl⟩ := List.mem_map.mp he2
          exact ⟨p2.2, p2.1, rfl, R.tup p2 hp2⟩
        · refine wp_if_neg (by decide) ?_
          try refine wpAny_bind (wpAny_pure ?_)
          exact go
    · rw [pst_j, show c + (K - c) = K by omega] at pr
      have met : t.probe (fun i => (es[i]?.map (·.1)).getD 0) (mh P w k) (stand.getD (t.probeStart (mh P w k))) = some (.empty (way t.mask (mh P w k) K) none) := by
        rw [st]; exact pr
      rw [met]
      dsimp only
      refine wpAny_pure (no fun m => ?_)
      obtain ⟨p0, h0, k0⟩ := List.mem_map.mp m
      obtain ⟨i0, _, e0⟩ := List.getElem_of_mem h0
      have at0 : L[i0]? = some p0 := by rw [← e0]; exact List.getElem?_eq_getElem _
      obtain ⟨d, d1, d2, d3⟩ := reach i0 p0 at0 k0
      refine before (d - c) i0 (by omega) (by rw [pst_j, show c + (d - c) = d by omega]; exact d3) ?_
      exact (hashes i0 p0 at0).trans (by rw [k0])
theorem find_at (R : MSet P w s.heap a L es ep t) {x : Addr} {k : List Key} (hx : MixT P w s.heap k x) (hu : A.units < cLine) {Q : SetFound → Shared → Prop}
    (yes : k ∈ L.map (·.2) → Q (.there none) s)
    (no : ∀ K, k ∉ L.map (·.2) → way t.mask (mh P w k) K ∉ t.place.toList → (∀ c, c < K → way t.mask (mh P w k) c ∈ t.place.toList) → Q (.free (way t.mask (mh P w k) K) false) s) :
    wpAny (model P w) A (setSearch a (.ref x) (mh P w k) true) Q E s := by
  have room := R.room
  obtain ⟨K, hf, nK, low⟩ := R.tab.gap (by rw [List.length_map]; omega) (mh P w k)
  have top := R.tab.mask.top
  have tn : SetTable.turns t.mask = t.mask + 15 := rfl
  unfold setSearch
  refine find_from R hx hu hf nK low yes (fun m => no K m nK low) 100000 0 none rfl (Nat.zero_le _) (by omega) fun i p hp hk => ?_
  have il := (List.getElem?_eq_some_iff.mp hp).1
  have z2 := R.tab.size
  rw [List.length_map] at z2
  have at_ : t.place.toList[i]? = some (t.place.toList[i]'(by rw [Array.length_toList, z2]; exact il)) := List.getElem?_eq_getElem _
  have hi : (L.map fun p => mh P w p.2)[i]? = some (mh P w k) := by rw [List.getElem?_map, hp, ← hk] <;> rfl
  obtain ⟨c, hc, e⟩ := R.tab.sooner nK hi at_
  exact ⟨c, Nat.zero_le _, hc, by rw [at_, e]⟩
end
end Sx

set_option linter.all false
set_option maxRecDepth 100000
/-! adding to a set of tuples -/
namespace Sx
open PySem PySem.Spec PyProof.Rows L2
section
variable {P : Program} {w : World} {A : Around} {E : Value → Shared → Prop} {s : Shared}
theorem mix_other {h h' : Heap} {k : List Key} {a b : Addr} {o : Obj} {es : Array (Int × Value)} {ep : Nat} {t : SetTable} (hb : MixT P w h k b) (ho : h.get? a = some o) (hd : o.data = .set es ep t) (sb : Heap.SameBut a h h') : MixT P w h' k b := by
  obtain ⟨ob, items, n, hob, hc, hod, hi⟩ := hb
  refine ⟨ob, items, n, ?_, hc, hod, hi⟩
  rw [sb.2 b ?_, hob]
  intro e
  subst e
  rw [hob] at ho
  cases ho
  rw [hod] at hd
  cases hd
theorem cells_put (L : Rows) (p : Nat) (x : Addr) (k : List Key) : cells P w (L.take p ++ (x, k) :: L.drop p) = (cells P w L).take p ++ (mh P w k, Value.ref x) :: (cells P w L).drop p := by
  simp [cells, List.map_take, List.map_drop]
theorem pick_all {α : Type} (L : List α) : (List.range L.length).filterMap (fun i => L[i]?) = L := by
  induction L with
  | nil => rfl
  | cons x L ih =>
    rw [List.length_cons, List.range_succ_eq_map, List.filterMap_cons_some (show (x :: L)[0]? = some x from rfl), List.filterMap_map]
    exact congrArg (x :: ·) ih
theorem cells_order (L : Rows) (es : Array (Int × Value)) (order : Array Nat) (r : es.toList = cells P w L) (pm : order.toList.Perm (List.range L.length)) :
    ∃ L2, (order.filterMap (es[·]?)).toList = cells P w L2 ∧ L2.Perm L ∧ (L2.map fun p => mh P w p.2) = order.toList.map fun i => (es.map (·.1)).getD i 0 := by
  have at_ : ∀ (i : Nat) (h : i < L.length), es[i]? = some (mh P w L[i].2, Value.ref L[i].1) := fun i h => cells_at r (List.getElem?_eq_getElem h)
  refine ⟨order.toList.filterMap fun i => L[i]?, ?_, ?_, ?_⟩
  · rw [Array.toList_filterMap]
    have all : ∀ i ∈ order.toList, i < L.length := fun i m => List.mem_range.mp (pm.mem_iff.mp m)
    revert all
    generalize order.toList = l
    intro all
    induction l with
    | nil => rfl
    | cons i l ih =>
      have hi := all i List.mem_cons_self
      rw [List.filterMap_cons_some (at_ i hi), List.filterMap_cons_some (List.getElem?_eq_getElem hi), ih fun j m => all j (List.mem_cons_of_mem _ m)] <;> rfl
  · have z := pm.filterMap (fun i => L[i]?)
    rw [pick_all] at z
    exact z
  · have all : ∀ i ∈ order.toList, i < L.length := fun i m => List.mem_range.mp (pm.mem_iff.mp m)
    revert all
    generalize order.toList = l
    intro all
    induction l with
    | nil => rfl
    | cons i l ih =>
      have hi := all i List.mem_cons_self
      rw [List.filterMap_cons_some (List.getElem?_eq_getElem hi), List.map_cons, List.map_cons, ih fun j m => all j (List.mem_cons_of_mem _ m)]
      congr 1
      have z : (es.map (·.1))[i]? = some (mh P w L[i].2) := by rw [Array.getElem?_map, at_ i hi] <;> rfl
      rw [Array.getD_eq_getD_getElem?, z] <;> rfl

variable {a : Addr} {L : Rows} {es : Array (Int × Value)} {ep : Nat} {t : SetTable}
/-- a full table is laid anew -/
theorem relay_mix {o : Obj} (ho : s.heap.get? a = some o) (ex : o.ExactSet) (hd : o.data = .set es ep t) (rows : es.toList = cells P w L) (T : Tab t (L.map fun p => mh P w p.2)) (fill : es.size ≤ t.mask)
    (nd : (L.map (·.2)).Nodup) (tup : ∀ p ∈ L, MixT P w s.heap p.2 p.1) (ld : w.params.followText "set-order" = true ∨ t.led = true) (few : L.length ≤ 1500) (pos : 1 ≤ L.length) {Q : Unit → Shared → Prop}
    (hQ : ∀ h' L2 es2 ep2 t2, Heap.SameBut a s.heap h' → MSet P w h' a L2 es2 ep2 t2 → L2.Perm L → Q () { s with heap := h' }) : wpAny (model P w) A (setRelay a (SetTable.grown L.length)) Q E s := by
  have n1 := cells_size rows
  have gr : SetTable.grown L.length = L.length * 4 := by
    unfold SetTable.grown
    rw [if_neg (by omega)]
  obtain ⟨q, q3, q13, sz, above⟩ := size_above (n := SetTable.grown L.length) (by rw [gr]; omega)
  have two : 2 ^ q ≤ 2 ^ 13 := Nat.pow_le_pow_right (by decide) q13
  have c13 : (2 : Nat) ^ 13 = 8192 := by decide
  have ps := T.size
  rw [List.length_map] at ps
  have fits : t.fits es.size = true := by
    unfold SetTable.fits SetTable.fill
    rw [T.clean]
    simp
    omega
  obtain ⟨t2, order, e, pm, T2, em, el, _⟩ := laid_anew t (hs := es.map (·.1)) (wanted := SetTable.grown L.length) (M := 2 ^ q - 1) (by rw [sz]) ⟨q, q3, q13, by omega⟩ (by rw [Array.size_map, n1]; omega)
  rw [Array.size_map, n1] at pm
  obtain ⟨L2, r2, p2, m2⟩ := cells_order L es order rows pm
  rw [← m2] at T2
  have n2 : (order.filterMap (es[·]?)).size = es.size := by
    rw [cells_size r2, p2.length_eq, n1]
  rw [setRelay_eq]
  refine wpAny_bind (wpAny_setState_of ho hd fits ?_)
  dsimp only
  refine wp_if_neg (by rw [sz, sizeLine_eq]; omega) ?_
  try refine wpAny_bind (wpAny_pure ?_)
  rw [e]
  dsimp only
  refine wpAny_bind (wp_if_neg (by rw [n2]; simp) ?_)
  try refine wpAny_bind (wpAny_pure ?_)
  refine wpAny_pure ?_
  dsimp only
  have sb : Heap.SameBut a s.heap (s.heap.update a (Obj.putSet (order.filterMap (es[·]?)) t2)) := Heap.SameBut.update ..
  refine wpAny_storeSet_of ho hd (hQ _ L2 (order.filterMap (es[·]?)) (ep + 1) t2 sb ?_ p2) (by rw [n2, n1, sizeLine_eq]; omega)
  constructor
  · exact ⟨_, store_at ho hd, ⟨ex.1, ex.2.1, ex.2.2⟩, rfl⟩
  · exact r2
  · exact T2
  · exact (p2.map (·.2)).nodup_iff.mpr nd
  · exact fun p m => mix_other (tup p (p2.mem_iff.mp m)) ho hd sb
  · rw [el]; exact ld
  · rw [p2.length_eq, em]; omega
  · rw [p2.length_eq]; exact few
/-- one tuple is put in -/
theorem add_mix (R : MSet P w s.heap a L es ep t) {x : Addr} {k : List Key} (hx : MixT P w s.heap k x) (hu : A.units < cLine) (few : L.length + 1 ≤ 1500) {Q : Bool → Shared → Prop}
    (hQ : ∀ b h' L2 es2 ep2 t2, Heap.SameBut a s.heap h' → MSet P w h' a L2 es2 ep2 t2 → (k ∈ L.map (·.2) → L2 = L) → (k ∉ L.map (·.2) → L2.Perm ((x, k) :: L)) → Q b { s with heap := h' }) :
    wpAny (model P w) A (setAddHashed a (.ref x) (mh P w k)) Q E s := by
  obtain ⟨o, ho, ex, hd⟩ := R.ob
  have n1 := cells_size R.rows
  have room := R.room
  unfold setAddHashed
  refine wpAny_holding ?_
  rw [show (100000 : Nat) = 99999 + 1 from rfl, setAddHashedIn_succ]
  refine wpAny_bind (wpAny_setState_of ho hd R.fits ?_)
  dsimp only
  refine wp_if_neg (by simp [byScan, Value.scannable]) ?_
  try refine wpAny_bind (wpAny_pure ?_)
  refine wpAny_bind (find_at R hx hu (fun m => ?_) fun K m nK low => ?_)
  · dsimp only
    exact wpAny_pure (hQ false s.heap L es ep t (Heap.SameBut.refl a s.heap) R (fun _ => rfl) fun z => absurd m z)
  · dsimp only
    refine wpAny_bind (wpAny_setState_of ho hd R.fits ?_)
    dsimp only
    obtain ⟨le, T1, fl⟩ := R.tab.one_more nK low
    have snd : (t.put (way t.mask (mh P w k) K)).2 = SetTable.below t.place (way t.mask (mh P w k) K) := rfl
    have msk : (t.put (way t.mask (mh P w k) K)).1.mask = t.mask := rfl
    have ledE : (t.put (way t.mask (mh P w k) K)).1.led = t.led := rfl
    rw [List.length_map] at le fl
    generalize t.put (way t.mask (mh P w k) K) = pt at T1 fl snd msk ledE ⊢
    obtain ⟨t1, p⟩ := pt
    dsimp only at T1 fl snd msk ledE ⊢
    rw [← snd] at le T1
    have perm : (L.take p ++ (x, k) :: L.drop p).Perm ((x, k) :: L) := put_perm L p (x, k)
    have len := perm.length_eq
    rw [List.length_cons] at len
    have hs : (L.take p ++ (x, k) :: L.drop p).map (fun p => mh P w p.2) = (L.map fun p => mh P w p.2).take p ++ mh P w k :: (L.map fun p => mh P w p.2).drop p := by
      rw [List.map_append, List.map_cons, List.map_take, List.map_drop]
    rw [← hs] at T1
    have rows1 : (SetTable.insertAt es p (mh P w k, Value.ref x)).toList = cells P w (L.take p ++ (x, k) :: L.drop p) := by
      rw [SetTable.toList_insertAt, cells_put, R.rows]
    have nd1 : ((L.take p ++ (x, k) :: L.drop p).map (·.2)).Nodup := (perm.map (·.2)).nodup_iff.mpr (by rw [List.map_cons]; exact List.nodup_cons.mpr ⟨m, R.nd⟩)
    generalize SetTable.insertAt es p (mh P w k, Value.ref x) = es1 at rows1 ⊢
    generalize L.take p ++ (x, k) :: L.drop p = L1 at perm len T1 rows1 nd1
    have n2 := cells_size rows1
    have rest : ∀ t2 : SetTable, t2.place = t1.place → t2.dummies = t1.dummies → t2.mask = t1.mask → t2.led = t1.led → wpAny (model P w) A (do
        storeSet a es1 t2
        if (!false && t2.tooFull) = true then setRelay a (SetTable.grown (es.size + 1))
        return true) Q E s := fun t2 e1 e2 e3 e4 => by
      have T2 : Tab t2 (L1.map fun p => mh P w p.2) := by
        refine ⟨by rw [e1]; exact T1.up, by rw [e2]; exact T1.clean, by rw [e1]; exact T1.size, by rw [e3]; exact T1.mask, by rw [e1, e3]; exact T1.le, ?_⟩
        rw [e1, e3]
        exact T1.found
      have fl2 : t2.fill = L.length + 1 := by rw [← fl]; unfold SetTable.fill; rw [e1, e2]
      have ld2 : w.params.followText "set-order" = true ∨ t2.led = true := by rw [e4, ledE]; exact R.led
      refine wpAny_bind (wpAny_storeSet_of ho hd ?_ (by rw [n2, len, sizeLine_eq]; omega))
      have sb : Heap.SameBut a s.heap (s.heap.update a (Obj.putSet es1 t2)) := Heap.SameBut.update ..
      have ho1 := store_at (es' := es1) (t' := t2) ho hd
      generalize s.heap.update a (Obj.putSet es1 t2) = h1 at sb ho1 ⊢
      have tup1 : ∀ q ∈ L1, MixT P w h1 q.2 q.1 := fun q hq => by
        rcases List.mem_cons.mp (perm.mem_iff.mp hq) with e | hq
        · rw [e]; exact mix_other hx ho hd sb
        · exact mix_other (R.tup q hq) ho hd sb
      by_cases full : t2.tooFull = true
      · have big := full
        unfold SetTable.tooFull at big
        rw [decide_eq_true_eq, fl2, e3, msk] at big
        rw [n1]
        have go : wpAny (model P w) A (setRelay a (SetTable.grown (L.length + 1))) (fun _ s' => wpAny (model P w) A (pure true) Q E s') E { s with heap := h1 } := by
          rw [← len]
          refine relay_mix (s := { s with heap := h1 }) ho1 ⟨ex.1, ex.2.1, ex.2.2⟩ rfl rows1 T2 (by rw [n2, len, e3, msk]; omega) nd1 tup1 ld2 (by omega) (by omega) ?_
          intro h2 L2 es2 ep2 t3 sb2 R2 p2
          exact wpAny_pure (hQ true h2 L2 es2 ep2 t3 (sb.trans sb2) R2 (fun z => absurd z m) fun _ => p2.trans perm)
        first
          | exact wpAny_bind (wp_if_pos (by simp [full]) go)
          | exact wp_if_pos (by simp [full]) (wpAny_bind go)
      · have small := full
        unfold SetTable.tooFull at small
        rw [decide_eq_true_eq, fl2, e3, msk] at small
        have fin : Q true { s with heap := h1 } := hQ true h1 L1 es1 (ep + 1) t2 sb ⟨⟨_, ho1, ⟨ex.1, ex.2.1, ex.2.2⟩, rfl⟩, rows1, T2, nd1, tup1, ld2, by rw [len, e3, msk]; omega, by omega⟩ (fun z => absurd z m) fun _ => perm
        first
          | exact wp_if_neg (by simp [full]) (wpAny_pure fin)
          | exact wpAny_bind (wp_if_neg (by simp [full]) (wpAny_pure (wpAny_pure fin)))
    have both : ∀ c : Bool, wpAny (model P w) A (do
        storeSet a es1 (if c = true then t1 else { t1 with plain := false })
        if (!false && (if c = true then t1 else { t1 with plain := false }).tooFull) = true then setRelay a (SetTable.grown (es.size + 1))
        return true) Q E s := fun c => by
      cases c
      · exact rest _ rfl rfl rfl rfl
      · exact rest _ rfl rfl rfl rfl
    by_cases pl : t1.plain = true
    · first
        | exact wpAny_bind (wp_if_pos pl (byVal_mix hx fun c => both c))
        | exact wp_if_pos pl (wpAny_bind (byVal_mix hx fun c => both c))
    · first
        | exact wpAny_bind (wp_if_neg pl (wpAny_pure (both true)))
        | exact wp_if_neg pl (wpAny_bind (wpAny_pure (both true)))
end
end Sx

set_option linter.all false
set_option maxRecDepth 100000
set_option maxHeartbeats 2000000
/-! {elt for target in iter if ..}, elt a tuple of ints and texts -/
namespace Sx
open PySem PySem.Spec PyProof.Rows L2

/-- the set at a; its tuples are things of their own -/
def MSet0 (P : Program) (w : World) (h : Heap) (a : Addr) (L : Rows) : Prop :=
  ∃ (es : Array (Int × Value)) (ep : Nat) (t : SetTable), (∃ o, h.get? a = some o ∧ o.ExactSet ∧ o.data = .set es ep t) ∧ es.toList = cells P w L ∧ Tab t (L.map fun p => mh P w p.2) ∧ (L.map (·.2)).Nodup ∧
    (w.params.followText "set-order" = true ∨ t.led = true) ∧ L.length * 5 < t.mask * 3 ∧ L.length ≤ 1500
def MSetO (P : Program) (w : World) (a : Addr) (L : Rows) : HO := .ext fun h => MSet0 P w h a L
/-- the rows' tuples are tracked -/
def TupsIn (H : Hp) (L : Rows) : Prop := ∀ p ∈ L, H p.1 = some (.tup (p.2.map kV))
section
variable {P : Program} {w : World} {H : Hp} {h : Heap} {a : Addr} {L : Rows}
theorem MSet.bare {es : Array (Int × Value)} {ep : Nat} {t : SetTable} (R : MSet P w h a L es ep t) : MSet0 P w h a L := ⟨es, ep, t, R.ob, R.rows, R.tab, R.nd, R.led, R.room, R.few⟩
theorem MSet0.full (R : MSet0 P w h a L) (ht : ∀ p ∈ L, MixT P w h p.2 p.1) : ∃ es ep t, MSet P w h a L es ep t := by
  obtain ⟨es, ep, t, h1, h2, h3, h4, h5, h6, h7⟩ := R
  exact ⟨es, ep, t, h1, h2, h3, h4, ht, h5, h6, h7⟩
theorem MSet0.ok (R : MSet0 P w h a L) : ObjOk P w H h a (MSetO P w a L) := by
  obtain ⟨es, ep, t, ⟨o, ho, r⟩, q⟩ := R
  refine ⟨⟨es, ep, t, ⟨o, ho, r⟩, q⟩, ⟨o, ho⟩, ?_⟩
  rintro h1 h2 ⟨es', ep', t', ⟨o', ho', r'⟩, q'⟩ k
  exact ⟨es', ep', t', ⟨o', k o' ho', r'⟩, q'⟩
theorem mset_fresh (ho : h.get? a = some { cls := .type "set", dict := none, data := .set #[] 0 (.fresh 0 0 (!w.params.followText "set-order")) }) : MSet0 P w h a [] := by
  refine ⟨#[], 0, .fresh 0 0 (!w.params.followText "set-order"), ⟨_, ho, ⟨rfl, rfl, rfl⟩, rfl⟩, rfl, ?_, List.nodup_nil, ?_, ?_, by decide⟩
  · constructor
    · exact List.Pairwise.nil
    · rfl
    · rfl
    · exact ⟨3, by decide, by decide, rfl⟩
    · exact fun x m => absurd m (by show x ∉ ([] : List Nat); simp)
    · exact fun i h j e => absurd e (by simp)
  · show _ ∨ (!w.params.followText "set-order") = true
    cases w.params.followText "set-order"
    · exact .inr rfl
    · exact .inl rfl
  · show 0 * 5 < 7 * 3
    decide
end
section
variable {X : Cx} {pins : List (Addr × Obj)} {σ : L2.St} {H : Hp} {s : Shared}
theorem tups_raw (I : Inv X pins σ H s) {L : Rows} (ht : TupsIn H L) : ∀ p ∈ L, MixT X.prog X.w s.heap p.2 p.1 := fun p m => key_of I.hok (ht p m)
theorem mset_get (I : Inv X pins σ H s) {a : Addr} {L : Rows} (ha : H a = some (MSetO X.prog X.w a L)) (ht : TupsIn H L) : ∃ es ep t, MSet X.prog X.w s.heap a L es ep t :=
  MSet0.full (I.hok a _ ha).1 (tups_raw I ht)
/-- S.add(tuple) -/
theorem add_tup {E : Value → Shared → Prop} {D x : Addr} {L : Rows} {k : List Key} {Q : Value → Shared → Prop} (hu : X.A.units + 64 < cLine) (I : Inv X pins σ H s) (hD : H D = some (MSetO X.prog X.w D L)) (ht : TupsIn H L) (hx : H x = some (.tup (k.map kV))) (few : L.length + 1 ≤ 1500)
    (h : ∀ s' L2, (k ∈ L.map (·.2) → L2 = L) → (k ∉ L.map (·.2) → L2.Perm ((x, k) :: L)) → Inv X pins σ (upd H D (MSetO X.prog X.w D L2)) s' → Q .none s') : wpAny (model X.prog X.w) X.A (call (.builtin "set.add") [.ref D, .ref x]) Q E s := by
  obtain ⟨es, ep, t, R⟩ := mset_get I hD ht
  have kx : MixT X.prog X.w s.heap k x := key_of I.hok hx
  obtain ⟨o, ho, ex, hd⟩ := R.ob
  have ty : s.TypeIs (.ref D) "set" := ⟨o, ho, ex.1⟩
  refine wpAny_call_entry F.slot_set_add ty F.entry_set_add ?_ (F.args_set_add_2 _ _)
  unfold Builtin.«set.add» Builtin.Frozenset.oneOther
  simp only [List.isEmpty_nil, bind_assoc]
  unfold Builtin.Frozenset.addrOf setAdd
  refine wpAny_bind (wpAny_pure ?_)
  try dsimp only
  refine wpAny_bind (wpAny_pure ?_)
  try dsimp only
  refine wpAny_bind (wpAny_holding (wpAny_bind (wpAny_pyHash_tuple (by simp only [Around.in1_units]; omega) kx ?_)))
  have kx2 : MixT X.prog X.w ({ s with toks := s.toks + (k.length + 1) } : Shared).heap k x := kx
  refine add_mix (s := { s with toks := s.toks + (k.length + 1) }) R kx2 (by simp only [Around.in1_units]; omega) few fun b h' L2 es2 ep2 t2 sb R2 c1 c2 => ?_
  show wpAny _ _ (ret Value.none) _ _ _
  obtain ⟨o2, ho2, _⟩ := R2.ob
  refine wpAny_pure ⟨_, rfl, h _ L2 c1 c2 (I.write (e := D) (t' := s.toks + (k.length + 1)) (by rw [hD]; trivial) (.inl rfl) (fun b u hb hu => (sb.2 b hb).trans hu) ⟨o2, ho2⟩ R2.bare.ok)⟩

/-- a new set D, filled turn by turn -/
def tSm (P : Program) (w : World) (wi : TI) (g : TG) (tt : TT) (te : TE) (vs : List Nat) : TE := fun σ H Q => wi σ H fun J H1 => ∀ D, H1 D = none → ∃ W : Nat → Nat → Hp → Prop, (∃ m, W 0 m (upd H1 D (MSetO P w D []))) ∧ ∀ i m H, W i m H →
  (J.stop i H ∧ Q (.ref D) H) ∨ (J.go i H ∧ ∃ Nx : Hp → Prop, (∀ H', Nx H' → ∃ m', m' < m ∧ W (i + 1) m' H') ∧ ∀ x H', J.yld i H x H' → g x (wipe σ vs) H' fun σ2 H2 => wipe σ2 vs = wipe σ vs ∧ tt σ2 H2 fun b H3 =>
    if b = true then te σ2 H3 fun y H4 => ∃ (x : Addr) (k : List Key) (L : Rows), y = .ref x ∧ H4 x = some (.tup (k.map kV)) ∧ H4 D = some (MSetO P w D L) ∧ TupsIn H4 L ∧ L.length + 1 ≤ 1500 ∧
      ∀ L2, (k ∈ L.map (·.2) → L2 = L) → (k ∉ L.map (·.2) → L2.Perm ((x, k) :: L)) → Nx (upd H4 D (MSetO P w D L2)) else Nx H3)
theorem sm_run {Q : VK} {elt tg iter : Expr} {ifs : List Expr} {scope : Scope} {own : List (PySem.Str × Nat)} {pos at_ : Pos} {wi : TI} {g : TG} {tt : TT} {te : TE} {use : Option (Value → Sem Unit)} {Qf : Value → Shared → Prop}
    (hu : X.A.units + 64 < cLine) (hc : X.calm = true) (hN : X.N.Nodup) (I : Inv X pins σ H s) (hi : PI X tg iter wi) (ok : BlkOk X.N X.env.scope scope own)
    (hg : ∀ s H C cl fp, PG (X.blk s H scope (compEnvC scope cl C X.env) fp) tg g) (ht : ∀ s H C cl fp, PTs (X.blk s H scope (compEnvC scope cl C X.env) fp) ifs tt)
    (he : ∀ s H C cl fp, PE (X.blk s H scope (compEnvC scope cl C X.env) fp) elt te) (hs : ∀ x, foldedSetIterable iter X.env x = pure x)
    (h : tSm X.prog X.w wi g tt te (own.map (·.2)) σ H Q)
    (hR : ∀ D C s' m H', Inv X pins σ H' s' → Q (.ref D) H' → s'.heap.Ns C m → FpOk X pins H' C → compPost (model X.prog X.w) X.A X.xe use Qf (.ref D) C (.ok .next) s') :
    wpAny (model X.prog X.w) X.A (comprehension (.SetComp elt [⟨tg, iter, ifs, 0⟩] scope pos) scope X.env at_ (newSet (.type "set")) false (eval iter X.env) use) Qf X.xe s := by
  have frees : ∀ y ∈ scope.names, y.2 = .free → ∃ c, X.env.cells.lookup y.1 = some c := fun y m e => (ok.free y m e).elim (fun k => I.ok.has _ (.inl k)) fun k => I.ok.has _ (.inr k)
  refine wpAny_comprehension_free (use := use) rfl hs (closure_ok frees) ok.kind (fun y m e => by rw [ok.uniq y m, e])
    (thn (hi.run pins s σ H _ I h) fun xv s1 hx => thn hx fun itv s2 h2 => ?_)
  obtain ⟨it, fp, tn, J, H2, rfl, I2, T, st2, f2, q⟩ := h2
  refine PpSet.newSet_ok (newEnv_comp ?_)
  generalize eD : s2.heap.objs.size = D
  obtain ⟨W, ⟨m0, w0⟩, turn⟩ := q D (I2.hok.fresh (Nat.le_of_eq eD))
  generalize e3 : ({ s2 with heap := s2.heap.push { cls := .type "set", dict := none, data := .set #[] 0 (.fresh 0 0 (!X.w.params.followText "set-order")) } } : Shared) = s3
  have p3 : s3.heap = s2.heap.push { cls := .type "set", dict := none, data := .set #[] 0 (.fresh 0 0 (!X.w.params.followText "set-order")) } := by rw [← e3]
  have I3 : Inv X pins σ (upd H2 D (MSetO X.prog X.w D [])) s3 := by
    rw [← e3]
    refine I2.laid (t' := s2.toks) (fun b o e => Heap.get?_push_of_some _ e) (Nat.le_of_eq eD) ?_
    rw [← eD]
    exact (mset_fresh (Heap.get?_push_size _ rfl)).ok
  have inOld : ∀ b ∈ fp, b < s2.heap.objs.size := fun b m => by
    obtain ⟨o, e, _⟩ := T.obj _ _ st2 b m
    exact Heap.lt_size e
  have f3 : ∀ b ∈ fp, FpOk X pins (upd H2 D (MSetO X.prog X.w D [])) b ∧ b < s3.heap.objs.size := fun b m => by
    have lt := inOld b m
    refine ⟨⟨?_, (f2 b m).2⟩, by rw [p3, Heap.size_push]; exact Nat.lt_succ_of_lt lt⟩
    rw [upd_ne (Nat.ne_of_lt (eD ▸ lt))]
    exact (f2 b m).1
  have st3 : tn 0 s3.heap := T.keep _ _ _ st2 fun b _ o e => by rw [p3]; exact Heap.get?_push_of_some _ e
  have I4 := block_start I3 ok hN f3
  have pg := hg s3 (upd H2 D (MSetO X.prog X.w D [])) s3.heap.objs.size (cellsFrom (s3.heap.objs.size + 1) scope.names (cloFrom X.env.cells scope.names [])) fp
  have pt := ht s3 (upd H2 D (MSetO X.prog X.w D [])) s3.heap.objs.size (cellsFrom (s3.heap.objs.size + 1) scope.names (cloFrom X.env.cells scope.names [])) fp
  have pe := he s3 (upd H2 D (MSetO X.prog X.w D [])) s3.heap.objs.size (cellsFrom (s3.heap.objs.size + 1) scope.names (cloFrom X.env.cells scope.names [])) fp
  show codeAny _ _ (.compStart (.SetComp elt [⟨tg, iter, ifs, 0⟩] scope pos) 0 (.ref it) (.ref D) (compEnvC scope (cellsFrom (s3.heap.objs.size + 1) scope.names (cloFrom X.env.cells scope.names [])) s3.heap.objs.size X.env)) (compPost (model X.prog X.w) X.A X.xe use Qf (.ref D) s3.heap.objs.size) { s3 with heap := pushCells (s3.heap.push { cls := .type "dict", data := .dict #[] }) scope.names }
  have none3 : ∀ b ∈ fp, (upd H2 D (MSetO X.prog X.w D [])) b = none := fun b m => (f3 b m).1.1
  generalize ece : compEnvC scope (cellsFrom (s3.heap.objs.size + 1) scope.names (cloFrom X.env.cells scope.names [])) s3.heap.objs.size X.env = ce at I4 pg pt pe ⊢
  have cl : ce.locals = s3.heap.objs.size := by rw [← ece]; rfl
  generalize upd H2 D (MSetO X.prog X.w D []) = H3 at I3 I4 pg pt pe w0 none3 f3
  generalize e4 : ({ s3 with heap := pushCells (s3.heap.push { cls := .type "dict", data := .dict #[] }) scope.names } : Shared) = s4 at I4 ⊢
  have st4 : tn 0 s4.heap := T.keep _ _ _ st3 fun b _ o e => by rw [← e4]; exact pushCells_keeps _ _ _ _ (Heap.get?_push_of_some _ e)
  have calmFp : ∀ {σ' : L2.St} {H' : Hp} {s' : Shared}, Inv (X.blk s3 H3 scope ce fp) [] σ' H' s' → (∀ b ∈ fp, H' b = none) → ∀ b ∈ fp, FpOk (X.blk s3 H3 scope ce fp) [] H' b := fun {σ' H' s'} I' n b m =>
    ⟨n b m, (I'.ok.exf b m).1, I'.ok.exfs b m, .inl m, fun x c e => (I'.ok.exf b m).2 x c e, fun p hp => absurd (show p ∈ ([] : List (Addr × Obj)) ++ [] from hp) (by simp)⟩
  have loop : codeAny (model X.prog X.w) X.A (.compLoop (.SetComp elt [⟨tg, iter, ifs, 0⟩] scope pos) 0 (.ref it) (.ref D) ce) (compPost (model X.prog X.w) X.A X.xe use Qf (.ref D) s3.heap.objs.size) s4 := by
    refine PpSet.compLoopS_any (fun n s' => ∃ i H', Inv (X.blk s3 H3 scope ce fp) [] (wipe σ (own.map (·.2))) H' s' ∧ tn i s'.heap ∧ (∀ b ∈ fp, H' b = none) ∧ W i n H') ?_ m0 ⟨0, H3, I4, st4, none3, w0⟩
    rintro n s5 ⟨i, H5, I5, st5, n5, w5⟩
    rcases turn i n H5 w5 with ⟨stop, fin⟩ | ⟨go, Nx, next, step⟩
    · refine thnF (T.done (X.blk s3 H3 scope ce fp) rfl rfl rfl hc i [] s5 _ H5 (fun _ _ => False) I5 (calmFp I5 n5) st5 stop) fun r s6 ⟨hr, I6⟩ => ?_
      subst hr
      have I7 : Inv X pins σ H5 s6 := I3.call' (ch := fp) I6.os I6.base I6.hok I6.bare fun b m => ⟨(f3 b m).1.2.2.2.1, (f3 b m).1.2.1, (f3 b m).1.2.2.2.2.1, (f3 b m).1.2.2.2.2.2⟩
      have nC : H5 s3.heap.objs.size = none := cl ▸ (show H5 ce.locals = none from I6.free)
      obtain ⟨m, hn, _⟩ := I6.loc
      exact hR D s3.heap.objs.size s6 m H5 I7 fin (cl ▸ (show s6.heap.Ns ce.locals m from hn)) (I3.fpOk (Nat.le_refl _) nC)
    · refine thnF (T.item (X.blk s3 H3 scope ce fp) rfl rfl rfl hc i [] s5 _ H5 (fun _ _ => False) I5 (calmFp I5 n5) st5 go) fun r s6 ⟨u, hr, h6⟩ => ?_
      subst hr
      refine thnF h6 fun _ s7 ⟨x, H7, I7, r7, y7, st7, n7⟩ => ?_
      have pinned := I7.pinned (calmFp I7 n7) (T.obj _ _ st7)
      refine thnF (pg.run _ s7 _ H7 x u _ pinned r7 (step x H7 y7)) fun _ s8 ⟨σ8, H8, I8, w8, q8⟩ => ?_
      refine thnF (pt.run _ s8 σ8 H8 _ I8 q8) fun b s9 ⟨H9, I9, q9⟩ => ?_
      have turnEnd : ∀ {s' : Shared} {H' : Hp}, Inv (X.blk s3 H3 scope ce fp) ([] ++ pinsAt fp s7.heap) σ8 H' s' → Nx H' → ∃ m, m < n ∧ ∃ i H', Inv (X.blk s3 H3 scope ce fp) [] (wipe σ (own.map (·.2))) H' s' ∧ tn i s'.heap ∧ (∀ b ∈ fp, H' b = none) ∧ W i m H' := fun {s' H'} I' nx => by
        obtain ⟨m', lt, w'⟩ := next H' nx
        have pin : ∀ b ∈ fp, ∀ o, s7.heap.get? b = some o → s'.heap.get? b = some o ∧ H' b = none := fun b m o e => by
          have z := I'.pin (b, o) (List.mem_append_right _ (List.mem_append_right _ (mem_pinsAt m e)))
          exact ⟨z.1, z.2.1⟩
        refine ⟨m', lt, i + 1, H', (I'.unpinned (pins := [])).weak (by rw [← w8, wipe_length]) (fun j v e => ?_), T.keep _ _ _ st7 fun b m o e => (pin b m o e).1, fun b m => ?_, w'⟩
        · rw [← w8] at e
          exact (wipe_some e).1
        · obtain ⟨o, e, _⟩ := T.obj _ _ st7 b m
          exact (pin b m o e).2
      cases b with
      | false =>
        simp only [Bool.false_eq_true, if_false] at q9 ⊢
        exact turnEnd I9 q9
      | true =>
        simp only [if_true] at q9 ⊢
        refine thnF (pe.run _ s9 σ8 H9 _ I9 q9) fun z s10 ⟨yv, H10, I10, r10, xa, k, L, ey, hx, hD, hT, few, nx⟩ => ?_
        subst ey
        cases (show z = Value.ref xa from r10)
        exact add_tup (X := X.blk s3 H3 scope ce fp) hu I10 hD hT hx few fun s11 L2 c1 c2 I11 => turnEnd I11 (nx L2 c1 c2)
  exact PpSet.codeAny_compStart_set loop (T.self X.A 0 _ _ _ st4 loop)
theorem pe_sm {elt tg iter : Expr} {ifs : List Expr} {scope : Scope} {own : List (PySem.Str × Nat)} {pos : Pos} {wi : TI} {g : TG} {tt : TT} {te : TE} (hu : X.A.units + 64 < cLine) (hc : X.calm = true) (hN : X.N.Nodup) (hi : PI X tg iter wi) (ok : BlkOk X.N X.env.scope scope own)
    (hg : ∀ s H C cl fp, PG (X.blk s H scope (compEnvC scope cl C X.env) fp) tg g) (ht : ∀ s H C cl fp, PTs (X.blk s H scope (compEnvC scope cl C X.env) fp) ifs tt)
    (he : ∀ s H C cl fp, PE (X.blk s H scope (compEnvC scope cl C X.env) fp) elt te) (hs : ∀ x, foldedSetIterable iter X.env x = pure x := by intro _; rfl) :
    PE X (.SetComp elt [⟨tg, iter, ifs, 0⟩] scope pos) (tSm X.prog X.w wi g tt te (own.map (·.2))) := by
  refine ⟨fun pins s σ H Q I h => ?_⟩
  rw [PpSet.eval_SetComp]
  refine sm_run hu hc hN I hi ok hg ht he hs h fun D C s' m H' I' q hn f => ⟨m, hn, fun h'' sb => ?_⟩
  obtain ⟨f0, f1, f2, f3, f4, f5⟩ := f
  exact ⟨.ref D, H', I'.turned (t' := s'.toks) (fun b o hb e => (sb.2 b hb).trans e) f0 f1 f3 f4 f5, rfl, q⟩
end
end Sx

set_option linter.all false
set_option maxRecDepth 100000
set_option maxHeartbeats 2000000
/-! the order of tuples of ints and texts; sorted lists of them -/
namespace Sx
open PySem PySem.Spec PyProof.Rows L2

/-! ### linear orders -/
structure Lin {α : Type} (lt : α → α → Bool) : Prop where
  irr : ∀ x, lt x x = false
  tr : ∀ x y z, lt x y = true → lt y z = true → lt x z = true
  tot : ∀ x y, x ≠ y → lt x y = true ∨ lt y x = true
section
variable {α β : Type} {lt : α → α → Bool}
theorem Lin.asym (O : Lin lt) {x y : α} (h : lt x y = true) : lt y x = false := by
  rcases e : lt y x with _ | _
  · rfl
  · have z := O.tr x y x h e
    rw [O.irr] at z
    cases z
theorem Lin.anti (O : Lin lt) {x y : α} (h1 : lt x y = false) (h2 : lt y x = false) : x = y := Classical.byContradiction fun ne => by
  rcases O.tot x y ne with z | z
  · rw [h1] at z; cases z
  · rw [h2] at z; cases z
theorem Lin.le_tr (O : Lin lt) {x y z : α} (h1 : lt y x = false) (h2 : lt z y = false) : lt z x = false := by
  rcases e : lt z x with _ | _
  · rfl
  · by_cases c : x = y
    · subst c; rw [e] at h2; cases h2
    · rcases O.tot x y c with q | q
      · have r := O.tr z x y e q
        rw [h2] at r; cases r
      · rw [h1] at q; cases q
theorem Lin.swo (O : Lin lt) (f : β → α) : SrtO.Swo fun x y => lt (f x) (f y) := ⟨fun _ _ h => O.asym h, fun _ _ _ h1 h2 => O.le_tr h1 h2⟩
/-- a rising list is known by its members -/
theorem Lin.uniq (O : Lin lt) : ∀ {l m : List α}, l.Pairwise (fun x y => lt y x = false) → m.Pairwise (fun x y => lt y x = false) → l.Perm m → l = m
  | [], m, _, _, p => (List.Perm.eq_nil p.symm).symm
  | x :: l, [], _, _, p => by cases List.Perm.eq_nil p
  | x :: l, y :: m, hl, hm, p => by
    have h1 := List.pairwise_cons.mp hl
    have h2 := List.pairwise_cons.mp hm
    have a : lt y x = false := by
      rcases List.mem_cons.mp (p.mem_iff.mpr List.mem_cons_self) with e | z
      · rw [e]; exact O.irr _
      · exact h1.1 y z
    have b : lt x y = false := by
      rcases List.mem_cons.mp (p.mem_iff.mp List.mem_cons_self) with e | z
      · rw [e]; exact O.irr _
      · exact h2.1 x z
    have e := O.anti b a
    subst e
    rw [O.uniq h1.2 h2.2 p.cons_inv]
variable [DecidableEq α]
/-- item by item, a beginning ahead of what goes on -/
def lexL (lt : α → α → Bool) : List α → List α → Bool
  | [], [] => false
  | [], _ :: _ => true
  | _ :: _, [] => false
  | a :: as, b :: bs => if a = b then lexL lt as bs else lt a b
theorem Lin.lex (O : Lin lt) : Lin (lexL lt) where
  irr := fun l => by
    induction l with
    | nil => rfl
    | cons a l ih => rw [lexL, if_pos rfl]; exact ih
  tr := fun l => by
    induction l with
    | nil =>
      intro m n h1 h2
      cases n with
      | nil => cases m <;> cases h2
      | cons => rfl
    | cons a l ih =>
      intro m n h1 h2
      cases m with
      | nil => cases h1
      | cons b m =>
        cases n with
        | nil => cases h2
        | cons c n =>
          rw [lexL] at h1 h2 ⊢
          by_cases ab : a = b
          · subst ab
            rw [if_pos rfl] at h1
            by_cases ac : a = c
            · rw [if_pos ac] at h2 ⊢
              exact ih m n h1 h2
            · rw [if_neg ac] at h2 ⊢
              exact h2
          · rw [if_neg ab] at h1
            by_cases bc : b = c
            · subst bc
              rw [if_neg ab]
              exact h1
            · rw [if_neg bc] at h2
              have ac := O.tr a b c h1 h2
              by_cases e : a = c
              · subst e; rw [O.irr] at ac; cases ac
              · rw [if_neg e]; exact ac
  tot := fun l => by
    induction l with
    | nil =>
      intro m ne
      cases m with
      | nil => exact absurd rfl ne
      | cons => exact .inl rfl
    | cons a l ih =>
      intro m ne
      cases m with
      | nil => exact .inr rfl
      | cons b m =>
        rw [lexL, lexL]
        by_cases ab : a = b
        · subst ab
          rw [if_pos rfl, if_pos rfl]
          exact ih m fun e => ne (by rw [e])
        · rw [if_neg ab, if_neg fun e => ab e.symm]
          exact O.tot a b ab
end
/-- ints ahead of texts -/
def ltKey : Key → Key → Bool
  | .inl a, .inl b => decide (a < b)
  | .inr x, .inr y => decide (x.cps.toList < y.cps.toList)
  | .inl _, .inr _ => true
  | .inr _, .inl _ => false
def ltText (x y : PySem.Str) : Bool := decide (x.cps.toList < y.cps.toList)
theorem lin_text : Lin ltText where
  irr := fun x => decide_eq_false (List.lt_irrefl _)
  tr := fun x y z h1 h2 => decide_eq_true (List.lt_trans (of_decide_eq_true h1) (of_decide_eq_true h2))
  tot := fun x y ne => by
    by_cases c : x.cps.toList < y.cps.toList
    · exact .inl (decide_eq_true c)
    · refine .inr (decide_eq_true (Classical.byContradiction fun d => ne ?_))
      have e := List.le_antisymm (List.not_lt.mp d) (List.not_lt.mp c)
      cases x
      cases y
      exact congrArg _ (Array.toList_inj.mp e)
theorem lin_key : Lin ltKey where
  irr := fun k => by
    cases k with
    | inl a => exact decide_eq_false (Int.lt_irrefl a)
    | inr x => exact lin_text.irr x
  tr := fun k l m h1 h2 => by
    cases k with
    | inl a =>
      cases m with
      | inr => rfl
      | inl c =>
        cases l with
        | inr => cases h2
        | inl b => exact decide_eq_true (Int.lt_trans (of_decide_eq_true h1) (of_decide_eq_true h2))
    | inr x =>
      cases l with
      | inl => cases h1
      | inr y =>
        cases m with
        | inl => cases h2
        | inr z => exact lin_text.tr x y z h1 h2
  tot := fun k l ne => by
    cases k with
    | inl a =>
      cases l with
      | inr => exact .inl rfl
      | inl b =>
        rcases Int.lt_trichotomy a b with c | c | c
        · exact .inl (decide_eq_true c)
        · exact absurd (by rw [c]) ne
        · exact .inr (decide_eq_true c)
    | inr x =>
      cases l with
      | inl => exact .inr rfl
      | inr y => exact lin_text.tot x y fun e => ne (by rw [e])
abbrev ltT : List Key → List Key → Bool := lexL ltKey
theorem lin_tup : Lin ltT := lin_key.lex
/-- a key list's shape: where ints stand -/
def shp (k : List Key) : List Bool := k.map Sum.isLeft

/-! ### the model's comparison -/
section
variable {P : Program} {w : World} {A : Around} {E : Value → Shared → Prop} {s : Shared}
theorem kat_items {b : Bool} : ∀ {ks ls : List Key} {us vs : List Value} {i : Nat}, ItemsAre (mixKind P w) ks us → ItemsAre (mixKind P w) ls vs → shp ks = shp ls → (b && i == 0) = true ∨ (b && i == 0) = false →
    PySem.W.KatLex P w A b false (fun r s' => s' = s ∧ r = ltT ks ls) (us.zip vs) i s := by
  intro ks
  induction ks with
  | nil =>
    intro ls us vs i h1 h2 e _
    cases h1
    cases ls with
    | nil => cases h2; exact PySem.W.kat_nil ⟨rfl, rfl⟩
    | cons => cases e
  | cons k ks ih =>
    intro ls us vs i h1 h2 e _
    cases ls with
    | nil => cases e
    | cons l ls =>
      cases h1 with
      | @cons _ u _ us k1 t1 =>
        cases h2 with
        | @cons _ v _ vs k2 t2 =>
          have e' : Sum.isLeft k :: shp ks = Sum.isLeft l :: shp ls := e
          injection e' with e1 e2
          refine PySem.W.kat_cons ((mixKind P w).eqBool k1 k2 ?_)
          refine PySem.W.kat_go (fun c => ?_) fun c => ?_
          · have kl : k = l := of_decide_eq_true c
            subst kl
            refine PySem.W.kat_yes ?_
            have q := ih (i := i + 1) t1 t2 e2 (by cases (b && i + 1 == 0) <;> simp)
            have z : ltT (k :: ks) (k :: ls) = ltT ks ls := if_pos rfl
            rw [z]
            exact q
          · have kl : ¬ k = l := of_decide_eq_false c
            have z : ltT (k :: ks) (l :: ls) = ltKey k l := if_neg kl
            rw [z]
            refine PySem.W.kat_no ?_
            rcases keyIs_shape k1 with ⟨i1, t, rfl, rfl⟩ | ⟨x, t, rfl, rfl⟩
            · rcases keyIs_shape k2 with ⟨i2, t', rfl, rfl⟩ | ⟨y, t', rfl, rfl⟩
              · cases (b && i == 0)
                · exact PySem.W.kat_one _ _ (PyProof.Rows.lt_int (show _ = _ ∧ _ = _ from ⟨rfl, rfl⟩))
                · exact oneLt_int ⟨rfl, rfl⟩
              · cases e1
            · rcases keyIs_shape k2 with ⟨i2, t', rfl, rfl⟩ | ⟨y, t', rfl, rfl⟩
              · cases e1
              · cases (b && i == 0)
                · exact PySem.W.kat_one _ _ (PySem.P.lt_str (show _ = _ ∧ _ = _ from ⟨rfl, rfl⟩))
                · exact oneLt_str ⟨rfl, rfl⟩
open Classical in
/-- the key that stands at v -/
noncomputable def keyAt (P : Program) (w : World) (h : Heap) (v : Value) : List Key := if c : ∃ k a, v = .ref a ∧ MixT P w h k a then c.choose else []
theorem keyAt_of {h : Heap} {k : List Key} {a : Addr} (hk : MixT P w h k a) : keyAt P w h (.ref a) = k := by
  unfold keyAt
  have c : ∃ k' b, Value.ref a = .ref b ∧ MixT P w h k' b := ⟨k, a, rfl, hk⟩
  rw [dif_pos c]
  obtain ⟨b, e, q⟩ := c.choose_spec
  cases e
  exact q.inj hk
/-- v is a tuple of this shape -/
def TupV (P : Program) (w : World) (h : Heap) (sh : List Bool) (v : Value) : Prop := ∃ k a, v = .ref a ∧ MixT P w h k a ∧ shp k = sh
theorem mix_cls {h h' : Heap} {a : Addr} {k : List Key} {L : Addr} (keep : ∀ b o, b ≠ L → h.get? b = some o → h'.get? b = some o) (lst : ∀ o, h.get? L = some o → o.cls ≠ .type "tuple") (hk : MixT P w h k a) : MixT P w h' k a := by
  obtain ⟨o, items, n, ho, hc, hd, hi⟩ := hk
  exact ⟨o, items, n, keep a o (fun e => lst o (by rw [← e]; exact ho) hc) ho, hc, hd, hi⟩
theorem tup_cmp {sh : List Bool} {b : Bool} {h0 : Heap} {vs : List Value} (h : ∀ v ∈ vs, ∃ k a, v = .ref a ∧ MixT P w h0 k a ∧ MixT P w s.heap k a ∧ shp k = sh) :
    SrtO.Cmp P w A s (tuples' b) (fun p => p.1 ∈ vs) (SrtO.lt2 fun v u => ltT (keyAt P w h0 v) (keyAt P w h0 u)) := by
  intro p q hp hq
  obtain ⟨k, x, ex, k0, kx, kS⟩ := h _ hp
  obtain ⟨l, y, ey, l0, ly, lS⟩ := h _ hq
  show wpAny (model P w) A (keyLt' (tuples' b) p.1 q.1) (fun r s' => s' = s ∧ r = ltT (keyAt P w h0 p.1) (keyAt P w h0 q.1)) (fun _ _ => False) s
  rw [ex, ey, keyAt_of k0, keyAt_of l0]
  obtain ⟨o, xs, n, ho, hc, hd, hi⟩ := kx
  obtain ⟨o', ys, n', ho', hc', hd', hi'⟩ := ly
  refine PySem.W.kat_lt ho hd ho' hd' ?_
  have len : k.length = l.length := by
    have z := congrArg List.length (kS.trans lS.symm)
    unfold shp at z
    rwa [List.length_map, List.length_map] at z
  have fin : decide (xs.size < ys.size) = false := by
    have z1 : k.length = xs.size := by rw [hi.length]; simp
    have z2 : l.length = ys.size := by rw [hi'.length]; simp
    exact decide_eq_false (by omega)
  rw [fin]
  exact kat_items hi hi' (kS.trans lS.symm) (by cases (b && 0 == 0) <;> simp)
theorem kat_heads {sh : List Bool} {c : Bool} {h : Heap} : ∀ vs : List Value, (∀ v ∈ vs, TupV P w h (c :: sh) v) → ∃ fs : List Value, PySem.W.KatTups h vs fs ∧ fs.length = vs.length ∧ ∀ f ∈ fs, (c = true ∧ ∃ i t, f = Value.int i t) ∨ (c = false ∧ ∃ x t, f = Value.str x t)
  | [], _ => ⟨[], PySem.W.KatTups.nil, rfl, fun _ m => absurd m List.not_mem_nil⟩
  | v :: vs, hv => by
    obtain ⟨fs, a1, a2, a3⟩ := kat_heads vs fun u m => hv u (List.mem_cons_of_mem _ m)
    obtain ⟨k, a, rfl, ⟨o, items, n, ho, hc, hd, hi⟩, e⟩ := hv _ List.mem_cons_self
    cases k with
    | nil => cases e
    | cons k ks =>
      have e' : Sum.isLeft k :: shp ks = c :: sh := e
      injection e' with e1 _
      generalize il : items.toList = il at hi
      cases hi with
      | @cons _ f _ us k1 t1 =>
        have h0 : items[0]? = some f := by rw [← Array.getElem?_toList, il] <;> rfl
        refine ⟨f :: fs, PySem.W.KatTups.cons ho hc hd h0 a1, by rw [List.length_cons, List.length_cons, a2], fun g m => ?_⟩
        rcases List.mem_cons.mp m with rfl | m
        · rcases keyIs_shape k1 with ⟨i, t, rfl, ef⟩ | ⟨x, t, rfl, ef⟩
          · exact .inl ⟨e1.symm, i, t, ef⟩
          · exact .inr ⟨e1.symm, x, t, ef⟩
        · exact a3 g m
theorem tups_sortable {sh : List Bool} {c : Bool} {a : Addr} {vs : List Value} (pos : 0 < vs.length) (hv : ∀ v ∈ vs, TupV P w s.heap (c :: sh) v) (ha : ∀ o, s.heap.get? a = some o → o.cls ≠ .type "tuple") :
    SrtO.SortableO P w A s a vs fun v u => ltT (keyAt P w s.heap v) (keyAt P w s.heap u) := by
  intro h' keep
  have hv' : ∀ v ∈ vs, TupV P w h' (c :: sh) v := fun v m => by
    obtain ⟨k, x, e, hk, es⟩ := hv v m
    exact ⟨k, x, e, mix_cls keep ha hk, es⟩
  obtain ⟨fs, f1, f2, f3⟩ := kat_heads vs hv'
  refine ⟨tuples' true, fun Q E hq => ?_, tup_cmp (sh := c :: sh) fun v m => ?_⟩
  · cases c with
    | true =>
      refine PySem.W.kat_kind (T := .type "int") f1 (by omega) (fun f m => ?_) (by rfl) ?_
      · rcases f3 f m with ⟨_, i, t, rfl⟩ | ⟨z, _⟩
        · exact PySem.W.Looks.now
        · cases z
      · rw [show (Value.type "int" != Value.type "tuple") = true from by decide +kernel]
        exact hq
    | false =>
      refine PySem.W.kat_kind (T := .type "str") f1 (by omega) (fun f m => ?_) (by rfl) ?_
      · rcases f3 f m with ⟨z, _⟩ | ⟨_, x, t, rfl⟩
        · cases z
        · exact PySem.W.Looks.now
      · rw [show (Value.type "str" != Value.type "tuple") = true from by decide +kernel]
        exact hq
  · obtain ⟨k, x, e, hk, es⟩ := hv v m
    exact ⟨k, x, e, hk, mix_cls keep ha hk, es⟩
end
end Sx

set_option linter.all false
set_option maxRecDepth 100000
set_option maxHeartbeats 2000000
/-! sorted of a list of tuples, of a set of tuples -/
namespace Sx
open PySem PySem.Spec PyProof.Rows L2
abbrev refsOf (R : Rows) : List V := R.map fun p => V.ref p.1
abbrev valsOf (R : Rows) : List Value := R.map fun p => Value.ref p.1
theorem vals_refs : ∀ R : Rows, Vals (refsOf R) (valsOf R)
  | [] => .nil
  | _ :: R => .cons rfl (vals_refs R)
theorem refs_vals : ∀ {R : Rows} {us : List Value}, Vals (refsOf R) us → us = valsOf R
  | [], _, .nil => rfl
  | _ :: R, _, .cons r t => by
    cases r
    rw [refs_vals t] <;> rfl
/-- rows picked by their values -/
theorem rows_back {R : Rows} {us : List Value} (h : ∀ u ∈ us, u ∈ valsOf R) : ∃ R2, us = valsOf R2 ∧ ∀ p ∈ R2, p ∈ R := by
  induction us with
  | nil => exact ⟨[], rfl, fun p m => absurd m List.not_mem_nil⟩
  | cons u us ih =>
    obtain ⟨R2, e, sub⟩ := ih fun v m => h v (List.mem_cons_of_mem _ m)
    obtain ⟨p, m, rfl⟩ := List.mem_map.mp (h u List.mem_cons_self)
    refine ⟨p :: R2, by show _ = Value.ref p.1 :: valsOf R2; rw [e], fun q hq => ?_⟩
    rcases List.mem_cons.mp hq with rfl | hq
    · exact m
    · exact sub q hq
/-- the same addresses in another order are the same rows -/
theorem rows_perm {R R2 : Rows} (inj : ∀ p ∈ R, ∀ q ∈ R, p.1 = q.1 → p = q) (sub : ∀ p ∈ R2, p ∈ R) (pm : (valsOf R2).Perm (valsOf R)) : R2.Perm R := by
  have z := pm
  clear pm
  induction R2 generalizing R with
  | nil =>
    have e : valsOf R = [] := List.Perm.eq_nil z.symm
    rw [List.map_eq_nil_iff.mp e]
  | cons p R2 ih =>
    obtain ⟨S, T, eR⟩ := List.append_of_mem (sub p List.mem_cons_self)
    have pe : R.Perm (p :: (S ++ T)) := by rw [eR]; exact List.perm_middle
    have old : ∀ r ∈ S ++ T, r ∈ R := fun r m => pe.mem_iff.mpr (List.mem_cons_of_mem _ m)
    have z2 : (valsOf R2).Perm (valsOf (S ++ T)) := (z.trans (pe.map fun p => Value.ref p.1)).cons_inv
    refine List.Perm.trans (List.Perm.cons p (ih (fun a ha b hb e => inj a (old a ha) b (old b hb) e) (fun q hq => ?_) z2)) pe.symm
    have hr : Value.ref q.1 ∈ valsOf (S ++ T) := z2.mem_iff.mp (List.mem_map.mpr ⟨q, hq, rfl⟩)
    obtain ⟨r, hr, e⟩ := List.mem_map.mp hr
    injection e with e
    rw [inj q (sub q (List.mem_cons_of_mem _ hq)) r (old r hr) e.symm]
    exact hr
theorem rising {P : Program} {w : World} {h : Heap} {R : Rows} (ht : ∀ p ∈ R, MixT P w h p.2 p.1) (hs : SrtO.Srtd (fun v u => ltT (keyAt P w h v) (keyAt P w h u)) (valsOf R)) : R.Pairwise fun x y => ltT y.2 x.2 = false := by
  refine List.Pairwise.imp_of_mem (fun {x y} hx hy z => ?_) (List.pairwise_map.mp hs)
  have z : ltT (keyAt P w h (.ref y.1)) (keyAt P w h (.ref x.1)) = false := z
  rw [keyAt_of (ht x hx), keyAt_of (ht y hy)] at z
  exact z
section
variable {X : Cx}
/-- sorted(xs), xs a list of tuples of one shape: a new list of the same, rising -/
def rSortM (K : PySem.W.Frag) : List V → Hp → VK → Prop := fun vs H Q => ∃ (a : Addr) (R : Rows) (c : Bool) (sh : List Bool), vs = [V.ref a] ∧ SqL K H a (refsOf R) ∧ TupsIn H R ∧ (∀ p ∈ R, shp p.2 = c :: sh) ∧
  ∀ (R2 : Rows) (p : Addr), R2.Perm R → R2.Pairwise (fun x y => ltT y.2 x.2 = false) → H p = none → Q (.ref p) (upd H p (.lst (refsOf R2)))
theorem tups_inj {H : Hp} {R : Rows} (ht : TupsIn H R) : ∀ p ∈ R, ∀ q ∈ R, p.1 = q.1 → p = q := fun p hp q hq e => by
  have a := ht p hp
  have b := ht q hq
  rw [e, b] at a
  injection a with a
  injection a with a
  have inj : ∀ k l : List Key, k.map kV = l.map kV → k = l := by
    intro k
    induction k with
    | nil => intro l e; cases l <;> first | rfl | cases e
    | cons k ks ih =>
      intro l e
      cases l with
      | nil => cases e
      | cons l ls =>
        injection e with e1 e2
        rw [ih ls e2]
        cases k <;> cases l <;> first | (injection e1 with e1; rw [e1]) | cases e1
  exact Prod.ext e (inj _ _ a.symm)
theorem cr_sortM : CallR X (.builtin "sorted") (rSortM X.K) := by
  intro pins s σ H vs us Q I r h
  obtain ⟨a, R, c, sh, rfl, hs, ht, hsh, q⟩ := h
  obtain ⟨its, rv, hl, hz⟩ := I.list hs
  rw [Vals.ref1 r]
  have ei := refs_vals rv
  subst ei
  have raw := tups_raw I ht
  have szR : (valsOf R).length ≤ sizeLine := by rw [← rv.length]; exact hz
  have ord := SrtO.sorted_ord (prog := X.prog) (w := X.w) (A := X.A) (E := X.xe) (s := s) (l := a) (vs := valsOf R) (ltv := fun v u => ltT (keyAt X.prog X.w s.heap v) (keyAt X.prog X.w s.heap u))
    (Q := EP X pins σ Q) (lin_tup.swo _) hl.isList szR
  refine ord (fun h2 h₁ a' ha' kk => ?_) fun out h1 h2 => ?_
  · have hv : ∀ v ∈ valsOf R, TupV X.prog X.w h₁ (c :: sh) v ∧ keyAt X.prog X.w h₁ v = keyAt X.prog X.w s.heap v := fun v m => by
      obtain ⟨p, mp, rfl⟩ := List.mem_map.mp m
      obtain ⟨o, items, n, ho, rest⟩ := raw p mp
      have z : MixT X.prog X.w h₁ p.2 p.1 := ⟨o, items, n, (kk _ o ho).2, rest⟩
      exact ⟨⟨p.2, p.1, rfl, z, hsh p mp⟩, by rw [keyAt_of z, keyAt_of (raw p mp)]⟩
    intro h' keep
    obtain ⟨κ, k1, k2⟩ := tups_sortable (P := X.prog) (w := X.w) (A := X.A.in1.in1) (s := { s with heap := h₁ }) (a := a') (vs := valsOf R) (sh := sh) (c := c) (by omega) (fun v m => (hv v m).1) (fun o e z => by
      rw [ha'] at e
      cases e
      exact absurd (Value.type.inj z) (by decide)) h' keep
    refine ⟨κ, k1, fun p q hp hq => ?_⟩
    have y := k2 p q hp hq
    refine wpAny_mono y (fun r s' ⟨e1, e2⟩ => ⟨e1, ?_⟩) fun _ _ f => f
    rw [e2]
    show ltT (keyAt X.prog X.w h₁ p.1) (keyAt X.prog X.w h₁ q.1) = ltT (keyAt X.prog X.w s.heap p.1) (keyAt X.prog X.w s.heap q.1)
    rw [(hv _ hp).2, (hv _ hq).2]
  · obtain ⟨ep, he'⟩ := PyProof.Rows.sortedAll_at s.heap (valsOf R) out.toArray
    obtain ⟨R2, rfl, sub⟩ := rows_back fun u m => h2.perm.mem_iff.mp m
    have pm := rows_perm (tups_inj ht) sub h2.perm
    have hlen : (refsOf R2).length ≤ sizeLine := by
      rw [List.length_map, pm.length_eq]
      rw [List.length_map] at szR
      exact szR
    exact ⟨.ref _, upd H (s.heap.objs.size + 1) (.lst (refsOf R2)), I.laid (t' := s.toks) (fun _ _ => PyProof.Rows.sortedAll_old) (Nat.le_succ _) ⟨hlen, valsOf R2, ep, vals_refs R2, he'⟩, rfl,
      q R2 _ pm (rising (fun p m => raw p (sub p m)) h1) (I.hok.fresh (Nat.le_succ _))⟩
end
end Sx

set_option linter.all false
set_option maxRecDepth 100000
set_option maxHeartbeats 2000000
/-! sorted of a set of tuples -/
namespace Sx
open PySem PySem.Spec PyProof.Rows L2
section
variable {P : Program} {w : World} {A : Around} {E : Value → Shared → Prop} {s : Shared}
theorem sorted_mset {a : Addr} {L : Rows} {es : Array (Int × Value)} {ep : Nat} {t : SetTable} {Q : Value → Shared → Prop} (R : MSet P w s.heap a L es ep t) (hh : A.handled = none) {c : Bool} {sh : List Bool} (hs : ∀ p ∈ L, shp p.2 = c :: sh)
    (hQ : ∀ s' p (L2 : Rows) (n : Nat), (∀ b o, s.heap.get? b = some o → s'.heap.get? b = some o) → s'.gens = s.gens → s'.os = s.os → s.heap.objs.size ≤ p →
      s'.heap.get? p = some (seqObj "list" (valsOf L2).toArray n) → L2.Perm L → L2.Pairwise (fun x y => ltT y.2 x.2 = false) → Q (.ref p) s') :
    wpAny (model P w) A (call (.builtin "sorted") [.ref a]) Q E s := by
  obtain ⟨o, ho, hex, hd⟩ := R.ob
  have n1 := cells_size R.rows
  have few := R.few
  refine Calls.call_function_entry kind_sorted plain_sorted entry_sorted (args_sorted1 _) ?_
  unfold Builtin.«sorted»
  refine wpAny_bind (m := checkCount "sorted" 1 1 _) (wpAny_pure ?_)
  refine wpAny_bind (collect_set (A := A.in1) hh ⟨o, ho, hex.1, hd⟩ R.fits (by unfold scanBound; omega) R.tab.up R.led fun s1 vs k1 hz g1 o1 pm => ?_)
  have esV : es.toList.map (·.2) = valsOf L := by
    rw [R.rows]
    unfold cells
    rw [List.map_map] <;> rfl
  rw [esV] at pm
  have inj : ∀ p ∈ L, ∀ q ∈ L, p.1 = q.1 → p = q := fun p hp q hq e => by
    have x := R.tup p hp
    rw [e] at x
    exact Prod.ext e (x.inj (R.tup q hq))
  have lv : vs.length = L.length := by rw [pm.length_eq, List.length_map]
  refine wpAny_bind (wpAny_newList ?_ (by rw [sizeLine_eq]; omega))
  have hoL : (s1.heap.push (seqObj "list" vs.toArray 0)).get? s1.heap.objs.size = some (seqObj "list" vs.toArray 0) := Heap.get?_push_size _ rfl
  have raw : ∀ p ∈ L, MixT P w (s1.heap.push (seqObj "list" vs.toArray 0)) p.2 p.1 := fun p m => by
    obtain ⟨ob, items, n, hob, rest⟩ := R.tup p m
    exact ⟨ob, items, n, Heap.get?_push_of_some _ (k1 _ _ hob), rest⟩
  have shape : ∀ v ∈ vs, TupV P w (s1.heap.push (seqObj "list" vs.toArray 0)) (c :: sh) v := fun v m => by
    obtain ⟨p, mp, rfl⟩ := List.mem_map.mp (pm.mem_iff.mp m)
    exact ⟨p.2, p.1, rfl, raw p mp, hs p mp⟩
  refine wpAny_bind (wpAny_holding (wpAny_call_entry PyProof.Rows.slot_list_sort ⟨_, hoL, rfl⟩ PyProof.Rows.entry_list_sort
    (SrtO.list_sort_ord (s := { s1 with heap := s1.heap.push (seqObj "list" vs.toArray 0) }) (ltv := fun v u => ltT (keyAt P w (s1.heap.push (seqObj "list" vs.toArray 0)) v) (keyAt P w (s1.heap.push (seqObj "list" vs.toArray 0)) u)) (lin_tup.swo _) hoL (by rw [sizeLine_eq]; omega)
      (fun h2 => tups_sortable (s := { s1 with heap := s1.heap.push (seqObj "list" vs.toArray 0) }) (by omega) shape fun ob e z => ?_) fun out h1 h2 => ⟨_, rfl, ?_⟩) (PyProof.Rows.args_list_sort _)))
  · have e2 : some ob = some (seqObj "list" vs.toArray 0) := (show (s1.heap.push (seqObj "list" vs.toArray 0)).get? s1.heap.objs.size = some ob from e).symm.trans hoL
    cases e2
    exact absurd (Value.type.inj z) (by decide)
  · obtain ⟨n, hn⟩ := PyProof.Rows.sortedHeap_at (vs := vs) (out := out.toArray) hoL
    obtain ⟨L2, rfl, sub⟩ := rows_back (R := L) fun u m => pm.mem_iff.mp (h2.perm.mem_iff.mp m)
    refine wpAny_pure ⟨_, rfl, hQ _ s1.heap.objs.size L2 n (fun b u e => ?_) g1 o1 hz hn (rows_perm inj sub (h2.perm.trans pm)) (rising (fun p m => raw p (sub p m)) h1)⟩
    have lt := Heap.lt_size (k1 b u e)
    show (sortedHeap (s1.heap.push (seqObj "list" vs.toArray 0)) s1.heap.objs.size vs _).get? b = some u
    rw [sortedHeap_old (Nat.ne_of_lt lt) (by rw [size_push']; exact Nat.lt_succ_of_lt lt)]
    exact Heap.get?_push_of_some _ (k1 b u e)
end
section
variable {X : Cx}
/-- sorted(S), S a set of tuples of one shape: a new list of its tuples, rising -/
def rSortMS (P : Program) (w : World) : List V → Hp → VK → Prop := fun vs H Q => ∃ (a : Addr) (L : Rows) (c : Bool) (sh : List Bool), vs = [V.ref a] ∧ H a = some (MSetO P w a L) ∧ TupsIn H L ∧ (∀ p ∈ L, shp p.2 = c :: sh) ∧
  ∀ (L2 : Rows) (p : Addr), L2.Perm L → (L2.map (·.2)).Nodup → L2.Pairwise (fun x y => ltT y.2 x.2 = false) → H p = none → Q (.ref p) (upd H p (.lst (refsOf L2)))
theorem cr_sortMS (hc : X.calm = true) : CallR X (.builtin "sorted") (rSortMS X.prog X.w) := by
  intro pins s σ H vs us Q I r h
  obtain ⟨a, L, c, sh, rfl, ha, ht, hs, q⟩ := h
  obtain ⟨es, ep, t, R⟩ := mset_get I ha ht
  rw [Vals.ref1 r]
  refine sorted_mset R (I.ok.hd hc) hs fun s' p L2 n k g o hp hg pm up => ?_
  have hn : H p = none := I.hok.fresh hp
  have few := R.few
  have hlen : (refsOf L2).length ≤ sizeLine := by rw [List.length_map, pm.length_eq, sizeLine_eq]; omega
  have J : Inv X pins σ (upd H p (.lst (refsOf L2))) { s with heap := s'.heap, gens := s'.gens, drawn := s'.drawn, toks := s'.toks } :=
    I.call (ch := []) (Un.laid k hp hn) (I.hok.laid k hp ⟨hlen, valsOf L2, n, vals_refs L2, hg⟩) (by rw [g]; exact I.bare) (fun _ z => nomatch z)
  have e : s' = { s with heap := s'.heap, gens := s'.gens, drawn := s'.drawn, toks := s'.toks } := by
    cases s'; cases s; cases o; rfl
  rw [e]
  exact ⟨.ref p, _, J, rfl, q L2 p pm ((pm.map (·.2)).nodup_iff.mpr R.nd) up hn⟩
end
end Sx

set_option linter.all false
set_option maxRecDepth 100000
set_option maxHeartbeats 2000000
/-! dicts with tuple keys: setdefault, the comprehension -/
namespace Sx
open PySem PySem.Spec PyProof.Rows L2
section
variable {X : Cx} {pins : List (Addr × Obj)} {σ : L2.St} {H : Hp} {s : Shared} {a b : Addr} {r : Value} {d : V} {k : List Key} {A : Around} {E : Value → Shared → Prop} {kvs : List (List Key × V)}
theorem dt_stored {h' : Heap} {t' : Nat} {xs : List (List Key × Addr × Value)} (I : Inv X pins σ H s) (e : H a = some (.dT kvs)) (eb : H b = some (.tup (k.map kV))) (fit : kvs.length < sizeLine) (no : (a == sysModules) = false) (rel : KT H kvs xs) (rd : RelV d r)
    (dd : h'.DictOfH (tupleKind (mixKind X.prog X.w)) a (storedH xs k b r)) (sb : Heap.SameBut a s.heap h') : Inv X pins σ (upd H a (.dT (putK kvs k d))) { s with heap := h', toks := t' } := by
  have len := length_putK kvs k d
  obtain ⟨q, es, ep, hq, h2, h3, h4, _, h5⟩ := dd
  refine d_write I (by rw [e]; exact True.intro) sb ⟨q, hq⟩ ⟨by omega, no, _, (rel.put k eb rd).keeps fun c ys ec => ?_, q, es, ep, hq, h2, h3, h4, h5⟩
  rw [upd_ne (ne_of ec e (fun z => nomatch z))]
  exact ec
theorem dt_setd {Q : Value → Shared → Prop} (hu : A.units + 1 < cLine) (I : Inv X pins σ H s) (e : H a = some (.dT kvs)) (eb : H b = some (.tup (k.map kV))) (rd : RelV d r) (fit : kvs.length < sizeLine)
    (h1 : ∀ v, valV kvs k = some v → ∀ w' s', Inv X pins σ H s' → RelV v w' → Q w' s') (h2 : valV kvs k = none → ∀ s', Inv X pins σ (upd H a (.dT (putK kvs k d))) s' → Q r s') :
    wpAny (model X.prog X.w) A (call (.builtin "dict.setdefault") [.ref a, .ref b, r]) Q E s := by
  obtain ⟨z, no, xs, rel, dd⟩ := dt_of I.hok e
  have lx : xs.length ≤ sizeLine := (Paired.length rel) ▸ z
  have v := rel.val k
  refine call_setdefault_heap (knd := tupleKind (mixKind X.prog X.w)) (hsz := lx) (tupleKind_room_in1 hu) (key_of I.hok eb) no dd (fun p hp => ?_) fun hn h' dd' sb => ?_
  · rw [hp] at v
    rcases q : valV kvs k with _ | v0
    · rw [q] at v; exact (show False from v).elim
    · rw [q] at v; exact h1 v0 q _ _ (I.tok _) v
  · rw [hn] at v
    rcases q : valV kvs k with _ | v0
    · exact h2 q _ (dt_stored I e eb fit no rel rd dd' sb)
    · rw [q] at v; exact (show False from v).elim
theorem dt_dictSet {Q : Unit → Shared → Prop} (hu : A.units + 1 < cLine) (I : Inv X pins σ H s) (e : H a = some (.dT kvs)) (eb : H b = some (.tup (k.map kV))) (rd : RelV d r) (fit : kvs.length < sizeLine)
    (h : ∀ s', Inv X pins σ (upd H a (.dT (putK kvs k d))) s' → Q () s') : wpAny (model X.prog X.w) A (dictSet a (.ref b) r) Q E s := by
  obtain ⟨z, no, xs, rel, dd⟩ := dt_of I.hok e
  have lx : xs.length ≤ sizeLine := (Paired.length rel) ▸ z
  exact wpAny_dictSet_heap (knd := tupleKind (mixKind X.prog X.w)) (hsz := lx) (show A.units < cLine by omega) (key_of I.hok eb) dd fun h' dd' sb => h _ (dt_stored I e eb fit no rel rd dd' sb)
end
/-- d.setdefault(k, z), d a dict with tuple keys -/
def tSetdT (td tk tz : TE) : TE := fun σ H Q => td σ H fun x H1 => ∃ a, x = .ref a ∧ IsD H1 a ∧ tk σ H1 fun y H2 => tz σ H2 fun z H3 => ∃ (kvs : List (List Key × V)) (k : List Key) (b : Addr), H3 a = some (.dT kvs) ∧ y = .ref b ∧ H3 b = some (.tup (k.map kV)) ∧ kvs.length < sizeLine ∧
  (∀ v, valV kvs k = some v → Q v H3) ∧ (valV kvs k = none → Q z (upd H3 a (.dT (putK kvs k z))))
section
variable {X : Cx} {o e f : Expr} {td tk tz : TE} {apos cpos : Pos}
theorem pe_setdT (hu : X.A.units + 1 < cLine) (ho : PE X o td) (he : PE X e tk) (hf : PE X f tz) (m : M2 X o "setdefault" apos e f cpos) : PE X (.Call (.Attribute o "setdefault" apos) [e, f] [] cpos) (tSetdT td tk tz) := by
  refine ⟨fun pins s σ H Q I h => ?_⟩
  refine wpAny_Call_method m.base m.few m.line PySem.F.plainAttrs_dict PySem.F.slot_dict_setdefault PySem.F.type_dict_setdefault (thn (ho.run pins s σ H _ I h) fun u s1 ⟨x, H1, I1, rx, a, ex, dd, q1⟩ => ?_)
  subst ex
  cases (show u = Value.ref a from rx)
  have tt := isD_at I1 dd
  refine ⟨tt.1, tt.2.1, ?_⟩
  rw [m.trees]
  refine Calls.callWith_builtin rfl (Calls.evalArgs_plain (Calls.spliced_cons (thn (he.run pins s1 σ H1 _ I1 q1) fun kv s2 ⟨y, H2, I2, ry, q2⟩ =>
    Calls.spliced_cons (thn (hf.run pins s2 σ H2 _ I2 q2) fun fv s3 ⟨z, H3, I3, rz, kvs, k, b, ea, ey, eb, fit, q3, q4⟩ => Calls.spliced_nil ?_))))
  subst ey
  cases (show kv = Value.ref b from ry)
  exact dt_setd hu I3 ea eb rz fit (fun v hv w' s4 I4 r4 => ⟨v, _, I4, r4, q3 v hv⟩) fun hn s4 I4 => ⟨z, _, I4, rz, q4 hn⟩
/-- {k: v for target in iter if ..}, keys tuples -/
def tDt (wi : TI) (g : TG) (tt : TT) (tk tv : TE) (vs : List Nat) : TE := fun σ H Q => wi σ H fun J H1 => ∀ D, H1 D = none → ∃ W : Nat → Nat → Hp → Prop, (∃ m, W 0 m (upd H1 D (.dT []))) ∧ ∀ i m H, W i m H →
  (J.stop i H ∧ Q (.ref D) H) ∨ (J.go i H ∧ ∃ Nx : Hp → Prop, (∀ H', Nx H' → ∃ m', m' < m ∧ W (i + 1) m' H') ∧ ∀ x H', J.yld i H x H' → g x (wipe σ vs) H' fun σ2 H2 => wipe σ2 vs = wipe σ vs ∧ tt σ2 H2 fun b H3 =>
    if b = true then tk σ2 H3 fun y H4 => tv σ2 H4 fun z H5 => ∃ (kvs : List (List Key × V)) (k : List Key) (p : Addr), y = .ref p ∧ H5 p = some (.tup (k.map kV)) ∧ H5 D = some (.dT kvs) ∧ kvs.length < sizeLine ∧ Nx (upd H5 D (.dT (putK kvs k z))) else Nx H3)
theorem dt_run {pins : List (Addr × Obj)} {s : Shared} {σ : L2.St} {H : Hp} {Q : VK} {kx vx tg iter : Expr} {ifs : List Expr} {scope : Scope} {own : List (PySem.Str × Nat)} {pos at_ : Pos} {wi : TI} {g : TG} {tt : TT} {tk tv : TE} {use : Option (Value → Sem Unit)} {Qf : Value → Shared → Prop}
    (hu : X.A.units + 64 < cLine) (hc : X.calm = true) (hN : X.N.Nodup) (I : Inv X pins σ H s) (hi : PI X tg iter wi) (ok : BlkOk X.N X.env.scope scope own)
    (hg : ∀ s H C cl fp, PG (X.blk s H scope (compEnvC scope cl C X.env) fp) tg g) (ht : ∀ s H C cl fp, PTs (X.blk s H scope (compEnvC scope cl C X.env) fp) ifs tt)
    (hk : ∀ s H C cl fp, PE (X.blk s H scope (compEnvC scope cl C X.env) fp) kx tk) (he : ∀ s H C cl fp, PE (X.blk s H scope (compEnvC scope cl C X.env) fp) vx tv) (hs : ∀ x, foldedSetIterable iter X.env x = pure x)
    (h : tDt wi g tt tk tv (own.map (·.2)) σ H Q)
    (hR : ∀ D C s' m H', Inv X pins σ H' s' → Q (.ref D) H' → s'.heap.Ns C m → FpOk X pins H' C → compPost (model X.prog X.w) X.A X.xe use Qf (.ref D) C (.ok .next) s') :
    wpAny (model X.prog X.w) X.A (comprehension (.DictComp kx vx [⟨tg, iter, ifs, 0⟩] scope pos) scope X.env at_ newDict false (eval iter X.env) use) Qf X.xe s := by
  have frees : ∀ y ∈ scope.names, y.2 = .free → ∃ c, X.env.cells.lookup y.1 = some c := fun y m e => (ok.free y m e).elim (fun k => I.ok.has _ (.inl k)) fun k => I.ok.has _ (.inr k)
  refine wpAny_comprehension_free (use := use) rfl hs (closure_ok frees) ok.kind (fun y m e => by rw [ok.uniq y m, e])
    (thn (hi.run pins s σ H _ I h) fun xv s1 hx => thn hx fun itv s2 h2 => ?_)
  obtain ⟨it, fp, tn, J, H2, rfl, I2, T, st2, f2, q⟩ := h2
  refine wpAny_newObj_type (newEnv_comp ?_)
  generalize eD : s2.heap.objs.size = D
  obtain ⟨W, ⟨m0, w0⟩, turn⟩ := q D (I2.hok.fresh (Nat.le_of_eq eD))
  generalize e3 : ({ s2 with heap := s2.heap.push { cls := .type "dict", data := .dict #[] } } : Shared) = s3
  have p3 : s3.heap = s2.heap.push { cls := .type "dict", data := .dict #[] } := by rw [← e3]
  have I3 : Inv X pins σ (upd H2 D (.dT [])) s3 := by
    rw [← e3]
    refine I2.laid (t' := s2.toks) (fun b o e => Heap.get?_push_of_some _ e) (Nat.le_of_eq eD) ?_
    rw [← eD]
    exact dt_empty s2.heap I2.big
  have inOld : ∀ b ∈ fp, b < s2.heap.objs.size := fun b m => by
    obtain ⟨o, e, _⟩ := T.obj _ _ st2 b m
    exact Heap.lt_size e
  have f3 : ∀ b ∈ fp, FpOk X pins (upd H2 D (.dT [])) b ∧ b < s3.heap.objs.size := fun b m => by
    have lt := inOld b m
    refine ⟨⟨?_, (f2 b m).2⟩, by rw [p3, Heap.size_push]; exact Nat.lt_succ_of_lt lt⟩
    rw [upd_ne (Nat.ne_of_lt (eD ▸ lt))]
    exact (f2 b m).1
  have st3 : tn 0 s3.heap := T.keep _ _ _ st2 fun b _ o e => by rw [p3]; exact Heap.get?_push_of_some _ e
  have I4 := block_start I3 ok hN f3
  have pg := hg s3 (upd H2 D (.dT [])) s3.heap.objs.size (cellsFrom (s3.heap.objs.size + 1) scope.names (cloFrom X.env.cells scope.names [])) fp
  have pt := ht s3 (upd H2 D (.dT [])) s3.heap.objs.size (cellsFrom (s3.heap.objs.size + 1) scope.names (cloFrom X.env.cells scope.names [])) fp
  have pk := hk s3 (upd H2 D (.dT [])) s3.heap.objs.size (cellsFrom (s3.heap.objs.size + 1) scope.names (cloFrom X.env.cells scope.names [])) fp
  have pe := he s3 (upd H2 D (.dT [])) s3.heap.objs.size (cellsFrom (s3.heap.objs.size + 1) scope.names (cloFrom X.env.cells scope.names [])) fp
  show codeAny _ _ (.compStart (.DictComp kx vx [⟨tg, iter, ifs, 0⟩] scope pos) 0 (.ref it) (.ref D) (compEnvC scope (cellsFrom (s3.heap.objs.size + 1) scope.names (cloFrom X.env.cells scope.names [])) s3.heap.objs.size X.env)) (compPost (model X.prog X.w) X.A X.xe use Qf (.ref D) s3.heap.objs.size) { s3 with heap := pushCells (s3.heap.push { cls := .type "dict", data := .dict #[] }) scope.names }
  have none3 : ∀ b ∈ fp, (upd H2 D (.dT [])) b = none := fun b m => (f3 b m).1.1
  generalize ece : compEnvC scope (cellsFrom (s3.heap.objs.size + 1) scope.names (cloFrom X.env.cells scope.names [])) s3.heap.objs.size X.env = ce at I4 pg pt pk pe ⊢
  have cl : ce.locals = s3.heap.objs.size := by rw [← ece]; rfl
  generalize upd H2 D (.dT []) = H3 at I3 I4 pg pt pk pe w0 none3 f3
  generalize e4 : ({ s3 with heap := pushCells (s3.heap.push { cls := .type "dict", data := .dict #[] }) scope.names } : Shared) = s4 at I4 ⊢
  have st4 : tn 0 s4.heap := T.keep _ _ _ st3 fun b _ o e => by rw [← e4]; exact pushCells_keeps _ _ _ _ (Heap.get?_push_of_some _ e)
  have calmFp : ∀ {σ' : L2.St} {H' : Hp} {s' : Shared}, Inv (X.blk s3 H3 scope ce fp) [] σ' H' s' → (∀ b ∈ fp, H' b = none) → ∀ b ∈ fp, FpOk (X.blk s3 H3 scope ce fp) [] H' b := fun {σ' H' s'} I' n b m =>
    ⟨n b m, (I'.ok.exf b m).1, I'.ok.exfs b m, .inl m, fun x c e => (I'.ok.exf b m).2 x c e, fun p hp => absurd (show p ∈ ([] : List (Addr × Obj)) ++ [] from hp) (by simp)⟩
  have loop : codeAny (model X.prog X.w) X.A (.compLoop (.DictComp kx vx [⟨tg, iter, ifs, 0⟩] scope pos) 0 (.ref it) (.ref D) ce) (compPost (model X.prog X.w) X.A X.xe use Qf (.ref D) s3.heap.objs.size) s4 := by
    refine compLoop_anyD (fun n s' => ∃ i H', Inv (X.blk s3 H3 scope ce fp) [] (wipe σ (own.map (·.2))) H' s' ∧ tn i s'.heap ∧ (∀ b ∈ fp, H' b = none) ∧ W i n H') ?_ m0 ⟨0, H3, I4, st4, none3, w0⟩
    rintro n s5 ⟨i, H5, I5, st5, n5, w5⟩
    rcases turn i n H5 w5 with ⟨stop, fin⟩ | ⟨go, Nx, next, step⟩
    · refine thnF (T.done (X.blk s3 H3 scope ce fp) rfl rfl rfl hc i [] s5 _ H5 (fun _ _ => False) I5 (calmFp I5 n5) st5 stop) fun r s6 ⟨hr, I6⟩ => ?_
      subst hr
      have I7 : Inv X pins σ H5 s6 := I3.call' (ch := fp) I6.os I6.base I6.hok I6.bare fun b m => ⟨(f3 b m).1.2.2.2.1, (f3 b m).1.2.1, (f3 b m).1.2.2.2.2.1, (f3 b m).1.2.2.2.2.2⟩
      have nC : H5 s3.heap.objs.size = none := cl ▸ (show H5 ce.locals = none from I6.free)
      obtain ⟨m, hn, _⟩ := I6.loc
      exact hR D s3.heap.objs.size s6 m H5 I7 fin (cl ▸ (show s6.heap.Ns ce.locals m from hn)) (I3.fpOk (Nat.le_refl _) nC)
    · refine thnF (T.item (X.blk s3 H3 scope ce fp) rfl rfl rfl hc i [] s5 _ H5 (fun _ _ => False) I5 (calmFp I5 n5) st5 go) fun r s6 ⟨u, hr, h6⟩ => ?_
      subst hr
      refine thnF h6 fun _ s7 ⟨x, H7, I7, r7, y7, st7, n7⟩ => ?_
      have pinned := I7.pinned (calmFp I7 n7) (T.obj _ _ st7)
      refine thnF (pg.run _ s7 _ H7 x u _ pinned r7 (step x H7 y7)) fun _ s8 ⟨σ8, H8, I8, w8, q8⟩ => ?_
      refine thnF (pt.run _ s8 σ8 H8 _ I8 q8) fun b s9 ⟨H9, I9, q9⟩ => ?_
      have turnEnd : ∀ {s' : Shared} {H' : Hp}, Inv (X.blk s3 H3 scope ce fp) ([] ++ pinsAt fp s7.heap) σ8 H' s' → Nx H' → ∃ m, m < n ∧ ∃ i H', Inv (X.blk s3 H3 scope ce fp) [] (wipe σ (own.map (·.2))) H' s' ∧ tn i s'.heap ∧ (∀ b ∈ fp, H' b = none) ∧ W i m H' := fun {s' H'} I' nx => by
        obtain ⟨m', lt, w'⟩ := next H' nx
        have pin : ∀ b ∈ fp, ∀ o, s7.heap.get? b = some o → s'.heap.get? b = some o ∧ H' b = none := fun b m o e => by
          have z := I'.pin (b, o) (List.mem_append_right _ (List.mem_append_right _ (mem_pinsAt m e)))
          exact ⟨z.1, z.2.1⟩
        refine ⟨m', lt, i + 1, H', (I'.unpinned (pins := [])).weak (by rw [← w8, wipe_length]) (fun j v e => ?_), T.keep _ _ _ st7 fun b m o e => (pin b m o e).1, fun b m => ?_, w'⟩
        · rw [← w8] at e
          exact (wipe_some e).1
        · obtain ⟨o, e, _⟩ := T.obj _ _ st7 b m
          exact (pin b m o e).2
      cases b with
      | false =>
        simp only [Bool.false_eq_true, if_false] at q9 ⊢
        exact turnEnd I9 q9
      | true =>
        simp only [if_true] at q9 ⊢
        refine thnF (pk.run _ s9 σ8 H9 _ I9 q9) fun z s10 ⟨yk, H10, I10, r10, q10⟩ => ?_
        refine thnF (pe.run _ s10 σ8 H10 _ I10 q10) fun z2 s11 ⟨yv, H11, I11, r11, kvs, k, p, ek, ep, hD11, fit, nx⟩ => ?_
        subst ek
        cases (show z = Value.ref p from r10)
        exact dt_dictSet (X := X.blk s3 H3 scope ce fp) (show X.A.units + 1 < cLine by omega) I11 hD11 ep r11 fit fun s12 I12 => turnEnd I12 nx
  exact codeAny_compStart_dict loop (T.self X.A 0 _ _ _ st4 loop)
theorem pe_dt {kx vx tg iter : Expr} {ifs : List Expr} {scope : Scope} {own : List (PySem.Str × Nat)} {pos : Pos} {wi : TI} {g : TG} {tt : TT} {tk tv : TE} (hu : X.A.units + 64 < cLine) (hc : X.calm = true) (hN : X.N.Nodup) (hi : PI X tg iter wi) (ok : BlkOk X.N X.env.scope scope own)
    (hg : ∀ s H C cl fp, PG (X.blk s H scope (compEnvC scope cl C X.env) fp) tg g) (ht : ∀ s H C cl fp, PTs (X.blk s H scope (compEnvC scope cl C X.env) fp) ifs tt)
    (hk : ∀ s H C cl fp, PE (X.blk s H scope (compEnvC scope cl C X.env) fp) kx tk) (he : ∀ s H C cl fp, PE (X.blk s H scope (compEnvC scope cl C X.env) fp) vx tv) (hs : ∀ x, foldedSetIterable iter X.env x = pure x := by intro _; rfl) :
    PE X (.DictComp kx vx [⟨tg, iter, ifs, 0⟩] scope pos) (tDt wi g tt tk tv (own.map (·.2))) := by
  refine ⟨fun pins s σ H Q I h => ?_⟩
  rw [arm_eval_DictComp]
  refine dt_run hu hc hN I hi ok hg ht hk he hs h fun D C s' m H' I' q hn f => ⟨m, hn, fun h'' sb => ?_⟩
  obtain ⟨f0, f1, f2, f3, f4, f5⟩ := f
  exact ⟨.ref D, H', I'.turned (t' := s'.toks) (fun b o hb e => (sb.2 b hb).trans e) f0 f1 f3 f4 f5, rfl, q⟩
end
end Sx

set_option linter.all false
set_option maxRecDepth 100000
set_option maxHeartbeats 2000000
/-! the one rising list of some things; sorted of texts, any number of them -/
namespace Sx
open PySem PySem.Spec PyProof.Rows L2
section
variable {α : Type}
def ins (lt : α → α → Bool) (x : α) : List α → List α
  | [] => [x]
  | y :: l => if lt y x = true then y :: ins lt x l else x :: y :: l
def srt (lt : α → α → Bool) : List α → List α
  | [] => []
  | x :: l => ins lt x (srt lt l)
theorem ins_perm (lt : α → α → Bool) (x : α) : ∀ l, (ins lt x l).Perm (x :: l)
  | [] => List.Perm.refl _
  | y :: l => by
    rw [ins]
    by_cases c : lt y x = true
    · rw [if_pos c]
      exact ((ins_perm lt x l).cons y).trans (List.Perm.swap x y l)
    · rw [if_neg c]
theorem srt_perm (lt : α → α → Bool) : ∀ l, (srt lt l).Perm l
  | [] => List.Perm.refl _
  | x :: l => (ins_perm lt x (srt lt l)).trans ((srt_perm lt l).cons x)
abbrev Up (lt : α → α → Bool) (l : List α) : Prop := l.Pairwise fun x y => lt y x = false
variable {lt : α → α → Bool}
theorem Lin.ins_up (O : Lin lt) (x : α) : ∀ {l}, Up lt l → Up lt (ins lt x l)
  | [], _ => List.pairwise_singleton _ _
  | y :: l, h => by
    obtain ⟨h1, h2⟩ := List.pairwise_cons.mp h
    rw [ins]
    by_cases c : lt y x = true
    · rw [if_pos c]
      refine List.pairwise_cons.mpr ⟨fun z m => ?_, O.ins_up x h2⟩
      rcases List.mem_cons.mp ((ins_perm lt x l).mem_iff.mp m) with e | m
      · rw [e]; exact O.asym c
      · exact h1 z m
    · rw [if_neg c]
      have c' : lt y x = false := Bool.eq_false_iff.mpr c
      refine List.pairwise_cons.mpr ⟨fun z m => ?_, h⟩
      rcases List.mem_cons.mp m with e | m
      · rw [e]; exact c'
      · exact O.le_tr c' (h1 z m)
theorem Lin.srt_up (O : Lin lt) : ∀ l, Up lt (srt lt l)
  | [] => List.Pairwise.nil
  | x :: l => O.ins_up x (O.srt_up l)
theorem Lin.is_srt (O : Lin lt) {l m : List α} (h : Up lt l) (p : l.Perm m) : l = srt lt m := O.uniq h (O.srt_up m) (p.trans (srt_perm lt m).symm)
variable [DecidableEq α]
/-- each once, as it is first met -/
def once : List α → List α
  | l => l.foldl (fun acc x => if x ∈ acc then acc else acc ++ [x]) []
def onceGo (acc l : List α) : List α := l.foldl (fun acc x => if x ∈ acc then acc else acc ++ [x]) acc
theorem onceGo_spec : ∀ (l acc : List α), acc.Nodup → (onceGo acc l).Nodup ∧ ∀ x, x ∈ onceGo acc l ↔ x ∈ acc ∨ x ∈ l
  | [], acc, h => ⟨h, fun x => by simp [onceGo]⟩
  | y :: l, acc, h => by
    by_cases c : y ∈ acc
    · have e : onceGo acc (y :: l) = onceGo acc l := by unfold onceGo; rw [List.foldl_cons, if_pos c]
      obtain ⟨a, b⟩ := onceGo_spec l acc h
      rw [e]
      refine ⟨a, fun x => (b x).trans ?_⟩
      rw [List.mem_cons]
      constructor
      · rintro (z | z)
        · exact .inl z
        · exact .inr (.inr z)
      · rintro (z | z | z)
        · exact .inl z
        · rw [z]; exact .inl c
        · exact .inr z
    · have e : onceGo acc (y :: l) = onceGo (acc ++ [y]) l := by unfold onceGo; rw [List.foldl_cons, if_neg c]
      have nd : (acc ++ [y]).Nodup := (List.perm_append_singleton y acc).nodup_iff.mpr (List.nodup_cons.mpr ⟨c, h⟩)
      obtain ⟨a, b⟩ := onceGo_spec l (acc ++ [y]) nd
      rw [e]
      refine ⟨a, fun x => (b x).trans ?_⟩
      rw [List.mem_append, List.mem_singleton, List.mem_cons, or_assoc]
theorem once_nodup (l : List α) : (once l).Nodup := (onceGo_spec l [] List.nodup_nil).1
theorem once_mem (l : List α) (x : α) : x ∈ once l ↔ x ∈ l := ((onceGo_spec l [] List.nodup_nil).2 x).trans (by simp)
theorem once_snoc (l : List α) (x : α) : once (l ++ [x]) = if x ∈ once l then once l else once l ++ [x] := by
  unfold once
  rw [List.foldl_append] <;> rfl
/-- the rising list of what is in l -/
def asc (lt : α → α → Bool) (l : List α) : List α := srt lt (once l)
theorem perm_once {l m : List α} (h : l.Nodup) (e : ∀ x, x ∈ l ↔ x ∈ m) : l.Perm (once m) := (List.perm_ext_iff_of_nodup h (once_nodup m)).mpr fun x => (e x).trans (once_mem m x).symm
theorem Lin.is_asc (O : Lin lt) {l m : List α} (h : l.Nodup) (u : Up lt l) (e : ∀ x, x ∈ l ↔ x ∈ m) : l = asc lt m := O.is_srt u (perm_once h e)
theorem asc_mem (lt : α → α → Bool) (l : List α) (x : α) : x ∈ asc lt l ↔ x ∈ l := ((srt_perm lt (once l)).mem_iff).trans (once_mem l x)
theorem asc_nodup (lt : α → α → Bool) (l : List α) : (asc lt l).Nodup := (srt_perm lt (once l)).nodup_iff.mpr (once_nodup l)
theorem Lin.asc_up (O : Lin lt) (l : List α) : Up lt (asc lt l) := O.srt_up _
theorem once_len (l : List α) : (once l).length ≤ l.length := by
  have z := nd_len (once l) l (once_nodup l) fun x m => (once_mem l x).mp m
  exact z
theorem asc_len (lt : α → α → Bool) (l : List α) : (asc lt l).length ≤ l.length := by
  unfold asc
  rw [(srt_perm lt (once l)).length_eq]
  exact once_len l
end

/-! ### sorted of texts -/
def sv : Value → PySem.Str
  | .str x _ => x
  | _ => ⟨#[]⟩
section
variable {P : Program} {w : World} {A : Around} {E : Value → Shared → Prop} {s : Shared}
theorem strs_of_vals : ∀ {xs : List PySem.Str} {us : List Value}, Vals (xs.map V.str) us → us.map sv = xs ∧ ∀ u ∈ us, ∃ x t, u = Value.str x t
  | [], _, .nil => ⟨rfl, fun u m => absurd m List.not_mem_nil⟩
  | x :: xs, _, .cons r t => by
    obtain ⟨tk, rfl⟩ := r
    obtain ⟨a, b⟩ := strs_of_vals t
    refine ⟨by rw [List.map_cons, a] <;> rfl, fun u m => ?_⟩
    rcases List.mem_cons.mp m with rfl | m
    · exact ⟨x, tk, rfl⟩
    · exact b u m
theorem vals_of_strs : ∀ {us : List Value}, (∀ u ∈ us, ∃ x t, u = Value.str x t) → Vals ((us.map sv).map V.str) us
  | [], _ => .nil
  | u :: us, h => by
    obtain ⟨x, t, rfl⟩ := h u List.mem_cons_self
    exact .cons ⟨t, rfl⟩ (vals_of_strs fun v m => h v (List.mem_cons_of_mem _ m))
theorem strs_are : ∀ {vs : List Value}, (∀ u ∈ vs, ∃ x t, u = Value.str x t) → StrsAre vs (vs.map sv)
  | [], _ => .nil
  | v :: vs, h => by
    obtain ⟨x, t, rfl⟩ := h v List.mem_cons_self
    exact .cons x t (strs_are fun u m => h u (List.mem_cons_of_mem _ m))
theorem text_sortable {a : Addr} {vs : List Value} (h : ∀ u ∈ vs, ∃ x t, u = Value.str x t) (h2 : 2 ≤ vs.length) : SrtO.SortableO P w A s a vs fun v u => ltText (sv v) (sv u) := by
  intro h' _
  refine ⟨oneType', fun Q E hq => ?_, ?_⟩
  · match vs, h, h2 with
    | v1 :: v2 :: rest, h, _ =>
      rw [keyKind_strs (strs_are h)]
      exact wpAny_pure hq
    | [], _, h2 => exact absurd h2 (by decide)
    | [v], _, h2 => exact absurd h2 (by simp)
  · intro p q hp hq
    obtain ⟨x, t, e⟩ := h _ hp
    obtain ⟨y, u, e'⟩ := h _ hq
    show wpAny (model P w) A (keyLt' oneType' p.1 q.1) (fun r s' => s' = _ ∧ r = ltText (sv p.1) (sv q.1)) (fun _ _ => False) _
    rw [e, e', keyLt'_oneType]
    exact oneLt_str ⟨rfl, rfl⟩
end
section
variable {X : Cx}
/-- sorted(xs), texts, any number of them -/
def rSortS (K : PySem.W.Frag) : List V → Hp → VK → Prop := fun vs H Q => ∃ (a : Addr) (xs : List PySem.Str), vs = [V.ref a] ∧ SqL K H a (xs.map V.str) ∧
  ∀ p : Addr, H p = none → Q (.ref p) (upd H p (.lst ((srt ltText xs).map V.str)))
theorem cr_sortS : CallR X (.builtin "sorted") (rSortS X.K) := by
  intro pins s σ H vs us Q I r h
  obtain ⟨a, xs, rfl, hs, q⟩ := h
  obtain ⟨its, rv, hl, hz⟩ := I.list hs
  rw [Vals.ref1 r]
  obtain ⟨e1, e2⟩ := strs_of_vals rv
  refine SrtO.sorted_ord (ltv := fun v u => ltText (sv v) (sv u)) (lin_text.swo sv) hl.isList (by rw [← rv.length]; exact hz) (fun h2 h₁ a' _ _ => text_sortable e2 h2) fun out h1 h2 => ?_
  have all : ∀ u ∈ out, ∃ x t, u = Value.str x t := fun u m => e2 u (h2.perm.mem_iff.mp m)
  have pm : (out.map sv).Perm xs := by
    have z := h2.perm.map sv
    rw [e1] at z
    exact z
  have up : Up ltText (out.map sv) := List.pairwise_map.mpr h1
  have ex : out.map sv = srt ltText xs := lin_text.is_srt up pm
  obtain ⟨ep, he'⟩ := PyProof.Rows.sortedAll_at s.heap its out.toArray
  have rel := vals_of_strs all
  rw [ex] at rel
  have hlen : ((srt ltText xs).map V.str).length ≤ sizeLine := by
    rw [List.length_map, (srt_perm ltText xs).length_eq]
    rw [List.length_map] at hz
    exact hz
  exact ⟨.ref _, upd H (s.heap.objs.size + 1) (.lst ((srt ltText xs).map V.str)), I.laid (t' := s.toks) (fun _ _ => PyProof.Rows.sortedAll_old) (Nat.le_succ _) ⟨hlen, out, ep, rel, he'⟩, rfl, q _ (I.hok.fresh (Nat.le_succ _))⟩
end
end Sx

set_option linter.all false
set_option maxRecDepth 100000
set_option maxHeartbeats 2000000
/-! name = {k: v for ..}, the name a local -/
namespace Sx
open PySem PySem.Spec PyProof.Rows L2
section
variable {X : Cx}
theorem ps_setDc {i : Nat} {y : PySem.Str} {py : Pos} {kx vx tg iter : Expr} {ifs : List Expr} {scope : Scope} {own : List (PySem.Str × Nat)} {pos spos : Pos} {wi : TI} {g : TG} {tt : TT} {tk tv : TE} (hc : X.calm = true) (hN : X.N.Nodup) (hy : X.N[i]? = some y) (local_ : X.env.scope.names.lookup y = some .local)
    (sw : swapsWith (.DictComp kx vx [⟨tg, iter, ifs, 0⟩] scope pos) (some (.Name y py)) spos.line X.env = pure true) (hi : PI X tg iter wi) (ok : BlkOk X.N X.env.scope scope own)
    (hg : ∀ s H C cl fp, PG (X.blk s H scope (compEnvC scope cl C X.env) fp) tg g) (ht : ∀ s H C cl fp, PTs (X.blk s H scope (compEnvC scope cl C X.env) fp) ifs tt)
    (hk : ∀ s H C cl fp, PE (X.blk s H scope (compEnvC scope cl C X.env) fp) kx tk) (he : ∀ s H C cl fp, PE (X.blk s H scope (compEnvC scope cl C X.env) fp) vx tv) (hs : ∀ x, foldedSetIterable iter X.env x = pure x := by intro _; rfl) :
    PS X (.Assign [.Name y py] (.DictComp kx vx [⟨tg, iter, ifs, 0⟩] scope pos) spos) (tAsg (tDc wi g tt tk tv (own.map (·.2))) (gName i)) := by
  refine ⟨fun pins s σ H D I h => ?_⟩
  rw [exec_Assign_Name_used _ _ _ _ sw]
  refine wpAny_bind (wpAny_standAt (wpAny_bind ?_))
  show wpAny _ X.A (do let _ ← comprehension (.DictComp kx vx [⟨tg, iter, ifs, 0⟩] scope pos) scope X.env (firstIterPos [⟨tg, iter, ifs, 0⟩] pos) newDict false (eval iter X.env) (some (assign (.Name y py) X.env))) _ _ s
  have h : tDc wi g tt tk tv (own.map (·.2)) σ H (fun x H1 => gName i x σ H1 D.nx) := h
  refine wpAny_bind (thn (dc_core (Qf := fun _ s' => SP X pins D .next s') hc hN I hi ok hg ht hk he hs h fun L C s' m H' I' q hn f => ?_) fun _ s' hq => wpAny_pure (wpAny_pure hq))
  show wpAny _ _ (assign (.Name y py) X.env (.ref L)) _ _ _
  refine wpAny_assign_Name (store_ok2 (v := V.ref L) I' hN hy (.inl local_) rfl (fun s2 I2 ⟨a, sb, ha⟩ => ?_) (.inr local_))
  obtain ⟨f0, f1, f2, f3, f4, f5⟩ := f
  have apart : C ≠ a := ha.elim (fun z => by rw [z]; exact f1) fun z e => f4 y a z e.symm
  exact ⟨m, hn.sameBut sb apart, fun h3 sb3 => ⟨_, H', I2.turned (t' := s2.toks) (fun b o hb e => (sb3.2 b hb).trans e) f0 f1 f3 f4 f5, q⟩⟩
theorem ps_setDt {i : Nat} {y : PySem.Str} {py : Pos} {kx vx tg iter : Expr} {ifs : List Expr} {scope : Scope} {own : List (PySem.Str × Nat)} {pos spos : Pos} {wi : TI} {g : TG} {tt : TT} {tk tv : TE} (hu : X.A.units + 64 < cLine) (hc : X.calm = true) (hN : X.N.Nodup) (hy : X.N[i]? = some y) (local_ : X.env.scope.names.lookup y = some .local)
    (sw : swapsWith (.DictComp kx vx [⟨tg, iter, ifs, 0⟩] scope pos) (some (.Name y py)) spos.line X.env = pure true) (hi : PI X tg iter wi) (ok : BlkOk X.N X.env.scope scope own)
    (hg : ∀ s H C cl fp, PG (X.blk s H scope (compEnvC scope cl C X.env) fp) tg g) (ht : ∀ s H C cl fp, PTs (X.blk s H scope (compEnvC scope cl C X.env) fp) ifs tt)
    (hk : ∀ s H C cl fp, PE (X.blk s H scope (compEnvC scope cl C X.env) fp) kx tk) (he : ∀ s H C cl fp, PE (X.blk s H scope (compEnvC scope cl C X.env) fp) vx tv) (hs : ∀ x, foldedSetIterable iter X.env x = pure x := by intro _; rfl) :
    PS X (.Assign [.Name y py] (.DictComp kx vx [⟨tg, iter, ifs, 0⟩] scope pos) spos) (tAsg (tDt wi g tt tk tv (own.map (·.2))) (gName i)) := by
  refine ⟨fun pins s σ H D I h => ?_⟩
  rw [exec_Assign_Name_used _ _ _ _ sw]
  refine wpAny_bind (wpAny_standAt (wpAny_bind ?_))
  show wpAny _ X.A (do let _ ← comprehension (.DictComp kx vx [⟨tg, iter, ifs, 0⟩] scope pos) scope X.env (firstIterPos [⟨tg, iter, ifs, 0⟩] pos) newDict false (eval iter X.env) (some (assign (.Name y py) X.env))) _ _ s
  have h : tDt wi g tt tk tv (own.map (·.2)) σ H (fun x H1 => gName i x σ H1 D.nx) := h
  refine wpAny_bind (thn (dt_run (Qf := fun _ s' => SP X pins D .next s') hu hc hN I hi ok hg ht hk he hs h fun L C s' m H' I' q hn f => ?_) fun _ s' hq => wpAny_pure (wpAny_pure hq))
  show wpAny _ _ (assign (.Name y py) X.env (.ref L)) _ _ _
  refine wpAny_assign_Name (store_ok2 (v := V.ref L) I' hN hy (.inl local_) rfl (fun s2 I2 ⟨a, sb, ha⟩ => ?_) (.inr local_))
  obtain ⟨f0, f1, f2, f3, f4, f5⟩ := f
  have apart : C ≠ a := ha.elim (fun z => by rw [z]; exact f1) fun z e => f4 y a z e.symm
  exact ⟨m, hn.sameBut sb apart, fun h3 sb3 => ⟨_, H', I2.turned (t' := s2.toks) (fun b o hb e => (sb3.2 b hb).trans e) f0 f1 f3 f4 f5, q⟩⟩
theorem sw_dict {kx vx : Expr} {gs : List Comprehension} {scope : Scope} {pos py : Pos} {y : PySem.Str} {l : Nat} {env : Env} (hk : env.scope.kind = .function) (hy : env.scope.names.lookup y = some .local) (hl : (py.line == pos.line) = true)
    (no : (scope.names.any fun (n, k) => n == y && (k == .local || k == .cell)) = false) : swapsWith (.DictComp kx vx gs scope pos) (some (.Name y py)) l env = pure true := by
  have ky : env.kindOf y = some .local := hy
  have kb : env.blockKind = .function := by unfold Env.blockKind; rw [hk] <;> rfl
  unfold swapsWith
  simp only [kb, ky, no, Expr.pos, hl]
  rfl
end
end Sx

set_option Elab.async false
set_option maxRecDepth 100000
set_option maxHeartbeats 4000000
namespace Mk
open PySem L2 Pk
abbrev sSymbols : Stmt := top 40
abbrev sActs : Stmt := top 41
abbrev sGuess : Stmt := top 42
/-- the rules as they are kept: tuples -/
abbrev Kept := List (Addr × Rl)
def refsK (R : Kept) : List V := R.map fun p => .ref p.1
def KeptAt (H : Hp) (R : Kept) : Prop := ∀ p ∈ R, H p.1 = some (.tup p.2.vs)
theorem KeptAt.mono {H H' : Hp} {R : Kept} (h : KeptAt H R) (e : Same H H') : KeptAt H' R := fun p m => e _ _ (h p m)
/-- k is put to the others, once -/
def addK {κ : Type} [DecidableEq κ] (l : List κ) (k : κ) : List κ := if k ∈ l then l else l ++ [k]
theorem put_keys {κ : Type} [DecidableEq κ] (kvs : List (κ × V)) (k : κ) (v : V) : (putK kvs k v).map (·.1) = addK (kvs.map (·.1)) k := by
  unfold putK addK
  by_cases c : (kvs.any fun kv => decide (kv.1 = k)) = true
  · have m : k ∈ kvs.map (·.1) := by
      obtain ⟨p, hp, e⟩ := List.any_eq_true.mp c
      exact List.mem_map.mpr ⟨p, hp, of_decide_eq_true e⟩
    rw [if_pos c, if_pos m, List.map_map]
    refine List.map_congr_left fun p _ => ?_
    show (if p.1 = k then (p.1, v) else p).1 = p.1
    split <;> rfl
  · have m : k ∉ kvs.map (·.1) := fun h => by
      obtain ⟨p, hp, e⟩ := List.mem_map.mp h
      exact c (List.any_eq_true.mpr ⟨p, hp, decide_eq_true e⟩)
    rw [if_neg c, if_neg m, List.map_append] <;> rfl
theorem once_add {κ : Type} [DecidableEq κ] (l : List κ) (x : κ) : Sx.once (l ++ [x]) = addK (Sx.once l) x := Sx.once_snoc l x
theorem add_map {α β : Type} [DecidableEq α] [DecidableEq β] {f : α → β} (inj : ∀ x y, f x = f y → x = y) (l : List α) (x : α) : addK (l.map f) (f x) = (addK l x).map f := by
  unfold addK
  by_cases c : x ∈ l
  · rw [if_pos c, if_pos (List.mem_map.mpr ⟨x, c, rfl⟩)]
  · have m : f x ∉ l.map f := fun h => by
      obtain ⟨y, m, e⟩ := List.mem_map.mp h
      exact c (inj y x e ▸ m)
    rw [if_neg c, if_neg m, List.map_append] <;> rfl
abbrev kT (x : PySem.Str) : Key := Sum.inr x
theorem kT_inj (x y : PySem.Str) (e : kT x = kT y) : x = y := Sum.inr.inj e
/-- the symbols of rules, rising -/
def symsOf (rs : List Rl) : List PySem.Str := Sx.srt Sx.ltText ((Sx.once (rs.map Rl.tp ++ rs.map Rl.sy)).filter fun x => decide (x ≠ nil0))
section
variable {P : Program} {w : World} {K : PySem.W.Frag} {mg : PySem.Str → Option Value} {base : Heap}
def spSymbols (K : PySem.W.Frag) : Sp := fun vs H Q _ => ∃ (a : Addr) (R : Kept), vs = [.ref a] ∧ SqT K H a (refsK R) ∧ KeptAt H R ∧ R.length ≤ 20000 ∧
  ∀ (H' : Hp) (p : Addr), Same H H' → H p = none → H' p = some (.tup ((symsOf (R.map (·.2))).map V.str)) → Q (.ref p) H'
abbrev nSymbols : List PySem.Str := ["rules", "rule", "found", "symbol"]
theorem scSymbols : FnScope nSymbols ["rules"] (defScope sSymbols) := ⟨rfl, rfl, rfl, by decide +kernel, rfl, by decide +kernel, by decide +kernel⟩
theorem ok_symbols {f : Addr} {fd : FuncData} (F : Fun K "symbols_of" "symbols_of" sSymbols f fd) (T : TM mg) : FnOk P w K mg base CX0 1 f fd ["rules"] (spSymbols K) := by
  refine F.ok scSymbols (fun vs H Q E h => ?_) (fun cdv A outer s H vs Q E hr h => ?_)
  · obtain ⟨a, R, rfl, _⟩ := h
    rfl
  · obtain ⟨a, R, rfl, hS, hK, most, k⟩ := h
    have hu := hu_of hr
    refine ⟨_, pss_cons (Sx.ps_setDc (i := 2) (own := [("rule", 1)]) (g := gName 1) (tt := tYes) (by rfl) scSymbols.nd rfl rfl (Sx.sw_dict rfl rfl rfl (by decide +kernel)) (pi_tup (pv 0))
        (blkOk_by (own := [("rule", 1)]) (N := nSymbols) (sc := defScope sSymbols) (by decide +kernel))
        (fun _ _ _ _ _ => pg_name (i := 1) scSymbols.nd rfl (Or.inl rfl)) (fun _ _ _ _ _ => pts_nil) (fun _ _ _ _ _ => pe_ix (r := rIxT K) ix_tup (pv 1) pe_int fun _ _ => rfl) (fun _ _ _ _ _ => pe_bl))
      (pss_cons (ps_for PassesOwn.never rfl (pi_tup (pv 0)) (pg_name (i := 1) scSymbols.nd rfl (Or.inl rfl))
        (pss_one (ps_dput hu (pv 2) (pe_ix ix_tup (pv 1) pe_int fun _ _ => rfl) pe_bl rfl)))
      (pss_one (ps_ret (pe_callTy call_tuple_of (by rfl) T.tuple PyProof.Rows.Boot.tuple (pa_cons (pe_callB Sx.cr_sortS (by rfl) T.sorted (by decide +kernel) (pa_cons (pe_lock (pe_lc (own := [("symbol", 3)]) (g := gName 3) (by rfl) scSymbols.nd (pi_keys (pv 2))
        (blkOk_by (own := [("symbol", 3)]) (N := nSymbols) (sc := defScope sSymbols) (by decide +kernel))
        (fun _ _ _ _ _ => pg_name (i := 3) scSymbols.nd rfl (Or.inl rfl)) (fun _ _ _ _ _ => pts_one (pt_cmpR op_ne (pv 3) pe_str (nomark _))) (fun _ _ _ _ _ => pv 3))) pa_nil)) pa_nil))))), ?_⟩
    have lR : (refsK R).length = R.length := List.length_map ..
    have at_ : ∀ {i : Nat} {v : V}, (refsK R)[i]? = some v → ∃ p, R[i]? = some p ∧ v = .ref p.1 := fun {i v} e => by
      unfold refsK at e
      rw [List.getElem?_map] at e
      obtain ⟨p, e1, e2⟩ := Option.map_eq_some_iff.mp e
      exact ⟨p, e1, e2.symm⟩
    have few : ∀ {n : Nat}, n ≤ 40000 → n < sizeLine := fun h => Nat.lt_of_le_of_lt h (by decide)
    refine ⟨_, rfl, a, rfl, ⟨_, hS⟩, fun D hD => dc_tup (fun i H' => Same H H' ∧ ∃ kvs : List (Key × V), H' D = some (.dK kvs) ∧ kvs.map (·.1) = (Sx.once ((R.take i).map fun p => p.2.tp)).map kT)
      ⟨same_new hD, [], upd_same, rfl⟩ (fun i H' _ h => Same.tup h.1 hS) ?_ ?_⟩
    · rintro i x H1 hi ⟨s1, kvs, hD1, hk⟩
      obtain ⟨p, ep, rfl⟩ := at_ hi
      have m := List.mem_of_getElem? ep
      refine ⟨rfl, ?_⟩
      refine ⟨_, rfl, p.1, p.2.vs, 2, .str p.2.tp, rfl, rfl, .inl (.inl (s1 _ _ (hK p m))), rfl, kvs, kT p.2.tp, rfl, hD1, ?_, same_mut s1 hD, _, upd_same, ?_⟩
      · refine few ?_
        have z := congrArg List.length hk
        rw [List.length_map, List.length_map] at z
        have y := Sx.once_len ((R.take i).map fun p => p.2.tp)
        rw [List.length_map, List.length_take] at y
        omega
      · rw [put_keys, hk, add_map kT_inj, ← once_add, take_at ep, List.map_append] <;> rfl
    · rintro H1 ⟨s1, kvs, hD1, hk⟩
      rw [lR, List.take_of_length_le (Nat.le_refl _)] at hk
      refine ⟨_, rfl, a, rfl, ⟨_, Same.tup s1 hS⟩, for_tup (K := K) (a := a) (xs := refsK R) (fun i σ H' => Same H H' ∧ ∃ (v : Option V) (kvs : List (Key × V)), σ = [some (.ref a), v, some (.ref D), none] ∧ H' D = some (.dK kvs) ∧ kvs.map (·.1) = (Sx.once (R.map (fun p => p.2.tp) ++ (R.take i).map fun p => p.2.sy)).map kT)
        ⟨s1, none, kvs, rfl, hD1, by rw [hk]; simp⟩ (fun i σ H' _ h => Same.tup h.1 hS) ?_ ?_⟩
      · rintro i x σ H2 hi ⟨s2, v, kv2, rfl, hD2, hk2⟩
        obtain ⟨p, ep, rfl⟩ := at_ hi
        have m := List.mem_of_getElem? ep
        refine ⟨_, rfl, _, rfl, p.1, p.2.vs, 6, .str p.2.sy, rfl, rfl, .inl (.inl (s2 _ _ (hK p m))), rfl, D, _, rfl, DPut.k (k := kT p.2.sy) hD2 ?_, same_mut s2 hD, _, _, rfl, upd_same, ?_⟩
        · refine few ?_
          have z := congrArg List.length hk2
          rw [List.length_map, List.length_map] at z
          have y := Sx.once_len (R.map (fun p => p.2.tp) ++ (R.take i).map fun p => p.2.sy)
          rw [List.length_append, List.length_map, List.length_map, List.length_take] at y
          omega
        · rw [put_keys, hk2, add_map kT_inj, ← once_add, take_at ep, List.map_append, List.append_assoc] <;> rfl
      · rintro σ H2 ⟨s2, v, kv2, rfl, hD2, hk2⟩
        rw [lR, List.take_of_length_le (Nat.le_refl _)] at hk2
        generalize hks : Sx.once (R.map (fun p => p.2.tp) ++ R.map fun p => p.2.sy) = ks at hk2
        have lk : kv2.length = ks.length := by
          have z := congrArg List.length hk2
          rwa [List.length_map, List.length_map] at z
        have lks : ks.length ≤ 40000 := by
          have y := Sx.once_len (R.map (fun p => p.2.tp) ++ R.map fun p => p.2.sy)
          rw [hks, List.length_append, List.length_map, List.length_map] at y
          omega
        have key : ∀ {i : Nat} {c : Key} {u : V}, kv2[i]? = some (c, u) → ∃ x, ks[i]? = some x ∧ c = kT x := fun {i c u} e => by
          have z := congrArg (fun l => l[i]?) hk2
          simp only [List.getElem?_map, e] at z
          rcases q : ks[i]? with _ | x
          · rw [q] at z; cases z
          · rw [q] at z; exact ⟨x, rfl, Option.some.inj z⟩
        refine ⟨D, _, hD2, trivial, fun od => ?_⟩
        refine ⟨_, rfl, D, od, rfl, .inl ⟨kv2, upd_same, fun L hL => ?_⟩⟩
        have LD : L ≠ D := fun e => by rw [e, upd_same] at hL; cases hL
        have hL2 : H2 L = none := by rw [upd_ne LD] at hL; exact hL
        have hL0 : H L = none := s2.free hL2
        refine lc_it walk_keys (fun i H' => H' = upd (upd H2 D (.frz od (.dK kv2))) L (.lst (((ks.take i).filter fun x => decide (x ≠ nil0)).map V.str))) rfl ?_ ?_ ?_
        · rintro i H' _ rfl
          rw [upd_ne LD.symm, upd_same]
        · rintro i y H3 H4 hi rfl ⟨rfl, c, u, e, rfl⟩
          obtain ⟨x, ex, rfl⟩ := key e
          refine ⟨rfl, ?_⟩
          refine ⟨_, rfl, rfl, _, rfl, ?_⟩
          rw [take_at ex, List.filter_append, List.map_append]
          rw [show decide (kV (kT x) = V.str (PySem.Str.ofString "")) = decide (x = nil0) from dec_str x nil0]
          by_cases n : x = nil0
          · rw [decide_eq_true n, List.filter_cons_of_neg (by simp [n])]
            refine iteF ?_
            simp
          · rw [decide_eq_false n, List.filter_cons_of_pos (by simp [n])]
            refine iteT ?_
            refine ⟨_, rfl, _, upd_same, ?_, ?_⟩
            · rw [List.length_map]
              refine few (Nat.le_trans (List.length_filter_le _ _) ?_)
              rw [List.length_take]
              omega
            · rw [upd_upd] <;> rfl
        · rintro H3 rfl
          rw [lk, List.take_of_length_le (Nat.le_refl _)]
          refine ⟨by rw [upd_ne LD.symm, upd_same], ?_⟩
          refine ⟨L, _, rfl, SqL.of (by rw [upd_ne LD, upd_same]), fun p hp => ?_⟩
          refine ⟨p, _, rfl, .inl ⟨SqL.of upd_same, fun q hq => ?_⟩⟩
          have s3 : Same H (upd (upd (upd H2 D (.frz od (.dK kv2))) L (.lst ((ks.filter fun x => decide (x ≠ nil0)).map V.str))) D (.dK kv2)) := same_mut (same_mut (same_mut s2 hD) hL0) hD
          refine k _ q ((s3.trans (same_new hp)).trans (same_new hq)) ((s3.trans (same_new hp)).free hq) ?_
          rw [upd_same]
          unfold symsOf
          rw [List.map_map, List.map_map, ← hks] <;> rfl
end
end Mk

set_option Elab.async false
set_option maxRecDepth 100000
set_option maxHeartbeats 4000000
namespace Mk
open PySem L2 Pk
/-- a key with its acts -/
abbrev Grp := List Key × List (List Key)
def TupAt (H : Hp) (a : Addr) (k : List Key) : Prop := H a = some (.tup (k.map kV))
/-- one entry of the table under work: a list of acts -/
def Ent (H : Hp) (p : List Key × V) (q : Grp) : Prop := p.1 = q.1 ∧ ∃ (la : Addr) (as : List Addr), p.2 = .ref la ∧ H la = some (.lst (as.map V.ref)) ∧ Paired (TupAt H) as q.2
def gAdd {κ α : Type} [DecidableEq κ] (G : List (κ × List α)) (k : κ) (a : α) : List (κ × List α) := if k ∈ G.map (·.1) then G.map (fun g => if g.1 = k then (g.1, g.2 ++ [a]) else g) else G ++ [(k, [a])]
theorem gAdd_keys {κ α : Type} [DecidableEq κ] (G : List (κ × List α)) (k : κ) (a : α) : (gAdd G k a).map (·.1) = addK (G.map (·.1)) k := by
  unfold gAdd addK
  by_cases c : k ∈ G.map (·.1)
  · rw [if_pos c, if_pos c, List.map_map]
    refine List.map_congr_left fun g _ => ?_
    show (if g.1 = k then (g.1, g.2 ++ [a]) else g).1 = g.1
    split <;> rfl
  · rw [if_neg c, if_neg c, List.map_append] <;> rfl
theorem ent_keys {H : Hp} : ∀ {kvs : List (List Key × V)} {G : List Grp}, Paired (Ent H) kvs G → kvs.map (·.1) = G.map (·.1)
  | _, _, .nil => rfl
  | _, _, .cons h t => by rw [List.map_cons, List.map_cons, h.1, ent_keys t]
/-- an entry stays where its list is another one -/
theorem Ent.other {H H' : Hp} {l : Addr} {p : List Key × V} {q : Grp} (e : Ent H p q) (ne : p.2 ≠ .ref l) (keep : ∀ b o, b ≠ l → H b = some o → H' b = some o) (isl : ∀ xs, H l ≠ some (.tup xs)) : Ent H' p q := by
  obtain ⟨e1, la, as, e2, e3, e4⟩ := e
  refine ⟨e1, la, as, e2, keep la _ (fun z => ne (by rw [e2, z])) e3, Paired.mapP e4 fun a k t => ?_⟩
  exact keep a _ (fun z => isl (k.map kV) (by rw [← z]; exact t)) t
theorem ent_all_other {H H' : Hp} {l : Addr} : ∀ {kvs : List (List Key × V)} {G : List Grp}, Paired (Ent H) kvs G → (V.ref l) ∉ kvs.map (·.2) → (∀ b o, b ≠ l → H b = some o → H' b = some o) → (∀ xs, H l ≠ some (.tup xs)) → Paired (Ent H') kvs G
  | _, _, .nil, _, _, _ => .nil
  | p :: _, _, .cons h t, no, keep, isl => .cons (h.other (fun e => no (by rw [List.map_cons, e]; exact List.mem_cons_self)) keep isl) (ent_all_other t (fun m => no (List.mem_cons_of_mem _ m)) keep isl)
/-- one act more in the list that stands -/
theorem ent_more {H H' : Hp} {l q5 : Addr} {k act : List Key} : ∀ {kvs : List (List Key × V)} {G : List Grp}, Paired (Ent H) kvs G → (kvs.map (·.1)).Nodup → (kvs.map (·.2)).Nodup → valV kvs k = some (.ref l) →
    (∀ b o, b ≠ l → H b = some o → H' b = some o) → (∀ xs, H l ≠ some (.tup xs)) → (∀ as : List Addr, H l = some (.lst (as.map V.ref)) → H' l = some (.lst ((as ++ [q5]).map V.ref))) → TupAt H' q5 act →
    Paired (Ent H') kvs (G.map fun g => if g.1 = k then (g.1, g.2 ++ [act]) else g)
  | _, _, .nil, _, _, v, _, _, _, _ => by cases v
  | p :: ps, _, .cons (b := q) (l₂ := qs) h t, n1, n2, v, keep, isl, app, ta => by
    obtain ⟨a1, a2⟩ := List.nodup_cons.mp n1
    obtain ⟨b1, b2⟩ := List.nodup_cons.mp n2
    rw [List.map_cons]
    by_cases c : p.1 = k
    · rw [valV_pos c] at v
      have v2 := Option.some.inj v
      have c2 : q.1 = k := h.1.symm.trans c
      rw [if_pos c2]
      have rest : (qs.map fun g : Grp => if g.1 = k then (g.1, g.2 ++ [act]) else g) = qs := by
        have no : k ∉ qs.map (·.1) := by rw [← ent_keys t, ← c]; exact a1
        conv => rhs; rw [← List.map_id qs]
        refine List.map_congr_left fun g m => ?_
        rw [if_neg fun e => no (List.mem_map.mpr ⟨g, m, e⟩)] <;> rfl
      rw [rest]
      refine .cons ?_ (ent_all_other t (by rw [← v2]; exact b1) keep isl)
      obtain ⟨e1, la, as, e2, e3, e4⟩ := h
      have el : la = l := by
        rw [e2] at v2
        exact V.ref.inj v2
      subst el
      refine ⟨e1, la, as ++ [q5], e2, app as e3, Paired.snoc (Paired.mapP e4 fun a k t => ?_) ta⟩
      exact keep a _ (fun z => isl (k.map kV) (by rw [← z]; exact t)) t
    · rw [valV_neg c] at v
      have c2 : ¬ q.1 = k := fun e => c (h.1.trans e)
      rw [if_neg c2]
      have mem : V.ref l ∈ ps.map (·.2) := by
        unfold valV at v
        obtain ⟨x, hx, ex⟩ := Option.map_eq_some_iff.mp v
        exact List.mem_map.mpr ⟨x, List.mem_of_find?_eq_some hx, ex⟩
      exact .cons (h.other (fun e => b1 (show p.2 ∈ _ by rw [e]; exact mem)) keep isl) (ent_more t a2 b2 v keep isl app ta)
def Rl.k3 (r : Rl) : List Key := [.inl r.st, .inr r.sg, .inr r.tp]
def Rl.a5 (r : Rl) : List Key := [.inl r.af, .inl r.mv, .inr r.de, .inr r.sy, .inr r.sa]
def grps (rs : List Rl) : List Grp := rs.foldl (fun G r => gAdd G r.k3 r.a5) []
theorem grps_snoc (rs : List Rl) (r : Rl) : grps (rs ++ [r]) = gAdd (grps rs) r.k3 r.a5 := by
  unfold grps
  rw [List.foldl_append] <;> rfl
theorem grps_keys (rs : List Rl) : (grps rs).map (·.1) = Sx.once (rs.map Rl.k3) := by
  have gen : ∀ (l pre : List Rl), (grps pre).map (·.1) = Sx.once (pre.map Rl.k3) → (grps (pre ++ l)).map (·.1) = Sx.once ((pre ++ l).map Rl.k3) := by
    intro l
    induction l with
    | nil => intro pre h; simpa using h
    | cons r l ih =>
      intro pre h
      have e : pre ++ r :: l = (pre ++ [r]) ++ l := by simp
      rw [e]
      refine ih (pre ++ [r]) ?_
      rw [grps_snoc, gAdd_keys, h, List.map_append]
      exact (once_add (pre.map Rl.k3) r.k3).symm
  simpa using gen rs [] rfl
/-- the acts' table as it is kept -/
def EntT (H : Hp) (p : List Key × V) (q : Grp) : Prop := p.1 = q.1 ∧ ∃ (t : Addr) (as : List Addr), p.2 = .ref t ∧ H t = some (.tup (as.map V.ref)) ∧ Paired (TupAt H) as q.2
def ActsAt (H : Hp) (p : Addr) (G : List Grp) : Prop := ∃ kvs, H p = some (.dT kvs) ∧ Paired (EntT H) kvs G
theorem EntT.mono {H H' : Hp} {p : List Key × V} {q : Grp} (s : ∀ b xs, H b = some (.tup xs) → H' b = some (.tup xs)) (e : EntT H p q) : EntT H' p q := by
  obtain ⟨e1, t, as, e2, e3, e4⟩ := e
  exact ⟨e1, t, as, e2, s _ _ e3, Paired.mapP e4 fun a k t => s _ _ t⟩
theorem entT_keys {H : Hp} : ∀ {kvs : List (List Key × V)} {G : List Grp}, Paired (EntT H) kvs G → kvs.map (·.1) = G.map (·.1)
  | _, _, .nil => rfl
  | _, _, .cons h t => by rw [List.map_cons, List.map_cons, h.1, entT_keys t]
theorem ActsAt.mono {H H' : Hp} {p : Addr} {G : List Grp} (h : ActsAt H p G) (e : Same H H') : ActsAt H' p G := by
  obtain ⟨kvs, h1, h2⟩ := h
  exact ⟨kvs, e _ _ h1, Paired.mapP h2 fun a b z => z.mono fun c xs y => e _ _ y⟩
end Mk

set_option linter.all false
set_option maxRecDepth 100000
set_option maxHeartbeats 2000000
/-! the comprehensions over a walk -/
namespace Sx
open PySem PySem.Spec PyProof.Rows L2
section
variable {J : It} {n : Nat} {G : Hp → Prop} {Y : Nat → Hp → V → Hp → Prop}
theorem dt_it (wk : Walk J n G Y) {g : TG} {tt : TT} {tk tv : TE} {vs : List Nat} {σ : L2.St} {H1 : Hp} {D : Addr} {Qd : Hp → Prop} (Pv : Nat → Hp → Prop) (h0 : Pv 0 (upd H1 D (.dT []))) (hG : ∀ i H, i ≤ n → Pv i H → G H)
    (hs : ∀ i x H H', i < n → Pv i H → Y i H x H' → g x (wipe σ vs) H' fun σ2 H2 => wipe σ2 vs = wipe σ vs ∧ tt σ2 H2 fun b H3 =>
      if b = true then tk σ2 H3 fun y H4 => tv σ2 H4 fun z H5 => ∃ (kvs : List (List Key × V)) (k : List Key) (p : Addr), y = .ref p ∧ H5 p = some (.tup (k.map kV)) ∧ H5 D = some (.dT kvs) ∧ kvs.length < sizeLine ∧ Pv (i + 1) (upd H5 D (.dT (putK kvs k z))) else Pv (i + 1) H3)
    (hd : ∀ H, Pv n H → Qd H) :
    ∃ W : Nat → Nat → Hp → Prop, (∃ m, W 0 m (upd H1 D (.dT []))) ∧ ∀ i m H, W i m H →
      (J.stop i H ∧ Qd H) ∨ (J.go i H ∧ ∃ Nx : Hp → Prop, (∀ H', Nx H' → ∃ m', m' < m ∧ W (i + 1) m' H') ∧ ∀ x H', J.yld i H x H' → g x (wipe σ vs) H' fun σ2 H2 => wipe σ2 vs = wipe σ vs ∧ tt σ2 H2 fun b H3 =>
        if b = true then tk σ2 H3 fun y H4 => tv σ2 H4 fun z H5 => ∃ (kvs : List (List Key × V)) (k : List Key) (p : Addr), y = .ref p ∧ H5 p = some (.tup (k.map kV)) ∧ H5 D = some (.dT kvs) ∧ kvs.length < sizeLine ∧ Nx (upd H5 D (.dT (putK kvs k z))) else Nx H3) := by
  refine ⟨fun i m H => m = n - i ∧ i ≤ n ∧ Pv i H, ⟨n, rfl, Nat.zero_le _, h0⟩, ?_⟩
  rintro i m H ⟨rfl, le, pv⟩
  have gH := hG i H le pv
  rcases Nat.lt_or_ge i n with lt | ge
  · exact .inr ⟨wk.goes i H lt gH, Pv (i + 1), fun H' q => ⟨n - (i + 1), by omega, rfl, lt, q⟩, fun x H' y => hs i x H H' lt pv (wk.yields i H x H' lt gH y)⟩
  · have e : i = n := by omega
    subst e
    exact .inl ⟨wk.stops H gH, hd H pv⟩
theorem sm_it {P : Program} {w : World} (wk : Walk J n G Y) {g : TG} {tt : TT} {te : TE} {vs : List Nat} {σ : L2.St} {H1 : Hp} {D : Addr} {Qd : Hp → Prop} (Pv : Nat → Hp → Prop) (h0 : Pv 0 (upd H1 D (MSetO P w D []))) (hG : ∀ i H, i ≤ n → Pv i H → G H)
    (hs : ∀ i x H H', i < n → Pv i H → Y i H x H' → g x (wipe σ vs) H' fun σ2 H2 => wipe σ2 vs = wipe σ vs ∧ tt σ2 H2 fun b H3 =>
      if b = true then te σ2 H3 fun y H4 => ∃ (x : Addr) (k : List Key) (L : Rows), y = .ref x ∧ H4 x = some (.tup (k.map kV)) ∧ H4 D = some (MSetO P w D L) ∧ TupsIn H4 L ∧ L.length + 1 ≤ 1500 ∧
        ∀ L2, (k ∈ L.map (·.2) → L2 = L) → (k ∉ L.map (·.2) → L2.Perm ((x, k) :: L)) → Pv (i + 1) (upd H4 D (MSetO P w D L2)) else Pv (i + 1) H3)
    (hd : ∀ H, Pv n H → Qd H) :
    ∃ W : Nat → Nat → Hp → Prop, (∃ m, W 0 m (upd H1 D (MSetO P w D []))) ∧ ∀ i m H, W i m H →
      (J.stop i H ∧ Qd H) ∨ (J.go i H ∧ ∃ Nx : Hp → Prop, (∀ H', Nx H' → ∃ m', m' < m ∧ W (i + 1) m' H') ∧ ∀ x H', J.yld i H x H' → g x (wipe σ vs) H' fun σ2 H2 => wipe σ2 vs = wipe σ vs ∧ tt σ2 H2 fun b H3 =>
        if b = true then te σ2 H3 fun y H4 => ∃ (x : Addr) (k : List Key) (L : Rows), y = .ref x ∧ H4 x = some (.tup (k.map kV)) ∧ H4 D = some (MSetO P w D L) ∧ TupsIn H4 L ∧ L.length + 1 ≤ 1500 ∧
          ∀ L2, (k ∈ L.map (·.2) → L2 = L) → (k ∉ L.map (·.2) → L2.Perm ((x, k) :: L)) → Nx (upd H4 D (MSetO P w D L2)) else Nx H3) := by
  refine ⟨fun i m H => m = n - i ∧ i ≤ n ∧ Pv i H, ⟨n, rfl, Nat.zero_le _, h0⟩, ?_⟩
  rintro i m H ⟨rfl, le, pv⟩
  have gH := hG i H le pv
  rcases Nat.lt_or_ge i n with lt | ge
  · exact .inr ⟨wk.goes i H lt gH, Pv (i + 1), fun H' q => ⟨n - (i + 1), by omega, rfl, lt, q⟩, fun x H' y => hs i x H H' lt pv (wk.yields i H x H' lt gH y)⟩
  · have e : i = n := by omega
    subst e
    exact .inl ⟨wk.stops H gH, hd H pv⟩
end
theorem paired_left {α β : Type} {F : α → β → Prop} : ∀ {l : List α} {m : List β}, Paired F l m → ∀ a ∈ l, ∃ b ∈ m, F a b
  | _, _, .nil, a, h => absurd h List.not_mem_nil
  | _, _, .cons r t, a, h => by
    rcases List.mem_cons.mp h with rfl | h
    · exact ⟨_, List.mem_cons_self, r⟩
    · obtain ⟨b, m, q⟩ := paired_left t a h
      exact ⟨b, List.mem_cons_of_mem _ m, q⟩
theorem paired_at {α β : Type} {F : α → β → Prop} : ∀ {l : List α} {m : List β} {i : Nat} {a : α}, Paired F l m → l[i]? = some a → ∃ b, m[i]? = some b ∧ F a b
  | _, _, _, _, .nil, e => by simp at e
  | _, _, 0, _, .cons r t, e => by simp at e; subst e; exact ⟨_, rfl, r⟩
  | _, _, i + 1, a, .cons r t, e => by
    obtain ⟨b, e1, e2⟩ := paired_at (i := i) (a := a) t (by simpa using e)
    exact ⟨b, by simpa using e1, e2⟩
theorem val_mem {κ : Type} [DecidableEq κ] {k : κ} {v : V} : ∀ {kvs : List (κ × V)}, (kvs.map (·.1)).Nodup → (k, v) ∈ kvs → valV kvs k = some v
  | [], _, m => absurd m List.not_mem_nil
  | p :: ps, nd, m => by
    obtain ⟨a, b⟩ := List.nodup_cons.mp nd
    rcases List.mem_cons.mp m with e | m
    · rw [← e]; exact valV_pos rfl
    · rw [valV_neg fun e => a (show p.1 ∈ _ by rw [e]; exact List.mem_map.mpr ⟨_, m, rfl⟩)]
      exact val_mem b m
end Sx

set_option Elab.async false
set_option maxRecDepth 100000
set_option maxHeartbeats 4000000
namespace Mk
open PySem L2 Pk
theorem Ent.keepL {H H' : Hp} {p : List Key × V} {q : Grp} (e : Ent H p q) (k1 : ∀ b xs, H b = some (.lst xs) → H' b = some (.lst xs)) (k2 : ∀ b xs, H b = some (.tup xs) → H' b = some (.tup xs)) : Ent H' p q := by
  obtain ⟨e1, la, as, e2, e3, e4⟩ := e
  exact ⟨e1, la, as, e2, k1 _ _ e3, Paired.mapP e4 fun a k t => k2 _ _ t⟩
theorem ent_get {H : Hp} {k : List Key} {v : V} : ∀ {kvs : List (List Key × V)} {G : List Grp}, Paired (Ent H) kvs G → valV kvs k = some v → ∃ (la : Addr) (as : List Addr) (g : Grp), v = .ref la ∧ H la = some (.lst (as.map V.ref)) ∧ (k, v) ∈ kvs ∧ g ∈ G ∧ as.length = g.2.length
  | _, _, .nil, e => by cases e
  | p :: ps, _, .cons h t, e => by
    by_cases c : p.1 = k
    · rw [valV_pos c] at e
      obtain ⟨_, la, as, e2, e3, e4⟩ := h
      have e' := Option.some.inj e
      exact ⟨la, as, _, by rw [← e', e2], e3, by rw [← e', ← c]; exact List.mem_cons_self, List.mem_cons_self, Paired.length e4⟩
    · rw [valV_neg c] at e
      obtain ⟨la, as, g, e2, e3, e4, e5, e6⟩ := ent_get t e
      exact ⟨la, as, g, e2, e3, List.mem_cons_of_mem _ e4, List.mem_cons_of_mem _ e5, e6⟩
theorem gAdd_len {G : List Grp} {k a : List Key} {n : Nat} (h : ∀ g ∈ G, g.2.length ≤ n) : ∀ g ∈ gAdd G k a, g.2.length ≤ n + 1 := by
  intro g m
  unfold gAdd at m
  split at m
  · obtain ⟨g0, m0, rfl⟩ := List.mem_map.mp m
    have z := h g0 m0
    split
    · rw [List.length_append]
      exact Nat.add_le_add_right z 1
    · omega
  · rcases List.mem_append.mp m with m | m
    · have z := h g m
      omega
    · rw [List.mem_singleton.mp m]
      exact Nat.le_add_left 1 n
theorem grps_len (rs : List Rl) : ∀ g ∈ grps rs, g.2.length ≤ rs.length := by
  have gen : ∀ (l pre : List Rl), (∀ g ∈ grps pre, g.2.length ≤ pre.length) → ∀ g ∈ grps (pre ++ l), g.2.length ≤ (pre ++ l).length := by
    intro l
    induction l with
    | nil => intro pre h; simpa using h
    | cons r l ih =>
      intro pre h
      have e : pre ++ r :: l = (pre ++ [r]) ++ l := by simp
      rw [e]
      refine ih (pre ++ [r]) ?_
      rw [grps_snoc, List.length_append]
      exact gAdd_len h
  exact gen rs [] fun g m => absurd m List.not_mem_nil
theorem put_none {κ : Type} [DecidableEq κ] {kvs : List (κ × V)} {k : κ} {v : V} (h : valV kvs k = none) : putK kvs k v = kvs ++ [(k, v)] := by
  unfold putK
  rw [if_neg]
  intro c
  rw [valV_any, h] at c
  cases c
def rTupOf (K : PySem.W.Frag) : List V → Hp → VK → Prop := fun xs H Q => ∃ p ys, xs = [V.ref p] ∧ ((SqL K H p ys ∧ ∀ l : Addr, H l = none → Q (V.ref l) (upd H l (HO.tup ys))) ∨ SqT K H p ys ∧ Q (V.ref p) H)
section
variable {P : Program} {w : World} {K : PySem.W.Frag} {mg : PySem.Str → Option Value} {base : Heap}
def spActs (K : PySem.W.Frag) : Sp := fun vs H Q _ => ∃ (a : Addr) (R : Kept), vs = [.ref a] ∧ SqT K H a (refsK R) ∧ KeptAt H R ∧ R.length ≤ 20000 ∧
  ∀ (H' : Hp) (p : Addr), Same H H' → H p = none → ActsAt H' p (grps (R.map (·.2))) → Q (.ref p) H'
abbrev nActs : List PySem.Str := ["rules", "found", "rule", "key"]
theorem scActs : FnScope nActs ["rules"] (defScope sActs) := ⟨rfl, rfl, rfl, by decide +kernel, rfl, by decide +kernel, by decide +kernel⟩
theorem at_refs {R : Kept} {i : Nat} {v : V} (e : (refsK R)[i]? = some v) : ∃ p, R[i]? = some p ∧ v = .ref p.1 := by
  unfold refsK at e
  rw [List.getElem?_map] at e
  obtain ⟨p, e1, e2⟩ := Option.map_eq_some_iff.mp e
  exact ⟨p, e1, e2.symm⟩
theorem ok_acts {f : Addr} {fd : FuncData} (F : Fun K "acts_by_key" "acts_by_key" sActs f fd) (T : TM mg) : FnOk P w K mg base CX0 1 f fd ["rules"] (spActs K) := by
  refine F.ok scActs (fun vs H Q E h => ?_) (fun cdv A outer s H vs Q E hr h => ?_)
  · obtain ⟨a, R, rfl, _⟩ := h
    rfl
  · obtain ⟨a, R, rfl, hS, hK, most, k⟩ := h
    have hu := hu_of hr
    have hu64 := hr.units
    refine ⟨_, pss_cons (ps_set (i := 1) scActs.nd rfl (Or.inr rfl) pe_dnewT)
      (pss_cons (ps_for PassesOwn.never rfl (pi_tup (pv 0)) (pg_name (i := 2) scActs.nd rfl (Or.inl rfl))
        (pss_one (ps_expr (pe_bm PySem.F.plainAttrs_list PySem.F.slot_list_append PySem.F.type_list_append mt_append (Sx.pe_setdT hu (pv 1) (pe_slice sl_tup (pv 2) po_none (po_some pe_int)) (pe_lst pa_nil) ⟨rfl, rfl, rfl, rfl⟩)
          (pa_cons (pe_slice sl_tup (pv 2) (po_some pe_int) po_none) pa_nil)))))
      (pss_one (ps_ret (pe_lock (Sx.pe_dt (own := [("key", 3)]) (g := gName 3) (tt := tYes) hu64 (by rfl) scActs.nd (pi_keys (pv 1))
        (blkOk_by (own := [("key", 3)]) (N := nActs) (sc := defScope sActs) (by decide +kernel))
        (fun _ _ _ _ _ => pg_name (i := 3) scActs.nd rfl (Or.inl rfl)) (fun _ _ _ _ _ => pts_nil) (fun _ _ _ _ _ => pv 3)
        (fun _ _ _ _ _ => pe_callTy (r := rTupOf K) call_tuple_of (by rfl) T.tuple PyProof.Rows.Boot.tuple (pa_cons (pe_dget hu (pv 1) (pv 3) fun _ _ => rfl) pa_nil))))))), ?_⟩
    intro D hD
    refine ⟨_, rfl, a, rfl, ⟨_, Same.tup (same_new hD) hS⟩, for_tup (K := K) (a := a) (xs := refsK R) (fun i σ H' => Same H H' ∧ ∃ (v : Option V) (kvs : List (List Key × V)), σ = [some (.ref a), some (.ref D), v, none] ∧ H' D = some (.dT kvs) ∧
        Paired (Ent H') kvs (grps ((R.take i).map (·.2))) ∧ (kvs.map (·.2)).Nodup ∧ ∀ p ∈ kvs, ∃ la, p.2 = .ref la ∧ H la = none)
      ⟨same_new hD, none, [], rfl, upd_same, .nil, List.nodup_nil, fun p m => absurd m List.not_mem_nil⟩ (fun i σ H' _ h => Same.tup h.1 hS) ?_ ?_⟩
    · rintro i x σ H2 hi ⟨s2, v, kvs, rfl, hD2, hE, nd2, news⟩
      obtain ⟨p, ep, rfl⟩ := at_refs hi
      have m := List.mem_of_getElem? ep
      refine ⟨_, rfl, D, rfl, .inr ⟨kvs, .inl hD2⟩, _, rfl, 3, rfl, p.1, p.2.vs, rfl, .inl (.inl (s2 _ _ (hK p m))), (show ¬ (HT.sIx 8 0 none = 0 ∧ HT.sIx 8 8 (some 3) = 8) by decide), fun q3 h3 => ?_⟩
      have cut3 : cutV p.2.vs none (some 3) = p.2.k3.map kV := rfl
      have cut5 : cutV p.2.vs (some 3) none = p.2.a5.map kV := rfl
      have c5 : ¬ (HT.sIx 8 0 (some 3) = 0 ∧ HT.sIx 8 8 none = 8) := by decide
      rw [cut3] at *
      have sA : Same H2 (upd H2 q3 (.tup (p.2.k3.map kV))) := same_new h3
      refine ⟨Nat.zero_le _, fun l0 h0 => ?_⟩
      have sB : Same H2 (upd (upd H2 q3 (.tup (p.2.k3.map kV))) l0 (.lst [])) := sA.trans (same_new h0)
      have n0 : H2 l0 = none := sA.free h0
      have lG : kvs.length ≤ 20000 := by
        have z := congrArg List.length (ent_keys hE)
        rw [grps_keys, List.length_map] at z
        have y := Sx.once_len (((R.take i).map (·.2)).map Rl.k3)
        rw [List.length_map, List.length_map, List.length_take] at y
        omega
      have few : ∀ {n : Nat}, n ≤ 40000 → n < sizeLine := fun h => Nat.lt_of_le_of_lt h (by decide)
      have next : grps ((R.take (i + 1)).map (·.2)) = gAdd (grps ((R.take i).map (·.2))) p.2.k3 p.2.a5 := by
        rw [take_at ep, List.map_append]
        exact grps_snoc _ _
      refine ⟨kvs, p.2.k3, q3, sB _ _ hD2, rfl, same_new h0 _ _ upd_same, few (by omega), fun v1 hv => ?_, fun hn => ?_⟩
      · obtain ⟨la, as, g, rfl, hla, mem, gm, gl⟩ := ent_get hE hv
        obtain ⟨la', e', nla⟩ := news _ mem
        cases e'
        have inG : p.2.k3 ∈ (grps ((R.take i).map (·.2))).map (·.1) := by
          rw [← ent_keys hE]
          exact valV_in hv
        refine ⟨.inl ⟨rfl, _, .inl (.inl (sB _ _ hla))⟩, _, rfl, 3, rfl, p.1, p.2.vs, rfl, .inl (.inl (sB _ _ (s2 _ _ (hK p m)))), c5, fun q5 h5 => ?_⟩
        have sC := sB.trans (same_new (o := .tup (cutV p.2.vs (some 3) none)) h5)
        have h5l : q5 ≠ la := fun e => by
          rw [e] at h5
          rw [sB _ _ hla] at h5
          cases h5
        have lA : as.length < sizeLine := by
          have z := grps_len _ g gm
          rw [List.length_map, List.length_take] at z
          exact few (by omega)
        refine ⟨la, _, _, rfl, rfl, sC _ _ hla, by rw [List.length_map]; exact lA, ?_⟩
        refine ⟨same_mut (s2.trans sC) nla, some (.ref p.1), kvs, rfl, ?_, ?_, nd2, news⟩
        · rw [upd_ne (ne_of hD2 hla (fun z => nomatch z))]
          exact sC _ _ hD2
        · rw [next]
          unfold gAdd
          rw [if_pos inG]
          refine ent_more (l := la) (q5 := q5) hE (by rw [ent_keys hE, grps_keys]; exact Sx.once_nodup _) nd2 hv (fun b o nb e => by rw [upd_ne nb]; exact sC _ _ e) (fun xs z => by rw [hla] at z; cases z) (fun bs z => ?_) ?_
          · rw [hla] at z
            injection z with z
            injection z with z
            rw [upd_same, z, List.map_append] <;> rfl
          · show (upd _ _ _) q5 = _
            rw [upd_ne h5l, upd_same, cut5]
      · have notG : p.2.k3 ∉ (grps ((R.take i).map (·.2))).map (·.1) := by
          rw [← ent_keys hE]
          exact valV_not hn
        have qD : q3 ≠ D := fun e => by rw [e, hD2] at h3; cases h3
        have lD : l0 ≠ D := fun e => by rw [e, hD2] at n0; cases n0
        have lq : l0 ≠ q3 := fun e => by rw [e, upd_same] at h0; cases h0
        generalize hX : upd (upd (upd H2 q3 (.tup (p.2.k3.map kV))) l0 (.lst [])) D (.dT (putK kvs p.2.k3 (.ref l0))) = X2
        have xl0 : X2 l0 = some (.lst []) := by rw [← hX, upd_ne lD, upd_same]
        have xo : ∀ b o, b ≠ D → H2 b = some o → X2 b = some o := fun b o ne e => by
          rw [← hX, upd_ne ne]
          exact sB _ _ e
        have pD : p.1 ≠ D := fun e => by
          have z := s2 _ _ (hK p m)
          rw [e, hD2] at z
          cases z
        refine ⟨.inl ⟨rfl, _, .inl (.inl xl0)⟩, _, rfl, 3, rfl, p.1, p.2.vs, rfl, .inl (.inl (xo _ _ pD (s2 _ _ (hK p m)))), c5, fun q5 h5 => ?_⟩
        have q5l : q5 ≠ l0 := fun e => by rw [e, xl0] at h5; cases h5
        have q5D : q5 ≠ D := fun e => by
          rw [e, ← hX, upd_same] at h5
          cases h5
        have lq5 : l0 ≠ q5 := q5l.symm
        refine ⟨l0, _, _, rfl, rfl, by rw [upd_ne lq5]; exact xl0, few (by show 0 ≤ 40000; omega), ?_⟩
        have nl0 : H l0 = none := s2.free n0
        have sX : Same H X2 := by
          rw [← hX]
          exact same_mut (s2.trans sB) hD
        have fin : ∀ b o, b ≠ D → H2 b = some o → (upd (upd X2 q5 (.tup (cutV p.2.vs (some 3) none))) l0 (.lst ([] ++ [V.ref q5]))) b = some o := fun b o ne e => by
          rw [upd_ne (ne_of_none e n0), upd_ne (fun z => by rw [← z] at h5; rw [xo b o ne e] at h5; cases h5)]
          exact xo b o ne e
        refine ⟨same_mut (same_mut sX (sX.free h5)) nl0, some (.ref p.1), kvs ++ [(p.2.k3, .ref l0)], rfl, ?_, ?_, ?_, ?_⟩
        · rw [upd_ne lD.symm, upd_ne q5D.symm, ← hX, upd_same, put_none hn]
        · rw [next]
          unfold gAdd
          rw [if_neg notG]
          refine Paired.snoc (Paired.mapP hE fun x y z => z.keepL (fun b xs e => fin b _ (fun ed => by rw [ed, hD2] at e; cases e) e) fun b xs e => fin b _ (fun ed => by rw [ed, hD2] at e; cases e) e) ?_
          refine ⟨rfl, l0, [q5], rfl, upd_same, .cons ?_ .nil⟩
          show (upd _ _ _) q5 = _
          rw [upd_ne q5l, upd_same, cut5]
        · rw [List.map_append]
          refine (List.perm_append_singleton _ _).nodup_iff.mpr (List.nodup_cons.mpr ⟨fun mm => ?_, nd2⟩)
          obtain ⟨x, hx, ex⟩ := List.mem_map.mp mm
          obtain ⟨g, _, _, la, as, e1, e2, _⟩ := Sx.paired_left hE x hx
          have ex' : x.2 = V.ref l0 := ex
          rw [ex'] at e1
          injection e1 with e1
          rw [← e1, n0] at e2
          cases e2
        · intro x hx
          rcases List.mem_append.mp hx with hx | hx
          · exact news x hx
          · rw [List.mem_singleton.mp hx]
            exact ⟨l0, rfl, nl0⟩
    · rintro σ H2 ⟨s2, v, kvs, rfl, hD2, hE, nd2, news⟩
      have lR : (refsK R).length = R.length := List.length_map ..
      rw [lR, List.take_of_length_le (Nat.le_refl _)] at hE
      generalize hG : grps (R.map (·.2)) = G at hE
      have keysG : kvs.map (·.1) = G.map (·.1) := ent_keys hE
      have ndG : (G.map (·.1)).Nodup := by rw [← hG, grps_keys]; exact Sx.once_nodup _
      have lk : kvs.length = G.length := Paired.length hE
      have lG : G.length ≤ 20000 := by
        have y := Sx.once_len ((R.map (·.2)).map Rl.k3)
        rw [← grps_keys, hG, List.length_map, List.length_map, List.length_map] at y
        omega
      refine ⟨D, _, hD2, trivial, fun od => ?_⟩
      refine ⟨_, rfl, D, od, rfl, .inr ⟨kvs, upd_same, fun N hN => ?_⟩⟩
      have ND : N ≠ D := fun e => by rw [e, upd_same] at hN; cases hN
      have hN2 : H2 N = none := by rw [upd_ne ND] at hN; exact hN
      refine Sx.dt_it walk_keysT (fun i H' => H' D = some (.frz od (.dT kvs)) ∧ (∀ b o, b ≠ D → H2 b = some o → H' b = some o) ∧ ∃ kv', H' N = some (.dT kv') ∧ Paired (EntT H') kv' (G.take i))
        ⟨by rw [upd_ne ND.symm, upd_same], fun b o ne e => by rw [upd_ne (ne_of_none e hN2), upd_ne ne]; exact e, [], upd_same, .nil⟩ (fun i H' _ h => h.1) ?_ ?_
      · rintro i y H3 H4 hi ⟨hf, old, kv', hN3, hP⟩ ⟨rfl, c, u, q, ec, rfl, hq⟩
        obtain ⟨g, eg, hent⟩ := Sx.paired_at hE ec
        obtain ⟨e1, la, as, e2, e3, e4⟩ := hent
        have e1' : c = g.1 := e1
        have e2' : u = .ref la := e2
        subst e2'
        have mem := List.mem_of_getElem? ec
        have laD : la ≠ D := fun e => by rw [e, hD2] at e3; cases e3
        have vq : valV kvs c = some (.ref la) := Sx.val_mem (by rw [keysG]; exact ndG) mem
        refine ⟨rfl, ?_⟩
        refine ⟨_, rfl, _, rfl, _, rfl, D, _, rfl, .inr ⟨kvs, c, q, .inr ⟨od, hf⟩, rfl, hq, vq.symm⟩, la, _, rfl, .inl ⟨.inl (.inl (old _ _ laD e3)), fun t ht => ?_⟩⟩
        have tN : N ≠ t := fun e => by rw [← e, hN3] at ht; cases ht
        have qt : q ≠ t := fun e => by rw [← e, hq] at ht; cases ht
        have keys' : kv'.map (·.1) = (G.take i).map (·.1) := entT_keys hP
        have new : c ∉ kv'.map (·.1) := by
          rw [keys', e1', List.map_take]
          intro mm
          obtain ⟨j, hj, ej⟩ := List.getElem_of_mem mm
          rw [List.length_take] at hj
          rw [List.getElem_take] at ej
          have hi' : i < (G.map (·.1)).length := by rw [List.length_map]; exact (List.getElem?_eq_some_iff.mp eg).1
          have z : (G.map (·.1))[i] = g.1 := by
            rw [List.getElem_map]
            exact congrArg Prod.fst (List.getElem?_eq_some_iff.mp eg).2
          exact List.pairwise_iff_getElem.mp ndG j i (by omega) hi' (by omega) (by rw [ej, z])
        have pn : valV kv' c = none := by
          rcases z : valV kv' c with _ | z1
          · rfl
          · exact absurd (valV_in z) new
        have tups : ∀ b xs, H4 b = some (.tup xs) → (upd (upd H4 t (.tup (as.map V.ref))) N (.dT (putK kv' c (.ref t)))) b = some (.tup xs) := fun b xs e => by
          rw [upd_ne (ne_of e hN3 (fun z => nomatch z)), upd_ne (ne_of_none e ht)]
          exact e
        refine ⟨kv', c, q, rfl, by rw [upd_ne qt]; exact hq, by rw [upd_ne tN]; exact hN3, ?_, ?_, ?_, _, upd_same, ?_⟩
        · have z := Paired.length hP
          rw [List.length_take] at z
          exact Nat.lt_of_le_of_lt (show kv'.length ≤ 20000 by omega) (by decide)
        · have tD : D ≠ t := fun e => by rw [← e, hf] at ht; cases ht
          rw [upd_ne ND.symm, upd_ne tD]
          exact hf
        · intro b o ne e
          have z := old b o ne e
          rw [upd_ne (ne_of_none e hN2), upd_ne (ne_of_none z ht)]
          exact z
        · rw [put_none pn] at tups ⊢
          rw [take_at eg]
          refine Paired.snoc (Paired.mapP hP fun x y z => z.mono tups) ⟨e1', t, as, rfl, by rw [upd_ne tN.symm, upd_same], Paired.mapP e4 fun a k z => tups _ _ (old _ _ (fun ed => ?_) z)⟩
          have z' : H2 a = some (.tup (k.map kV)) := z
          rw [ed, hD2] at z'
          cases z'
      · rintro H3 ⟨hf, old, kv', hN3, hP⟩
        rw [lk, List.take_of_length_le (Nat.le_refl _)] at hP
        refine ⟨hf, k _ N (fun b o e => ?_) (s2.free hN2) ⟨kv', by rw [upd_ne ND]; exact hN3, ?_⟩⟩
        · have bD : b ≠ D := ne_of_none e hD
          rw [upd_ne bD]
          exact old b o bD (s2 b o e)
        · rw [hG]
          exact Paired.mapP hP fun x y z => z.mono fun b xs e => by
            rw [upd_ne (ne_of e hf (fun z => nomatch z))]
            exact e
end
end Mk

set_option Elab.async false
set_option maxRecDepth 100000
set_option maxHeartbeats 4000000
namespace Mk
open PySem L2 Pk
theorem upd_id {H : Hp} {a : Addr} {o : HO} (h : H a = some o) : upd H a o = H := by
  funext b
  by_cases e : b = a
  · rw [e, upd_same, h]
  · rw [upd_ne e]
def guessOf (G : List Grp) : Option (List Key) := (G.find? fun g => decide (1 < g.2.length)).map (·.1)
def GuessV (H : Hp) (v : V) : Option (List Key) → Prop
  | none => v = .non
  | some k => ∃ q, v = .ref q ∧ TupAt H q k
theorem find_at {α : Type} {p : α → Bool} : ∀ {l : List α} {i : Nat} {x : α}, l[i]? = some x → p x = true → (∀ y ∈ l.take i, p y = false) → l.find? p = some x
  | [], i, x, e, _, _ => by simp at e
  | y :: l, 0, x, e, h, _ => by
    simp at e
    subst e
    rw [List.find?_cons_of_pos h]
  | y :: l, i + 1, x, e, h, b => by
    have n : p y = false := b y (by rw [List.take_succ_cons]; exact List.mem_cons_self)
    rw [List.find?_cons_of_neg (by rw [n]; decide)]
    exact find_at (by simpa using e) h fun z m => b z (by rw [List.take_succ_cons]; exact List.mem_cons_of_mem _ m)
section
variable {P : Program} {w : World} {K : PySem.W.Frag} {mg : PySem.Str → Option Value} {base : Heap}
def spGuess : Sp := fun vs H Q _ => ∃ (d : Addr) (G : List Grp), vs = [.ref d] ∧ ActsAt H d G ∧ (G.map (·.1)).Nodup ∧ (∀ g ∈ G, g.2.length ≤ 20000) ∧ ∀ v, GuessV H v (guessOf G) → Q v H
theorem scGuess : FnScope ["acts", "key"] ["acts"] (defScope sGuess) := ⟨rfl, rfl, rfl, by decide +kernel, rfl, by decide +kernel, by decide +kernel⟩
theorem ok_guess {f : Addr} {fd : FuncData} (F : Fun K "first_guess" "first_guess" sGuess f fd) (T : TM mg) : FnOk P w K mg base CX0 1 f fd ["acts"] spGuess := by
  refine F.ok scGuess (fun vs H Q E h => ?_) (fun cdv A outer s H vs Q E hr h => ?_)
  · obtain ⟨a, G, rfl, _⟩ := h
    rfl
  · obtain ⟨d, G, rfl, ⟨kvs, hd, hP⟩, nd, few, k⟩ := h
    have hu := hu_of hr
    refine ⟨_, pss_cons (ps_lock (ps_for PassesOwn.never rfl (pi_keys (pv 0)) (pg_name (i := 1) scGuess.nd rfl (Or.inl rfl))
        (pss_one (ps_if (pt_cmpR op_gt (pe_callB call_len_seq (by rfl) T.len PySem.boot_len (pa_cons (pe_dget hu (pv 0) (pv 1) fun _ _ => rfl) pa_nil)) pe_int (nomark _)) (pss_one (ps_ret (pv 1))) pss_nil))))
      (pss_one (ps_ret pe_non)), ?_⟩
    have back : ∀ od, upd (upd H d (.frz od (.dT kvs))) d (.dT kvs) = H := fun od => by rw [upd_upd, upd_id hd]
    have keysG : kvs.map (·.1) = G.map (·.1) := entT_keys hP
    refine ⟨d, _, hd, trivial, fun od => ?_⟩
    refine ⟨_, rfl, d, od, rfl, .inr ⟨kvs, upd_same, for_it walk_keysT (fun i σ H' => H' = upd H d (.frz od (.dT kvs)) ∧ (∃ v : Option V, σ = [some (.ref d), v]) ∧ ∀ g ∈ G.take i, decide (1 < g.2.length) = false)
      ⟨rfl, ⟨none, rfl⟩, fun g m => absurd m (by simp)⟩ (fun i σ H' _ h => by rw [h.1, upd_same]) ?_ ?_⟩⟩
    · rintro i y σ H3 H4 hi ⟨rfl, ⟨v, rfl⟩, before⟩ ⟨rfl, c, u, q, ec, rfl, hq⟩
      obtain ⟨g, eg, e1, t, as, e2, e3, e4⟩ := Sx.paired_at hP ec
      have e1' : c = g.1 := e1
      have e2' : u = .ref t := e2
      subst e2'
      have mem := List.mem_of_getElem? ec
      have gm := List.mem_of_getElem? eg
      have vq : valV kvs c = some (.ref t) := Sx.val_mem (by rw [keysG]; exact nd) mem
      have td : t ≠ d := fun e => by rw [e, hd] at e3; cases e3
      have la : as.length = g.2.length := Paired.length e4
      refine ⟨_, rfl, _, rfl, d, _, rfl, .inr ⟨kvs, c, q, .inr ⟨od, upd_same⟩, rfl, hq, vq.symm⟩, t, _, rfl, .inr (.inl (.inl (by rw [upd_ne td]; exact e3))), _, _, rfl, rfl, _, rfl, ?_⟩
      rw [List.length_map, la]
      refine ite2 (fun big => ?_) (fun small => ?_)
      · have big' : 1 < g.2.length := by
          have z := of_decide_eq_true big
          omega
        refine ⟨_, rfl, upd_same, ?_⟩
        rw [back]
        refine k _ ?_
        have ff : G.find? (fun g => decide (1 < g.2.length)) = some g := find_at eg (decide_eq_true big') before
        unfold guessOf
        rw [ff]
        have qd : q ≠ d := fun e => by
          rw [e, upd_same] at hq
          cases hq
        rw [upd_ne qd] at hq
        exact ⟨q, rfl, by show TupAt H q g.1; rw [← e1']; exact hq⟩
      · have small' : ¬ 1 < g.2.length := fun z => small (decide_eq_true (by omega))
        refine ⟨rfl, ⟨_, rfl⟩, fun x m => ?_⟩
        rw [take_at eg] at m
        rcases List.mem_append.mp m with m | m
        · exact before x m
        · rw [List.mem_singleton.mp m]
          exact decide_eq_false small'
    · rintro σ H3 ⟨rfl, ⟨v, rfl⟩, before⟩
      refine ⟨upd_same, ?_⟩
      show Q .non _
      rw [back]
      refine k _ ?_
      have lk : kvs.length = G.length := Paired.length hP
      rw [lk, List.take_of_length_le (Nat.le_refl _)] at before
      unfold guessOf
      rw [List.find?_eq_none.mpr fun g m z => by rw [before g m] at z; cases z]
      rfl
end
end Mk

set_option linter.all false
set_option maxRecDepth 100000
set_option maxHeartbeats 3200000
/-! set(ints), sorted(set of ints), more than 64 of them, too -/
namespace Sx
open PySem PySem.Spec PyProof.Rows L2
section
variable {P : Program} {w : World} {A : Around} {E : Value → Shared → Prop} {s : Shared}
abbrev bareSet (w : World) : Obj := { cls := .type "set", dict := none, data := .set #[] 0 (.fresh 0 0 (!w.params.followText "set-order")) }
theorem set_ints_list {l : Addr} {items : Array Value} (ns : List Int) {Q : Value → Shared → Prop} (hh : A.handled = none) (hl : s.heap.IsList l items) (hit : IntsAre items.toList ns) (hb : ns.length + 1 < scanBound)
    (h : ∀ (h' : Heap) (tk c : Nat), SetR w h' s.heap.objs.size (fun j => decide (j ∈ ns)) c → c ≤ ns.length → (∀ b o, s.heap.get? b = some o → h'.get? b = some o) → Q (.ref s.heap.objs.size) { s with heap := h', toks := tk }) :
    wpAny (model P w) A (call (.type "set") [.ref l]) Q E s := by
  have isz : items.size = ns.length := by
    have q := IntsAre.length hit
    rwa [Array.length_toList] at q
  obtain ⟨c, tl, hmro⟩ := F.called_set.mro
  have hmade := F.called_set.made
  have hsub := F.called_set.sub
  refine wpAny_call (codeAny_of_tree ?_)
  show wpAny _ _ (callAny (.type "set") _) _ _ _
  refine wpAny_pure ⟨Code.quiet_builtin _ (by decide +kernel), codeAny_builtin F.entry_type_call ?_⟩
  rw [Around.under_plain (weight_type_call_type "set" [.ref l] []) rfl]
  have h1 := F.called_set.notType
  have h2 := F.called_set.canCreate
  have hct := F.typeCall_set_1 (.ref l)
  repeat (any_goals (first | assumption | wp_step))
  refine codeAny_mono (code_set_led1 (.ref l) (E := E) (Q₁ := fun obj s₁ => obj = .ref s.heap.objs.size ∧ s₁ = { s with heap := s.heap.push (bareSet w) }) ⟨rfl, rfl⟩) fun r s₁ hr => ?_
  rcases r with e | fl
  · exact hr
  · cases fl with
    | ret obj =>
      obtain ⟨rfl, rfl⟩ := hr
      have at_ : (s.heap.push (bareSet w)).get? s.heap.objs.size = some (bareSet w) := Heap.get?_push_size _ rfl
      have hT : Shared.TypeIs { s with heap := s.heap.push (bareSet w) } (.ref s.heap.objs.size) "set" := ⟨_, at_, rfl⟩
      have hli := F.called_set.init.lookup
      have hbi := F.called_set.init.bind (.ref s.heap.objs.size)
      repeat (any_goals (first | assumption | wp_step))
      refine codeAny_mono (codeAny_call_builtin (R := wants (fun r s₂ => r = .none ∧ ∃ h' tk c, s₂ = { s with heap := h', toks := tk } ∧ SetR w h' s.heap.objs.size (fun j => decide (j ∈ ns)) c ∧ c ≤ ns.length ∧
          (∀ b o, s.heap.get? b = some o → h'.get? b = some o)) E) F.called_set.init.plain F.entry_set_init (check_set_init_1 hT ?_)) fun r₂ s₂ hr₂ => ?_
      · obtain ⟨ol, hol, hcl, nl, hdl⟩ := hl
        obtain ⟨ocls, odict, odata, oslots⟩ := ol
        simp only at hcl hdl
        subst hcl; subst hdl
        have hol' : (s.heap.push (bareSet w)).get? l = some { cls := .type "list", dict := odict, data := .seq items nl, slots := oslots } := Heap.get?_push_of_some _ hol
        have hsls := F.sub_list_set
        have hslf := F.sub_list_frozenset
        have hne : (Value.type "list" == Value.type "dict") = false := by decide
        have hl1 : (s.heap.push (bareSet w)).IsList l items := ⟨_, hol', rfl, nl, rfl⟩
        unfold Builtin.«set.__init__» noKeywords Builtin.Frozenset.updateFrom
        generalize hPI : pyIter = PI
        wp_walk
        subst hPI
        refine wpAny_pyIter_list hl1 ?_
        refine wpAny_bind (wpAny_runValue ?_)
        have lt : l < s.heap.objs.size := Heap.lt_size hol
        have hh3 : A.in1.in1.in1.handled = none := by simp [hh]
        have neI : l ≠ (s.heap.push (bareSet w)).objs.size := by
          rw [Heap.size_push]; exact Nat.ne_of_lt (Nat.lt_succ_of_lt lt)
        have out : s.heap.objs.size ∉ [(s.heap.push (bareSet w)).objs.size, l] := by
          rw [Heap.size_push]; simp only [List.mem_cons, List.mem_singleton, List.not_mem_nil, or_false, not_or]
          exact ⟨Nat.ne_of_lt (Nat.lt_succ_self _), Nat.ne_of_gt lt⟩
        have hval : ∀ (i : Nat) (v : Value), items[i]? = some v → ∃ k t, ns[i]? = some k ∧ v = .int k t := fun i v hv => by
          have hi : i < ns.length := by rw [← isz]; exact (Array.getElem?_eq_some_iff.mp hv).1
          obtain ⟨t, e⟩ := PyProof.Rows.IntsAre.int_at hit i v (by rw [Array.getElem?_toList]; exact hv)
          refine ⟨ns[i], t, List.getElem?_eq_getElem hi, ?_⟩
          rw [e, List.getD_eq_getElem?_getD, List.getElem?_eq_getElem hi] <;> rfl
        refine set_update_ints ((Walks.list hh3 _ l neI items).toS) s.heap.objs.size out ns isz hb hval (items.size - 0) 0 _ (by omega) (Nat.zero_le _) ⟨⟨_, Heap.get?_push_size _ rfl, rfl, rfl⟩, (hl1.push _)⟩ ?_ ?_
        · have got : ((s.heap.push (bareSet w)).push { cls := .type "list_iterator", data := .fields #[.ref l, .int 0 0] }).get? s.heap.objs.size = some (bareSet w) := Heap.get?_push_of_some _ at_
          exact ⟨0, Nat.le_refl 0, setR_new_at got⟩
        · intro s' c' hm hc' hS'
          obtain ⟨h', g2, d', tk', os'⟩ := s'
          cases (show g2 = s.gens from hm.gens)
          cases (show d' = s.drawn from hm.drawn)
          cases (show os' = s.os from hm.os)
          show wpAny _ _ _ _ _ _
          refine wpAny_pure ?_
          show wpAny _ _ (ret Value.none) _ _ _
          rw [isz] at hc'
          refine wpAny_pure ⟨rfl, h', tk', c', rfl, hS', hc', fun b o e => ?_⟩
          have b0 : b < s.heap.objs.size := Heap.lt_size e
          refine hm.heap b o ?_ (Heap.get?_push_of_some _ (Heap.get?_push_of_some _ e))
          rw [Heap.size_push]
          simp only [List.mem_cons, List.mem_singleton, List.not_mem_nil, or_false, not_or]
          exact ⟨Nat.ne_of_lt b0, Nat.ne_of_lt (Nat.lt_succ_of_lt b0)⟩
      · rcases r₂ with e | fl₂
        · exact hr₂
        · cases fl₂ with
          | ret r =>
            obtain ⟨rfl, h', tk, c', rfl, hS', hc', hk'⟩ := hr₂
            repeat (any_goals (first | assumption | wp_step))
            exact h _ _ _ hS' hc' hk'
          | _ => exact hr₂.elim
    | _ => exact hr.elim
theorem sorted_ints {a : Addr} {S : Int → Bool} {n : Nat} {Q : Value → Shared → Prop} (R : SetR w s.heap a S n) (hh : A.handled = none)
    (hQ : ∀ s' p (out : List Value) (c : Nat) (ns : List Int), (∀ b o, s.heap.get? b = some o → s'.heap.get? b = some o) → s'.gens = s.gens → s'.os = s.os → s.heap.objs.size ≤ p →
      s'.heap.get? p = some (seqObj "list" out.toArray c) → IntsAre out ns → ns.Pairwise (· < ·) → (∀ k, k ∈ ns ↔ S k = true) → ns.length = n → Q (.ref p) s') :
    wpAny (model P w) A (call (.builtin "sorted") [.ref a]) Q E s := by
  obtain ⟨o, es, ep, t, ho, hex, hd, g, nd, hm, hb, hf, hn, hr, hl⟩ := R
  refine Calls.call_function_entry kind_sorted plain_sorted entry_sorted (args_sorted1 _) ?_
  unfold Builtin.«sorted»
  refine wpAny_bind (m := checkCount "sorted" 1 1 _) (wpAny_pure ?_)
  refine wpAny_bind (collect_set (A := A.in1) hh ⟨o, ho, hex.1, hd⟩ hf hb hr hl fun s1 vs k1 hz g1 o1 pm => ?_)
  have lv : vs.length = n := by rw [pm.length_eq, List.length_map, Array.length_toList]; exact hn
  have hI : IntsAre vs (vs.map SrtO.iv) := SrtO.ints_iv fun v hv => by
    obtain ⟨e, he, q⟩ := List.mem_map.mp (pm.mem_iff.mp hv)
    obtain ⟨k, tk, h1, _⟩ := g e he
    exact ⟨k, tk, by rw [← q]; exact h1⟩
  have keys : es.toList.map (fun e => SrtO.iv e.2) = es.toList.map keyOf := List.map_congr_left fun e he => by
    obtain ⟨k, tk, h1, _⟩ := g e he
    have z : keyOf e = Builtin.Re.reRawOf e.2 := rfl
    rw [z, h1] <;> rfl
  have pk : (vs.map SrtO.iv).Perm (es.toList.map keyOf) := by
    have q := pm.map SrtO.iv
    rw [List.map_map] at q
    rw [← keys]
    exact q
  have zz : vs.length ≤ sizeLine := by rw [lv, ← hn, sizeLine_eq]; unfold scanBound at hb; omega
  refine wpAny_bind (wpAny_newList ?_ zz)
  have hoL : (s1.heap.push (seqObj "list" vs.toArray 0)).get? s1.heap.objs.size = some (seqObj "list" vs.toArray 0) := Heap.get?_push_size _ rfl
  refine wpAny_bind (wpAny_holding (wpAny_call_entry PyProof.Rows.slot_list_sort ⟨_, hoL, rfl⟩ PyProof.Rows.entry_list_sort
    (SrtO.list_sort_ord (s := { s1 with heap := s1.heap.push (seqObj "list" vs.toArray 0) }) SrtO.swo_int hoL zz (fun h2 => SrtO.ints_sortable hI h2) fun out h1 h2 => ⟨_, rfl, ?_⟩) (PyProof.Rows.args_list_sort _)))
  obtain ⟨a1, a2, a3⟩ := SrtO.ints_out hI h1 h2
  obtain ⟨c, hc⟩ := PyProof.Rows.sortedHeap_at (vs := vs) (out := out.toArray) hoL
  have pn : (out.map SrtO.iv).Perm (es.toList.map keyOf) := a2.trans pk
  refine wpAny_pure ⟨_, rfl, hQ _ s1.heap.objs.size out c _ (fun b u e => ?_) g1 o1 hz hc a1 (lt_of_le_nodup _ a3 (pn.nodup_iff.mpr nd)) (fun k => by rw [pn.mem_iff, ← hm k]) ?_⟩
  · have lt := Heap.lt_size (k1 b u e)
    show (sortedHeap (s1.heap.push (seqObj "list" vs.toArray 0)) s1.heap.objs.size vs _).get? b = some u
    rw [sortedHeap_old (Nat.ne_of_lt lt) (by rw [size_push']; exact Nat.lt_succ_of_lt lt)]
    exact Heap.get?_push_of_some _ (k1 b u e)
  · rw [pn.length_eq, List.length_map, Array.length_toList]; exact hn
end
section
variable {X : Cx}
/-- set(ints), of a list or a tuple -/
def rSetI (K : PySem.W.Frag) (w : World) : List V → Hp → VK → Prop := fun xs H Q => ∃ (l : Addr) (ns : List Int), xs = [V.ref l] ∧ (SqL K H l (ns.map V.int) ∨ SqT K H l (ns.map V.int)) ∧ ns.length < 4000 ∧
  ∀ (a : Addr) (n : Nat), n ≤ ns.length → H a = none → Q (.ref a) (upd H a (SetO w a (fun j => decide (j ∈ ns)) n))
theorem cr_setI (hc : X.calm = true) : CallR X (.type "set") (rSetI X.K X.w) := by
  intro pins s σ H xs us Q I r h
  obtain ⟨l, ns, rfl, hs, few, q⟩ := h
  rw [Vals.ref1 r]
  have hn : H s.heap.objs.size = none := I.hok.fresh (Nat.le_refl _)
  have fin : ∀ (h' : Heap) (tk c : Nat), SetR X.w h' s.heap.objs.size (fun j => decide (j ∈ ns)) c → c ≤ ns.length → (∀ b o, s.heap.get? b = some o → h'.get? b = some o) →
      EP X pins σ Q (.ref s.heap.objs.size) { s with heap := h', toks := tk } := fun h' tk c R le k =>
    ⟨.ref _, _, I.laid (t' := tk) k (Nat.le_refl _) (setO_new R), rfl, q _ c le hn⟩
  rcases hs with hs | hs
  · obtain ⟨its, rv, hl, hz⟩ := I.list hs
    exact set_ints_list ns (I.ok.hd hc) hl.isList (by simpa using rv.ints) (by unfold scanBound; omega) fin
  · obtain ⟨its, rv, hl, hz⟩ := I.tuple hs
    exact call_set_tupI ns (I.ok.hd hc) hl (by simpa using rv.ints) (by unfold scanBound; omega) fin
/-- sorted(set of ints) -/
def rSortI (w : World) : List V → Hp → VK → Prop := fun vs H Q => ∃ (a : Addr) (S : Int → Bool) (n : Nat), vs = [V.ref a] ∧ H a = some (SetO w a S n) ∧ n ≤ 4096 ∧
  ∀ (ns : List Int) (p : Addr), ns.Pairwise (· < ·) → (∀ k : Int, k ∈ ns ↔ S k = true) → ns.length = n → H p = none → Q (.ref p) (upd H p (.lst (ns.map V.int)))
theorem cr_sortI (hc : X.calm = true) : CallR X (.builtin "sorted") (rSortI X.w) := by
  intro pins s σ H vs us Q I r h
  obtain ⟨a, S, n, rfl, ha, few, q⟩ := h
  rw [Vals.ref1 r]
  refine sorted_ints (setO_get I ha) (I.ok.hd hc) fun s' p out c ns k g o hp hg hi hs hm hl => ?_
  have hlen : (ns.map V.int).length ≤ sizeLine := by rw [List.length_map, hl, sizeLine_eq]; omega
  have hn : H p = none := I.hok.fresh hp
  have J : Inv X pins σ (upd H p (.lst (ns.map V.int))) { s with heap := s'.heap, gens := s'.gens, drawn := s'.drawn, toks := s'.toks } :=
    I.call (ch := []) (Un.laid k hp hn) (I.hok.laid k hp ⟨hlen, out, c, vals_of_ints hi, hg⟩) (by rw [g]; exact I.bare) (fun _ z => nomatch z)
  have e : s' = { s with heap := s'.heap, gens := s'.gens, drawn := s'.drawn, toks := s'.toks } := by
    cases s'; cases s; cases o; rfl
  rw [e]
  exact ⟨.ref p, _, J, rfl, q ns p hs hm hl hn⟩
end
end Sx

set_option Elab.async false
set_option maxRecDepth 100000
set_option maxHeartbeats 4000000
namespace Mk
open PySem L2 Pk
def Rl.key (r : Rl) : List Key := [.inl r.st, .inr r.sg, .inr r.tp, .inl r.af, .inl r.mv, .inr r.de, .inr r.sy, .inr r.sa]
theorem key_vs (r : Rl) : r.key.map kV = r.vs := rfl
def unkey : List Key → Rl
  | [.inl st, .inr sg, .inr tp, .inl af, .inl mv, .inr de, .inr sy, .inr sa] => ⟨st, sg, tp, af, mv, de, sy, sa⟩
  | _ => ⟨0, nil0, nil0, 0, 0, nil0, nil0, nil0⟩
theorem unkey_key (r : Rl) : unkey r.key = r := rfl
theorem key_inj {r q : Rl} (h : r.key = q.key) : r = q := by rw [← unkey_key r, h, unkey_key]
abbrev sh8 : List Bool := [false, false, true, true, false, false, false]
theorem shp_key (r : Rl) : Sx.shp r.key = true :: sh8 := rfl
def ltI (a b : Int) : Bool := decide (a < b)
theorem lin_int : Sx.Lin ltI where
  irr := fun x => decide_eq_false (Int.lt_irrefl x)
  tr := fun x y z h1 h2 => decide_eq_true (Int.lt_trans (of_decide_eq_true h1) (of_decide_eq_true h2))
  tot := fun x y ne => by
    rcases Int.lt_trichotomy x y with c | c | c
    · exact .inl (decide_eq_true c)
    · exact absurd c ne
    · exact .inr (decide_eq_true c)
/-- the rules, rising, each once -/
def rulesOf (rs : List Rl) : List Rl := (Sx.asc Sx.ltT (rs.map Rl.key)).map unkey
theorem rulesOf_keys (rs : List Rl) : (rulesOf rs).map Rl.key = Sx.asc Sx.ltT (rs.map Rl.key) := by
  unfold rulesOf
  rw [List.map_map]
  have e : ∀ k ∈ Sx.asc Sx.ltT (rs.map Rl.key), (Rl.key ∘ unkey) k = k := fun k m => by
    obtain ⟨r, _, rfl⟩ := List.mem_map.mp ((Sx.asc_mem Sx.ltT (rs.map Rl.key) k).mp m)
    rfl
  conv => rhs; rw [← List.map_id (Sx.asc Sx.ltT (rs.map Rl.key))]
  exact List.map_congr_left e
def intsOf (ys : List Int) : List Int := Sx.asc ltI ys
theorem ints_are {ns ys : List Int} (h : ns.Pairwise (· < ·)) (e : ∀ k, k ∈ ns ↔ k ∈ ys) : ns = intsOf ys :=
  lin_int.is_asc (h.imp fun lt => Int.ne_of_lt lt) (h.imp fun {x y} lt => decide_eq_false (by omega)) e
/-- a machine as it is kept -/
structure MachAt (K : PySem.W.Frag) (H : Hp) (C x : Addr) (l : PySem.Str) (n : Int) (rs : List Rl) (ys : List Int) : Prop where
  ex : ∃ (dx aR aY aS aA : Addr) (g : V) (R : Kept), H x = some (.ins C dx [("letters", .str l), ("states", .int n), ("rules", .ref aR), ("yes", .ref aY), ("symbols", .ref aS), ("_acts", .ref aA), ("guess", g)]) ∧
    H aR = some (.tup (refsK R)) ∧ KeptAt H R ∧ R.map (·.2) = rulesOf rs ∧ H aY = some (.tup ((intsOf ys).map V.int)) ∧ H aS = some (.tup ((symsOf (rulesOf rs)).map V.str)) ∧ ActsAt H aA (grps (rulesOf rs)) ∧ GuessV H g (guessOf (grps (rulesOf rs)))
theorem ltI_up {l : List Int} : True := trivial
abbrev sInit : Stmt := inClass (top 43) 0
abbrev nInit : List PySem.Str := ["self", "letters", "states", "rules", "yes", "rule"]
theorem scInit : FnScope nInit ["self", "letters", "states", "rules", "yes"] (defScope sInit) := ⟨rfl, rfl, rfl, by decide +kernel, rfl, by decide +kernel, by decide +kernel⟩
end Mk

set_option Elab.async false
set_option maxRecDepth 100000
set_option maxHeartbeats 4000000
namespace Mk
open PySem L2 Pk
/-- all but what stands at x is as it was -/
def Off (x : Addr) (H H' : Hp) : Prop := ∀ b o, b ≠ x → H b = some o → H' b = some o
theorem Off.refl (x : Addr) (H : Hp) : Off x H H := fun _ _ _ e => e
theorem Off.trans {x : Addr} {H H' H'' : Hp} (a : Off x H H') (b : Off x H' H'') : Off x H H'' := fun c o n e => b c o n (a c o n e)
theorem Off.same {x : Addr} {H H' : Hp} (s : Same H H') : Off x H H' := fun b o _ e => s b o e
theorem Off.put {x : Addr} {H : Hp} {o : HO} : Off x H (upd H x o) := fun b _ n e => by rw [upd_ne n]; exact e
theorem Off.new {x p : Addr} {H : Hp} {o : HO} (h : H p = none) : Off x H (upd H p o) := Off.same (same_new h)
def isIns : HO → Bool
  | .ins _ _ _ => true
  | _ => false
theorem off_ne {x b C dx : Addr} {H : Hp} {fs : List (PySem.Str × V)} {o : HO} (hx : H x = some (.ins C dx fs)) (hb : H b = some o) (n : isIns o = false) : b ≠ x := fun e => by
  rw [e, hx] at hb
  cases hb
  cases n
theorem SqB.off {b : Bool} {K : PySem.W.Frag} {H H' : Hp} {x a C dx : Addr} {fs : List (PySem.Str × V)} {xs : List V} (h : SqB b K H a xs) (hx : H x = some (.ins C dx fs)) (o : Off x H H') : SqB b K H' a xs := by
  cases b with
  | false =>
    rcases (show SqT K H a xs from h) with (h | ⟨ob, h⟩) | h
    · exact .inl (.inl (o _ _ (off_ne hx h rfl) h))
    · exact .inl (.inr ⟨ob, o _ _ (off_ne hx h rfl) h⟩)
    · exact .inr h
  | true =>
    rcases (show SqL K H a xs from h) with (h | ⟨ob, h⟩) | h
    · exact .inl (.inl (o _ _ (off_ne hx h rfl) h))
    · exact .inl (.inr ⟨ob, o _ _ (off_ne hx h rfl) h⟩)
    · exact .inr h
theorem KeptAt.off {H H' : Hp} {x C dx : Addr} {fs : List (PySem.Str × V)} {R : Kept} (h : KeptAt H R) (hx : H x = some (.ins C dx fs)) (o : Off x H H') : KeptAt H' R := fun p m => o _ _ (off_ne hx (h p m) rfl) (h p m)
theorem ActsAt.off {H H' : Hp} {x p C dx : Addr} {fs : List (PySem.Str × V)} {G : List Grp} (h : ActsAt H p G) (hx : H x = some (.ins C dx fs)) (o : Off x H H') : ActsAt H' p G := by
  obtain ⟨kvs, h1, h2⟩ := h
  exact ⟨kvs, o _ _ (off_ne hx h1 rfl) h1, Paired.mapP h2 fun a b z => z.mono fun c xs y => o _ _ (off_ne hx y rfl) y⟩
theorem GuessV.off {H H' : Hp} {x C dx : Addr} {fs : List (PySem.Str × V)} {v : V} {g : Option (List Key)} (h : GuessV H v g) (hx : H x = some (.ins C dx fs)) (o : Off x H H') : GuessV H' v g := by
  cases g with
  | none => exact h
  | some k =>
    obtain ⟨q, e, t⟩ := h
    exact ⟨q, e, o _ _ (off_ne hx t rfl) t⟩
/-- the class Machine -/
structure MCls (K : PySem.W.Frag) (C : Addr) : Prop where
  cls : Cls K C
  letters : NoAttr K C "letters"
  states : NoAttr K C "states"
  rules : NoAttr K C "rules"
  yes : NoAttr K C "yes"
  symbols : NoAttr K C "symbols"
  acts : NoAttr K C "_acts"
  guess : NoAttr K C "guess"
section
variable {P : Program} {w : World} {K : PySem.W.Frag} {mg : PySem.Str → Option Value} {base : Heap}
structure InitDefs (P : Program) (w : World) (K : PySem.W.Frag) (mg : PySem.Str → Option Value) (base : Heap) : Prop where
  check : Got P w K mg base "check_arguments" 5 ["letters", "states", "rules", "yes"] (spCheck K)
  symbols : Got P w K mg base "symbols_of" 1 ["rules"] (spSymbols K)
  acts : Got P w K mg base "acts_by_key" 1 ["rules"] (spActs K)
  guess : Got P w K mg base "first_guess" 1 ["acts"] spGuess
/-- what the arguments are, the tuples among the rules being such -/
structure Right (K : PySem.W.Frag) (H : Hp) (l : PySem.Str) (n : Int) (aR aY : Addr) (bR bY : Bool) (R : Hand) (ys : List Int) : Prop where
  args : ArgsOk K H l n aR aY bR bY R ys
  raw : ∀ p ∈ R, p.2.1 = false → H p.1 = some (.tup p.2.2.vs)
  few : R.length ≤ 1400
  fewY : ys.length < 4000
def rsOf (R : Hand) : List Rl := R.map fun p => p.2.2
def spInit (K : PySem.W.Frag) (C : Addr) : Sp := fun vs H Q _ => ∃ (x dx : Addr) (l : PySem.Str) (n : Int) (aR aY : Addr) (bR bY : Bool) (R : Hand) (ys : List Int), vs = [.ref x, .str l, .int n, .ref aR, .ref aY] ∧ H x = some (.ins C dx []) ∧ Right K H l n aR aY bR bY R ys ∧
  ∀ H', Off x H H' → MachAt K H' C x l n (rsOf R) ys → Q .non H'
theorem ok_init {f C : Addr} {fd : FuncData} {params : Arguments} {dvs : List V} {kws : List (PySem.Str × V)} (F : FunD K "__init__" "Machine.__init__" params (defBody sInit) (defScope sInit) dvs kws f fd) (T : TM mg) (G : InitDefs P w K mg base) (M : MCls K C) :
    FnOk P w K mg base CX0 6 f fd ["self", "letters", "states", "rules", "yes"] (spInit K C) := by
  refine F.ok scInit (fun vs H Q E h => ?_) (fun cdv A outer s H vs Q E hr h => ?_)
  · obtain ⟨x, dx, l, n, aR, aY, bR, bY, R, ys, rfl, _⟩ := h
    rfl
  · obtain ⟨x, dx, l, n, aR, aY, bR, bY, R, ys, rfl, hx, a, k⟩ := h
    have h1 := hr.mono (show 1 ≤ 5 by decide)
    have hu64 := hr.units
    refine ⟨_, pss_cons (ps_expr (pe_got G.check hr (by rfl) (pa_cons (pv 1) (pa_cons (pv 2) (pa_cons (pv 3) (pa_cons (pv 4) pa_nil))))))
      (pss_cons (ps_fld (pv 0) (pv 1) rfl)
      (pss_cons (ps_fld (pv 0) (pv 2) rfl)
      (pss_cons (ps_fld (pv 0) (pe_callTy call_tuple_of (by rfl) T.tuple PyProof.Rows.Boot.tuple (pa_cons (pe_callB (Sx.cr_sortMS rfl) (by rfl) T.sorted (by decide +kernel) (pa_cons (Sx.pe_sm (own := [("rule", 5)]) (g := gName 5) (tt := tYes) hu64 (by rfl) scInit.nd (pi_sq bR (pv 3))
          (blkOk_by (own := [("rule", 5)]) (N := nInit) (sc := defScope sInit) (by decide +kernel))
          (fun _ _ _ _ _ => pg_name (i := 5) scInit.nd rfl (Or.inl rfl)) (fun _ _ _ _ _ => pts_nil)
          (fun _ _ _ _ _ => pe_callTy (r := rTupOf K) call_tuple_of (by rfl) T.tuple PyProof.Rows.Boot.tuple (pa_cons (pv 5) pa_nil))) pa_nil)) pa_nil)) rfl)
      (pss_cons (ps_fld (pv 0) (pe_callTy call_tuple_of (by rfl) T.tuple PyProof.Rows.Boot.tuple (pa_cons (pe_callB (Sx.cr_sortI rfl) (by rfl) T.sorted (by decide +kernel) (pa_cons (pe_callTy (Sx.cr_setI rfl) (by rfl) T.set PyProof.Rows.Boot.set (pa_cons (pv 4) pa_nil)) pa_nil)) pa_nil)) rfl)
      (pss_cons (ps_fld (pv 0) (pe_got G.symbols h1 (by rfl) (pa_cons (pe_fld (pv 0) rfl) pa_nil)) rfl)
      (pss_cons (ps_fld (pv 0) (pe_got G.acts h1 (by rfl) (pa_cons (pe_fld (pv 0) rfl) pa_nil)) rfl)
      (pss_one (ps_fld (pv 0) (pe_got G.guess h1 (by rfl) (pa_cons (pe_fld (pv 0) rfl) pa_nil)) rfl)))))))), ?_⟩
    refine ⟨_, rfl, _, rfl, _, rfl, _, rfl, l, n, aR, aY, bR, bY, R, ys, rfl, a.args, fun H1 s1 => ?_⟩
    have hx1 := s1 _ _ hx
    refine ⟨_, rfl, _, rfl, x, C, dx, _, rfl, hx1, M.cls, M.letters, by decide, ?_⟩
    refine ⟨_, rfl, _, rfl, x, C, dx, _, rfl, upd_same, M.cls, M.states, (show 1 < 1000 by decide), ?_⟩
    have o3 : Off x H (upd (upd H1 x (.ins C dx [("letters", .str l)])) x (.ins C dx [("letters", .str l), ("states", .int n)])) := ((Off.same s1).trans Off.put).trans Off.put
    have hx3 : (upd (upd H1 x (.ins C dx [("letters", .str l)])) x (.ins C dx [("letters", .str l), ("states", .int n)])) x = some (.ins C dx [("letters", .str l), ("states", .int n)]) := upd_same
    show (tSeq _ _) _ _ (upd (upd H1 x (.ins C dx [("letters", .str l)])) x (.ins C dx [("letters", .str l), ("states", .int n)]))
    generalize upd (upd H1 x (.ins C dx [("letters", .str l)])) x (.ins C dx [("letters", .str l), ("states", .int n)]) = H3 at o3 hx3 ⊢
    have rs3 : SqB bR K H3 aR (refsH R) := a.args.rs.off hx o3
    have lR : (refsH R).length = R.length := List.length_map ..
    refine isq_of ⟨_, rfl, aR, rfl, ⟨_, rs3⟩, fun D hD => Sx.sm_it (walk_sq (b := bR) (K := K) (a := aR) (xs := refsH R)) (fun i H' => Same H3 H' ∧ ∃ L : Sx.Rows, H' D = some (Sx.MSetO P w D L) ∧ Sx.TupsIn H' L ∧ L.length ≤ i ∧
        (L.map (·.2)).Nodup ∧ ∀ c, c ∈ L.map (·.2) ↔ c ∈ (R.take i).map fun p => p.2.2.key)
      ⟨same_new hD, [], upd_same, fun p m => absurd m List.not_mem_nil, Nat.le_refl _, List.nodup_nil, fun c => by simp⟩ (fun i H' _ h => rs3.mono h.1) ?_ ?_⟩
    · rintro i y H4 H5 hi ⟨s4, L, hL, tL, lL, ndL, mL⟩ ⟨rfl, ey⟩
      rw [lR] at hi
      have hp : R[i]? = some R[i] := List.getElem?_eq_getElem hi
      have ey' : y = .ref R[i].1 := by
        unfold refsH at ey
        rw [List.getElem?_map, hp] at ey
        exact (Option.some.inj ey).symm
      subst ey'
      have m : R[i] ∈ R := List.getElem_mem hi
      have few := a.few
      have o4 : Off x H H5 := o3.trans (Off.same s4)
      have sq := (a.args.hand.at_ _ m).off hx o4
      -- the turn's end, the tuple at t
      have fin : ∀ (H6 : Hp) (t : Addr), Same H5 H6 → H6 t = some (.tup (R[i].2.2.key.map kV)) → ∃ (x : Addr) (k : List Key) (L : Sx.Rows), V.ref t = .ref x ∧ H6 x = some (.tup (k.map kV)) ∧ H6 D = some (Sx.MSetO P w D L) ∧ Sx.TupsIn H6 L ∧ L.length + 1 ≤ 1500 ∧
          ∀ L2 : Sx.Rows, (k ∈ L.map (·.2) → L2 = L) → (k ∉ L.map (·.2) → L2.Perm ((x, k) :: L)) → Same H3 (upd H6 D (Sx.MSetO P w D L2)) ∧ ∃ L' : Sx.Rows, (upd H6 D (Sx.MSetO P w D L2)) D = some (Sx.MSetO P w D L') ∧ Sx.TupsIn (upd H6 D (Sx.MSetO P w D L2)) L' ∧ L'.length ≤ i + 1 ∧
            (L'.map (·.2)).Nodup ∧ ∀ c, c ∈ L'.map (·.2) ↔ c ∈ (R.take (i + 1)).map fun p => p.2.2.key := fun H6 t s6 ht => by
        refine ⟨t, R[i].2.2.key, L, rfl, ht, s6 _ _ hL, fun p mp => s6 _ _ (tL p mp), by omega, fun L2 c1 c2 => ⟨same_mut (s4.trans s6) hD, L2, upd_same, ?_, ?_, ?_, ?_⟩⟩
        · intro p mp
          have tup : H6 p.1 = some (.tup (p.2.map kV)) := by
            rcases Classical.em (R[i].2.2.key ∈ L.map (·.2)) with c | c
            · rw [c1 c] at mp
              exact s6 _ _ (tL p mp)
            · rcases List.mem_cons.mp ((c2 c).mem_iff.mp mp) with e | mp
              · rw [e]; exact ht
              · exact s6 _ _ (tL p mp)
          rw [upd_ne (ne_of tup (s6 _ _ hL) (fun z => nomatch z))]
          exact tup
        · rcases Classical.em (R[i].2.2.key ∈ L.map (·.2)) with c | c
          · rw [c1 c]; omega
          · rw [(c2 c).length_eq, List.length_cons]; omega
        · rcases Classical.em (R[i].2.2.key ∈ L.map (·.2)) with c | c
          · rw [c1 c]; exact ndL
          · exact ((c2 c).map (·.2)).nodup_iff.mpr (List.nodup_cons.mpr ⟨c, ndL⟩)
        · intro c0
          rw [take_at hp, List.map_append, List.mem_append, ← mL c0]
          rcases Classical.em (R[i].2.2.key ∈ L.map (·.2)) with c | c
          · rw [c1 c]
            constructor
            · exact .inl
            · rintro (z | z)
              · exact z
              · rw [List.mem_singleton.mp z]; exact c
          · rw [((c2 c).map (·.2)).mem_iff, List.map_cons, List.mem_cons, List.map_cons, List.map_nil, List.mem_singleton]
            exact Or.comm
      refine ⟨rfl, ?_⟩
      refine ⟨_, rfl, R[i].1, R[i].2.2.vs, rfl, ?_⟩
      rcases eb : R[i].2.1 with _ | _
      · rw [eb] at sq
        exact .inr ⟨sq, fin H5 _ (fun _ _ z => z) (o4 _ _ (off_ne hx (a.raw _ m eb) rfl) (a.raw _ m eb))⟩
      · rw [eb] at sq
        exact .inl ⟨sq, fun t ht => fin _ t (same_new ht) upd_same⟩
    · rintro H4 ⟨s4, L, hL, tL, lL, ndL, mL⟩
      rw [lR, List.take_of_length_le (Nat.le_refl _)] at mL
      have keyOfRule : ∀ p ∈ L, ∃ r : Rl, p.2 = r.key := fun p mp => by
        obtain ⟨q, _, e⟩ := List.mem_map.mp ((mL p.2).mp (List.mem_map.mpr ⟨p, mp, rfl⟩))
        exact ⟨q.2.2, e.symm⟩
      refine ⟨D, L, true, sh8, rfl, hL, tL, fun p mp => by obtain ⟨r, e⟩ := keyOfRule p mp; rw [e]; exact shp_key r, fun L2 p5 pm nd2 up hp5 => ?_⟩
      refine ⟨p5, _, rfl, .inl ⟨SqL.of upd_same, fun q5 hq5 => ?_⟩⟩
      -- the kept rules
      have keys2 : L2.map (·.2) = (rulesOf (rsOf R)).map Rl.key := by
        rw [rulesOf_keys]
        refine Sx.lin_tup.is_asc nd2 (List.pairwise_map.mpr up) fun c => ?_
        rw [(pm.map (·.2)).mem_iff, mL c]
        unfold rsOf
        rw [List.map_map] <;> rfl
      have key2 : ∀ p ∈ L2, (unkey p.2).key = p.2 := fun p mp => by
        obtain ⟨r, e⟩ := keyOfRule p (pm.mem_iff.mp mp)
        rw [e, unkey_key]
      let K2 : Kept := L2.map fun p => (p.1, unkey p.2)
      have refs2 : refsK K2 = Sx.refsOf L2 := by
        show (L2.map _).map _ = L2.map _
        rw [List.map_map] <;> rfl
      have rules2 : K2.map (·.2) = rulesOf (rsOf R) := by
        have z := congrArg (List.map unkey) keys2
        rw [List.map_map, List.map_map] at z
        have e1 : (unkey ∘ Rl.key) = id := by funext r; rfl
        rw [e1, List.map_id] at z
        show (L2.map _).map _ = _
        rw [List.map_map]
        exact z
      have s6 : Same H3 (upd (upd H4 p5 (.lst (Sx.refsOf L2))) q5 (.tup (Sx.refsOf L2))) := (s4.trans (same_new hp5)).trans (same_new hq5)
      have kept6 : KeptAt (upd (upd H4 p5 (.lst (Sx.refsOf L2))) q5 (.tup (Sx.refsOf L2))) K2 := fun p mp => by
        obtain ⟨p0, m0, rfl⟩ := List.mem_map.mp mp
        have z := ((same_new hp5).trans (same_new (o := .tup (Sx.refsOf L2)) hq5)) _ _ (tL p0 (pm.mem_iff.mp m0))
        show _ = some (HO.tup ((unkey p0.2).vs))
        rw [← key_vs, key2 p0 m0]
        exact z
      have at6 : (upd (upd H4 p5 (.lst (Sx.refsOf L2))) q5 (.tup (Sx.refsOf L2))) q5 = some (.tup (refsK K2)) := by rw [upd_same, refs2]
      have most2 : (rulesOf (rsOf R)).length ≤ 20000 := by
        unfold rulesOf
        rw [List.length_map]
        refine Nat.le_trans (Sx.asc_len _ _) ?_
        rw [List.length_map]
        unfold rsOf
        rw [List.length_map]
        have := a.few
        omega
      have lK2 : K2.length ≤ 20000 := by
        have z := congrArg List.length rules2
        rw [List.length_map] at z
        omega
      generalize upd (upd H4 p5 (.lst (Sx.refsOf L2))) q5 (.tup (Sx.refsOf L2)) = H6 at s6 kept6 at6 ⊢
      clear_value K2
      have hx6 := s6 _ _ hx3
      refine ⟨_, rfl, x, C, dx, _, rfl, hx6, M.cls, M.rules, (show 2 < 1000 by decide), ?_⟩
      have o7 : Off x H6 (upd H6 x (.ins C dx [("letters", .str l), ("states", .int n), ("rules", .ref q5)])) := Off.put
      have hx7 : (upd H6 x (.ins C dx [("letters", .str l), ("states", .int n), ("rules", .ref q5)])) x = some (.ins C dx [("letters", .str l), ("states", .int n), ("rules", .ref q5)]) := upd_same
      show (tSeq _ _) _ _ (upd H6 x (.ins C dx [("letters", .str l), ("states", .int n), ("rules", .ref q5)]))
      generalize upd H6 x (.ins C dx [("letters", .str l), ("states", .int n), ("rules", .ref q5)]) = H7 at o7 hx7 ⊢
      have oH7 : Off x H H7 := (o3.trans (Off.same s6)).trans o7
      have kept7 := kept6.off hx6 o7
      have at7 := o7 _ _ (off_ne hx6 at6 rfl) at6
      have yes7 := a.args.yes.off hx oH7
      refine ⟨_, rfl, aY, ys, rfl, yes7.any, a.fewY, fun aS c le hn => ⟨aS, _, c, rfl, upd_same, by have := a.fewY; omega, fun ns p8 upn mem len hp8 => ?_⟩⟩
      refine ⟨p8, _, rfl, .inl ⟨SqL.of upd_same, fun q8 hq8 => ?_⟩⟩
      have ens : ns = intsOf ys := ints_are upn fun k => by rw [mem k, decide_eq_true_eq]
      subst ens
      have s8 : Same H7 (upd (upd (upd H7 aS (SetO w aS (fun j => decide (j ∈ ys)) c)) p8 (.lst ((intsOf ys).map V.int))) q8 (.tup ((intsOf ys).map V.int))) := ((same_new hn).trans (same_new hp8)).trans (same_new hq8)
      have at8 : (upd (upd (upd H7 aS (SetO w aS (fun j => decide (j ∈ ys)) c)) p8 (.lst ((intsOf ys).map V.int))) q8 (.tup ((intsOf ys).map V.int))) q8 = some (.tup ((intsOf ys).map V.int)) := upd_same
      show (tVar 0) _ (upd (upd (upd H7 aS (SetO w aS (fun j => decide (j ∈ ys)) c)) p8 (.lst ((intsOf ys).map V.int))) q8 (.tup ((intsOf ys).map V.int))) _
      generalize upd (upd (upd H7 aS (SetO w aS (fun j => decide (j ∈ ys)) c)) p8 (.lst ((intsOf ys).map V.int))) q8 (.tup ((intsOf ys).map V.int)) = H8 at s8 at8 ⊢
      have hx8 := s8 _ _ hx7
      refine ⟨_, rfl, x, C, dx, _, rfl, hx8, M.cls, M.yes, (show 3 < 1000 by decide), ?_⟩
      have o9 : Off x H8 (upd H8 x (.ins C dx [("letters", .str l), ("states", .int n), ("rules", .ref q5), ("yes", .ref q8)])) := Off.put
      have hx9 : (upd H8 x (.ins C dx [("letters", .str l), ("states", .int n), ("rules", .ref q5), ("yes", .ref q8)])) x = some (.ins C dx [("letters", .str l), ("states", .int n), ("rules", .ref q5), ("yes", .ref q8)]) := upd_same
      show (tSeq _ _) _ _ (upd H8 x (.ins C dx [("letters", .str l), ("states", .int n), ("rules", .ref q5), ("yes", .ref q8)]))
      generalize upd H8 x (.ins C dx [("letters", .str l), ("states", .int n), ("rules", .ref q5), ("yes", .ref q8)]) = H9 at o9 hx9 ⊢
      have o79 : Off x H7 H9 := (Off.same s8).trans o9
      have kept9 := kept7.off hx7 o79
      have at9 := o79 _ _ (off_ne hx7 at7 rfl) at7
      have atY9 := o9 _ _ (off_ne hx8 at8 rfl) at8
      -- symbols
      refine ⟨_, rfl, x, C, dx, _, .ref q5, rfl, hx9, M.cls, M.rules, rfl, q5, K2, rfl, .inl (.inl at9), kept9, lK2, fun H10 pS s10 hpS hS10 => ?_⟩
      have hx10 := s10 _ _ hx9
      refine ⟨_, rfl, x, C, dx, _, rfl, hx10, M.cls, M.symbols, (show 4 < 1000 by decide), ?_⟩
      have o11 : Off x H10 (upd H10 x (.ins C dx [("letters", .str l), ("states", .int n), ("rules", .ref q5), ("yes", .ref q8), ("symbols", .ref pS)])) := Off.put
      have hx11 : (upd H10 x (.ins C dx [("letters", .str l), ("states", .int n), ("rules", .ref q5), ("yes", .ref q8), ("symbols", .ref pS)])) x = some (.ins C dx [("letters", .str l), ("states", .int n), ("rules", .ref q5), ("yes", .ref q8), ("symbols", .ref pS)]) := upd_same
      show (tSeq _ _) _ _ (upd H10 x (.ins C dx [("letters", .str l), ("states", .int n), ("rules", .ref q5), ("yes", .ref q8), ("symbols", .ref pS)]))
      generalize upd H10 x (.ins C dx [("letters", .str l), ("states", .int n), ("rules", .ref q5), ("yes", .ref q8), ("symbols", .ref pS)]) = H11 at o11 hx11 ⊢
      have o911 : Off x H9 H11 := (Off.same s10).trans o11
      have kept11 := kept9.off hx9 o911
      have at11 := o911 _ _ (off_ne hx9 at9 rfl) at9
      have atY11 := o911 _ _ (off_ne hx9 atY9 rfl) atY9
      have atS11 := o11 _ _ (off_ne hx10 hS10 rfl) hS10
      -- acts
      refine ⟨_, rfl, x, C, dx, _, .ref q5, rfl, hx11, M.cls, M.rules, rfl, q5, K2, rfl, .inl (.inl at11), kept11, lK2, fun H12 pA s12 hpA hA12 => ?_⟩
      have hx12 := s12 _ _ hx11
      refine ⟨_, rfl, x, C, dx, _, rfl, hx12, M.cls, M.acts, (show 5 < 1000 by decide), ?_⟩
      have o13 : Off x H12 (upd H12 x (.ins C dx (putF "_acts" (.ref pA) [("letters", .str l), ("states", .int n), ("rules", .ref q5), ("yes", .ref q8), ("symbols", .ref pS)]))) := Off.put
      have hx13 : (upd H12 x (.ins C dx (putF "_acts" (.ref pA) [("letters", .str l), ("states", .int n), ("rules", .ref q5), ("yes", .ref q8), ("symbols", .ref pS)]))) x = some (.ins C dx [("letters", .str l), ("states", .int n), ("rules", .ref q5), ("yes", .ref q8), ("symbols", .ref pS), ("_acts", .ref pA)]) := upd_same
      generalize upd H12 x (.ins C dx (putF "_acts" (.ref pA) [("letters", .str l), ("states", .int n), ("rules", .ref q5), ("yes", .ref q8), ("symbols", .ref pS)])) = H13 at o13 hx13 ⊢
      have o1113 : Off x H11 H13 := (Off.same s12).trans o13
      have acts13 := hA12.off hx12 o13
      rw [rules2] at hS10 hA12 acts13 atS11
      -- guess
      refine ⟨_, rfl, x, C, dx, _, .ref pA, rfl, hx13, M.cls, M.acts, rfl, pA, _, rfl, acts13, by rw [grps_keys]; exact Sx.once_nodup _, fun g gm => Nat.le_trans (grps_len _ g gm) most2, fun gv hg => ?_⟩
      refine ⟨_, rfl, x, C, dx, _, rfl, hx13, M.cls, M.guess, (show 6 < 1000 by decide), ?_⟩
      have o14 : Off x H13 (upd H13 x (.ins C dx [("letters", .str l), ("states", .int n), ("rules", .ref q5), ("yes", .ref q8), ("symbols", .ref pS), ("_acts", .ref pA), ("guess", gv)])) := Off.put
      have o1114 := o1113.trans o14
      show Q .non (upd H13 x (.ins C dx [("letters", .str l), ("states", .int n), ("rules", .ref q5), ("yes", .ref q8), ("symbols", .ref pS), ("_acts", .ref pA), ("guess", gv)]))
      refine k _ ((oH7.trans o79).trans (o911.trans o1114)) ⟨dx, q5, q8, pS, pA, gv, K2, upd_same, ?_, kept11.off hx11 o1114, rules2, ?_, ?_, acts13.off hx13 o14, hg.off hx13 o14⟩
      · exact o1114 _ _ (off_ne hx11 at11 rfl) at11
      · exact o1114 _ _ (off_ne hx11 atY11 rfl) atY11
      · exact o1114 _ _ (off_ne hx11 atS11 rfl) atS11
end
end Mk

set_option Elab.async false
set_option maxRecDepth 100000
set_option maxHeartbeats 4000000
namespace Mk
open PySem L2 Pk
abbrev sWhole : Stmt := top 45
abbrev sSame : Stmt := top 46
abbrev sCell : Stmt := top 47
abbrev sDigits : Stmt := top 48
abbrev sAlpha : Stmt := top 49
abbrev sSyms : Stmt := top 50
abbrev sAct : Stmt := top 51
abbrev sCaller : Stmt := top 52
abbrev sScanner : Stmt := top 53
abbrev sRestorer : Stmt := top 54
abbrev sClimber : Stmt := top 55
abbrev sMachine : Stmt := top 56
abbrev sGuesser : Stmt := top 57
abbrev sLaw : Stmt := top 58
section
variable {P : Program} {w : World} {K : PySem.W.Frag} {mg : PySem.Str → Option Value} {base : Heap}
/-! _law_cell: some int -/
theorem small100k {n : Nat} (h : n ≤ 100000) : n < sizeLine := Nat.lt_of_le_of_lt h (by decide)
def spCellA (K : PySem.W.Frag) : Sp := fun vs H Q _ => ∃ (l : Addr) (ns : List Int) (j : Nat), vs = [.ref l, .int (j : Int)] ∧ SqL K H l (ns.map V.int) ∧ ∀ z, Q (.int z) H
theorem scCell : FnScope ["script", "k", "seed", "cell"] ["script", "k"] (defScope sCell) := ⟨rfl, rfl, rfl, by decide +kernel, rfl, by decide +kernel, by decide +kernel⟩
theorem ok_cell {f : Addr} {fd : FuncData} (F : Fun K "_law_cell" "_law_cell" sCell f fd) (T : TM mg) : FnOk P w K mg base CX0 1 f fd ["script", "k"] (spCellA K) := by
  refine F.ok scCell (fun vs H Q E h => ?_) (fun cdv A outer s H vs Q E hr h => ?_)
  · obtain ⟨l, ns, j, rfl, _⟩ := h
    rfl
  · obtain ⟨l, ns, j, rfl, hS, k⟩ := h
    refine ⟨_, pss_cons (ps_if (pt_cmp (pc_lt (pv 1) (pe_callB call_len_seq (by rfl) T.len PySem.boot_len (pa_cons (pv 0) pa_nil)))) (pss_one (ps_ret (pe_ix ix_list (pv 0) (pv 1) fun _ _ => rfl))) pss_nil)
      (pss_cons (ps_set (i := 2) scCell.nd rfl (Or.inl rfl) pe_int)
      (pss_cons (ps_for PassesOwn.never rfl (pi_list (pv 0)) (pg_name (i := 3) scCell.nd rfl (Or.inl rfl))
        (pss_one (ps_set (i := 2) scCell.nd rfl (Or.inl rfl) (pe_op op_mod (pe_callTy call_int1 (by rfl) T.int PyProof.Rows.Boot.int (pa_cons (pe_op op_add (pe_op op_mul (pv 2) pe_int)
          (pe_op op_mod (pe_callTy call_int1 (by rfl) T.int PyProof.Rows.Boot.int (pa_cons (pv 3) pa_nil)) pe_int)) pa_nil)) pe_int))))
      (pss_one (ps_ret (pe_op op_mod (pe_callTy call_int1 (by rfl) T.int PyProof.Rows.Boot.int (pa_cons (pe_op op_mul (pe_op op_mul (pe_op op_add (pv 2) pe_int) (pe_op op_add (pv 1) pe_int)) pe_int) pa_nil)) pe_int))))), ?_⟩
    refine ⟨_, rfl, _, rfl, l, _, rfl, .inl hS, _, _, rfl, rfl, _, rfl, ?_⟩
    refine ite2 (fun c => ?_) (fun c => ?_)
    · have c' := of_decide_eq_true c
      rw [List.length_map] at c'
      have ej : (ns.map V.int)[j]? = some (V.int ns[j]) := by rw [List.getElem?_map, List.getElem?_eq_getElem (by omega)]; rfl
      exact ⟨_, rfl, _, rfl, l, _, _, _, rfl, rfl, hS, atI_nat ej, k _⟩
    · refine ⟨_, rfl, l, rfl, ⟨_, hS⟩, for_list (K := K) (a := l) (xs := ns.map V.int) (fun i σ H' => H' = H ∧ ∃ (z : Int) (v : Option V), σ = [some (.ref l), some (.int j), some (.int z), v] ∧ 0 ≤ z ∧ z < 1000003)
        ⟨rfl, 17, none, rfl, by decide, by decide⟩ (fun i σ H' _ h => by rw [h.1]; exact hS) ?_ ?_⟩
      · rintro i y σ H' hi ⟨rfl, z, v, rfl, hz0, hz1⟩
        obtain ⟨u, _, rfl⟩ := mapInt hi
        refine ⟨_, rfl, _, _, rfl, rfl, .inl (by omega), _, rfl, .inl ⟨_, rfl, _, _, rfl, rfl, (by show (0 : Int) < 1000003; decide), _, _, rfl, rfl, .inl ⟨_, rfl, _, _, rfl, rfl, (by show (0 : Int) < 1000003; decide), ?_⟩⟩⟩
        exact ⟨rfl, _, _, rfl, Int.emod_nonneg _ (by decide), Int.emod_lt_of_pos _ (by decide)⟩
      · rintro σ H' ⟨rfl, z, v, rfl, hz0, hz1⟩
        refine ⟨_, rfl, _, _, rfl, rfl, _, rfl, _, _, rfl, rfl, _, _, rfl, rfl, .inl (by omega), _, _, rfl, rfl, .inr (by decide), .inl ⟨_, rfl, _, _, rfl, rfl, (by show (0 : Int) < 2147483647; decide), ?_⟩⟩
        exact k _
end
end Mk

set_option Elab.async false
set_option maxRecDepth 100000
set_option maxHeartbeats 4000000
namespace Mk
open PySem L2 Pk
section
variable {P : Program} {w : World} {K : PySem.W.Frag} {mg : PySem.Str → Option Value} {base : Heap}
/-! _law_digits: so many digits, each below its size -/
def Digs (sizes row : List Int) : Prop := row.length = sizes.length ∧ ∀ (i : Nat) (s : Int), sizes[i]? = some s → ∃ d, row[i]? = some d ∧ 0 ≤ d ∧ d < s
def spDigits (K : PySem.W.Frag) : Sp := fun vs H Q _ => ∃ (c : Int) (l : Addr) (sizes : List Int), vs = [.int c, .ref l] ∧ SqL K H l (sizes.map V.int) ∧ sizes.length ≤ 10000 ∧ (∀ s ∈ sizes, 0 < s ∧ s < 2 ^ 200) ∧
  ∀ (row : List Int) (p : Addr) (H' : Hp), Digs sizes row → H p = none → Same H H' → H' p = some (.lst (row.map V.int)) → Q (.ref p) H'
theorem map_snoc (row : List Int) (d : Int) : row.map V.int ++ [V.int d] = (row ++ [d]).map V.int := by rw [List.map_append]; rfl
theorem digs_nil : Digs [] [] := ⟨rfl, fun i s e => by simp at e⟩
theorem take_succ_of {α : Type} {l : List α} {i : Nat} {x : α} (h : l[i]? = some x) : l.take (i + 1) = l.take i ++ [x] := by
  rw [List.take_add_one, h]
  rfl
theorem digs_snoc {sizes row : List Int} {i : Nat} {s d : Int} (h : Digs (sizes.take i) row) (e : sizes[i]? = some s) (h0 : 0 ≤ d) (h1 : d < s) : Digs (sizes.take (i + 1)) (row ++ [d]) := by
  rw [take_succ_of e]
  obtain ⟨hl, hd⟩ := h
  refine ⟨by rw [List.length_append, List.length_append, hl]; rfl, fun j t ej => ?_⟩
  by_cases c : j < (sizes.take i).length
  · rw [List.getElem?_append_left c] at ej
    obtain ⟨x, e1, e2⟩ := hd j t ej
    exact ⟨x, by rw [List.getElem?_append_left (by omega)]; exact e1, e2⟩
  · have cj : j = (sizes.take i).length := by
      have q := (List.getElem?_eq_some_iff.mp ej).1
      rw [List.length_append, List.length_singleton] at q
      omega
    rw [cj, List.getElem?_append_right (Nat.le_refl _), Nat.sub_self] at ej
    cases ej
    exact ⟨d, by rw [cj, List.getElem?_append_right (by omega), hl, Nat.sub_self]; rfl, h0, h1⟩
theorem scDigits : FnScope ["cell", "sizes", "row", "rest", "size", "seed", "k", "twice"] ["cell", "sizes"] (defScope sDigits) := ⟨rfl, rfl, rfl, by decide +kernel, rfl, by decide +kernel, by decide +kernel⟩
theorem ok_digits {f : Addr} {fd : FuncData} (F : Fun K "_law_digits" "_law_digits" sDigits f fd) (T : TM mg) : FnOk P w K mg base CX0 1 f fd ["cell", "sizes"] (spDigits K) := by
  refine F.ok scDigits (fun vs H Q E h => ?_) (fun cdv A outer s H vs Q E hr h => ?_)
  · obtain ⟨c, l, sizes, rfl, _⟩ := h
    rfl
  · obtain ⟨c, l, sizes, rfl, hS, hl, hz, k⟩ := h
    refine ⟨_, pss_cons (ps_set (i := 2) scDigits.nd rfl (Or.inl rfl) (pe_lst pa_nil))
      (pss_cons (ps_set (i := 3) scDigits.nd rfl (Or.inl rfl) (pe_callTy call_int1 (by rfl) T.int PyProof.Rows.Boot.int (pa_cons (pv 0) pa_nil)))
      (pss_cons (ps_if (pt_cmp (pc_ge (pv 3) (pe_op op_pow pe_int pe_int)))
        (pss_cons (ps_set (i := 3) scDigits.nd rfl (Or.inl rfl) (pe_op op_sub (pv 3) (pe_op op_pow pe_int pe_int)))
        (pss_cons (ps_for PassesOwn.never rfl (pi_list (pv 1)) (pg_name (i := 4) scDigits.nd rfl (Or.inl rfl))
          (pss_cons (ps_expr (pe_bm PySem.F.plainAttrs_list PySem.F.slot_list_append PySem.F.type_list_append mt_append (pv 2) (pa_cons (pe_op op_mod (pe_callTy call_int1 (by rfl) T.int PyProof.Rows.Boot.int (pa_cons (pv 3) pa_nil)) (pv 4)) pa_nil)))
          (pss_one (ps_set (i := 3) scDigits.nd rfl (Or.inl rfl) (pe_op op_fdivW (pe_callTy call_int1 (by rfl) T.int PyProof.Rows.Boot.int (pa_cons (pv 3) pa_nil)) (pv 4))))))
        (pss_one (ps_ret (pv 2))))) pss_nil)
      (pss_cons (ps_set (i := 5) scDigits.nd rfl (Or.inl rfl) (pe_op op_mod (pe_callTy call_int1 (by rfl) T.int PyProof.Rows.Boot.int (pa_cons (pv 3) pa_nil)) pe_int))
      (pss_cons (ps_for PassesOwn.never rfl (pi_range1 (by rfl) T.range (pa_cons (pe_callB call_len_seq (by rfl) T.len PySem.boot_len (pa_cons (pv 1) pa_nil)) pa_nil)) (pg_name (i := 6) scDigits.nd rfl (Or.inl rfl))
        (pss_cons (ps_set (i := 5) scDigits.nd rfl (Or.inl rfl) (pe_op op_mod (pe_callTy call_int1 (by rfl) T.int PyProof.Rows.Boot.int (pa_cons (pe_op op_add (pe_op op_add (pe_op op_mul (pv 5) pe_int) (pe_op op_mul pe_int (pv 6))) pe_int) pa_nil)) pe_int))
        (pss_cons (ps_set (i := 7) scDigits.nd rfl (Or.inl rfl) (pe_op op_mod (pe_callTy call_int1 (by rfl) T.int PyProof.Rows.Boot.int (pa_cons (pe_op op_mul (pv 5) (pe_op op_add (pe_op op_fdiv (pv 5) pe_int) pe_int)) pa_nil)) pe_int))
        (pss_one (ps_expr (pe_bm PySem.F.plainAttrs_list PySem.F.slot_list_append PySem.F.type_list_append mt_append (pv 2) (pa_cons (pe_op op_mod (pe_op op_fdiv (pv 7) pe_int) (pe_ix ix_list (pv 1) (pv 6) fun _ _ => rfl)) pa_nil)))))))
      (pss_one (ps_ret (pv 2))))))), ?_⟩
    refine ⟨Nat.zero_le _, fun p hp => ?_⟩
    have s0 : Same H (upd H p (.lst [])) := same_new hp
    refine ⟨_, rfl, .inl ⟨c, rfl, ?_⟩⟩
    refine ⟨_, rfl, _, _, rfl, rfl, ⟨by decide, by decide, by decide⟩, _, _, rfl, rfl, _, rfl, ?_⟩
    refine ite2 (fun cc => ?_) (fun cc => ?_)
    · refine ⟨_, rfl, _, _, rfl, rfl, ⟨by decide, by decide, by decide⟩, _, _, rfl, rfl, ?_⟩
      refine ⟨_, rfl, l, rfl, ⟨_, s0.seq hS⟩, for_list (K := K) (a := l) (xs := sizes.map V.int) (fun i σ H' => Same H H' ∧ ∃ (r : Int) (row : List Int) (v : Option V), σ = [some (.int c), some (.ref l), some (.ref p), some (.int r), v, none, none, none] ∧ H' p = some (.lst (row.map V.int)) ∧ Digs (sizes.take i) row)
        ⟨s0, _, [], none, rfl, upd_same, digs_nil⟩ (fun i σ H' _ h => h.1.seq hS) ?_ ?_⟩
      · rintro i y σ H' hi ⟨s1, r, row, v, rfl, hrow, dg⟩
        obtain ⟨u, eu, rfl⟩ := mapInt hi
        obtain ⟨u0, u1⟩ := hz u (List.mem_of_getElem? eu)
        have hi2 : i < sizes.length := (List.getElem?_eq_some_iff.mp eu).1
        have lr : row.length ≤ i := by rw [dg.1, List.length_take]; omega
        refine ⟨_, rfl, .inl ⟨rfl, _, SqL.of hrow⟩, _, rfl, .inl ⟨_, rfl, _, rfl, _, _, rfl, rfl, u0, p, _, _, rfl, rfl, hrow, ?_, ?_⟩⟩
        · rw [List.length_map]
          exact small100k (by omega)
        refine ⟨_, rfl, .inl ⟨_, rfl, _, rfl, _, _, rfl, rfl, ⟨u0, ?_⟩, ?_⟩⟩
        · exact (wide_div (i := r) (b := 200) u0 (by omega) (by decide) (by decide)).2
        refine ⟨same_mut s1 hp, _, row ++ [r % u], _, rfl, ?_, digs_snoc dg eu (Int.emod_nonneg _ (by omega)) (Int.emod_lt_of_pos _ u0)⟩
        rw [upd_same, List.map_append]
        rfl
      · rintro σ H' ⟨s1, r, row, v, rfl, hrow, dg⟩
        rw [List.length_map, List.take_length] at dg
        exact ⟨_, rfl, k row p H' dg hp s1 hrow⟩
    · refine ⟨_, rfl, .inl ⟨_, rfl, _, _, rfl, rfl, (by show (0 : Int) < 2147483629; decide), ?_⟩⟩
      refine ⟨_, rfl, l, _, rfl, .inl (s0.seq hS), ?_⟩
      rw [List.length_map]
      refine ⟨_, rfl, by omega, by omega, for_range (lo := 0) (n := ((sizes.length : Int)).toNat) (fun i σ H' => Same H H' ∧ ∃ (sd : Int) (row : List Int) (v v2 : Option V), σ = [some (.int c), some (.ref l), some (.ref p), some (.int c), none, some (.int sd), v, v2] ∧ 0 ≤ sd ∧ sd < 2 ^ 40 ∧ H' p = some (.lst (row.map V.int)) ∧ Digs (sizes.take i) row)
        ⟨s0, _, [], none, none, rfl, Int.emod_nonneg _ (by decide), Int.lt_trans (Int.emod_lt_of_pos _ (by decide)) (by decide), upd_same, digs_nil⟩ ?_ ?_⟩
      · rintro i σ H' hi ⟨s1, sd, row, v, v2, rfl, h0, h1, hrow, dg⟩
        have hi2 : i < sizes.length := by omega
        have eu : sizes[i]? = some sizes[i] := List.getElem?_eq_getElem hi2
        obtain ⟨u0, u1⟩ := hz _ (List.mem_of_getElem? eu)
        have lr : row.length ≤ i := by rw [dg.1, List.length_take]; omega
        have ei : (0 : Int) + (i : Int) = (i : Int) := by omega
        refine ⟨_, rfl, _, _, rfl, rfl, .inl (by omega), _, rfl, _, _, rfl, rfl, .inl (by decide), _, _, rfl, rfl, _, _, rfl, rfl, .inl ⟨_, rfl, _, _, rfl, rfl, (by show (0 : Int) < 2147483647; decide), ?_⟩⟩
        have b0 := Int.emod_nonneg (sd * 48271 + 974711 * (0 + (i : Int)) + 12345) (show (2147483647 : Int) ≠ 0 by decide)
        have b1 := Int.emod_lt_of_pos (sd * 48271 + 974711 * (0 + (i : Int)) + 12345) (show (0 : Int) < 2147483647 by decide)
        refine ⟨_, rfl, _, rfl, _, _, rfl, rfl, ⟨by decide, by decide⟩, _, _, rfl, rfl, _, _, rfl, rfl, .inl (by omega), .inl ⟨_, rfl, _, _, rfl, rfl, (by show (0 : Int) < 2147483629; decide), ?_⟩⟩
        refine ⟨_, rfl, .inl ⟨rfl, _, SqL.of hrow⟩, _, rfl, _, _, rfl, rfl, ⟨by decide, by decide⟩, _, rfl, _, rfl, l, _, (i : Int), _, rfl, by rw [ei], s1.seq hS, atI_nat (by rw [List.getElem?_map, eu]; rfl), _, _, rfl, rfl, u0, p, _, _, rfl, rfl, hrow, ?_, ?_⟩
        · rw [List.length_map]
          exact small100k (by omega)
        exact ⟨same_mut s1 hp, _, row ++ [_], _, _, rfl, b0, Int.lt_trans b1 (by decide), upd_same.trans (congrArg (fun l => some (HO.lst l)) (map_snoc row _)), digs_snoc dg eu (Int.emod_nonneg _ (by omega)) (Int.emod_lt_of_pos _ u0)⟩
      · rintro σ H' ⟨s1, sd, row, v, v2, rfl, h0, h1, hrow, dg⟩
        rw [Int.toNat_natCast, List.take_length] at dg
        exact ⟨_, rfl, k row p H' dg hp s1 hrow⟩
end
end Mk

set_option Elab.async false
set_option maxRecDepth 100000
set_option maxHeartbeats 4000000
namespace Mk
open PySem L2 Pk
section
variable {P : Program} {w : World} {K : PySem.W.Frag} {mg : PySem.Str → Option Value} {base : Heap}
/-! _law_whole -/
def spWhole : Sp := fun vs H Q _ => ∃ n : Int, vs = [.int n] ∧ Q (.bl true) H
theorem scWhole : FnScope ["value"] ["value"] (defScope sWhole) := ⟨rfl, rfl, rfl, by decide +kernel, rfl, by decide +kernel, by decide +kernel⟩
theorem ok_whole {f : Addr} {fd : FuncData} (F : Fun K "_law_whole" "_law_whole" sWhole f fd) (T : TM mg) : FnOk P w K mg base CX0 1 f fd ["value"] spWhole := by
  refine F.ok scWhole (fun vs H Q E h => ?_) (fun cdv A outer s H vs Q E hr h => ?_)
  · obtain ⟨n, rfl, _⟩ := h
    rfl
  · obtain ⟨n, rfl, k⟩ := h
    refine ⟨_, pss_one (ps_ret (pe_and (pe_callB call_isi (by rfl) T.isi (by decide +kernel) (pa_cons (pv 0) (pa_cons (pe_bltn (v := .ty "int") (by rfl) T.int PyProof.Rows.Boot.int rfl) pa_nil)))
      (pe_one (pe_not (pe_callB call_isi (by rfl) T.isi (by decide +kernel) (pa_cons (pv 0) (pa_cons (pe_bltn (v := .ty "bool") (by rfl) T.bool PyProof.Rows.Boot.bool rfl) pa_nil))))))), ?_⟩
    refine ⟨_, rfl, _, _, _, _, true, rfl, .ty _, .base (.int _), kit_ty (by decide +kernel), _, rfl, ?_⟩
    refine iteT ?_
    refine ⟨_, rfl, _, _, _, _, false, rfl, .ty _, .base (.int _), kit_ty (by decide +kernel), _, rfl, k⟩
/-! _law_same -/
def depthOk : Nat → PyData → Prop
  | _, .none => True
  | _, .bool _ => True
  | _, .int _ => True
  | _, .str _ => True
  | 0, .tuple _ => False
  | n + 1, .tuple ds => ds.length ≤ 100000 ∧ ∀ d ∈ ds, depthOk n d
  | _, .list _ => False
  | _, .dict _ => False
def spSame (K : PySem.W.Frag) (n : Nat) : Sp := fun vs H Q _ => ∃ (x y : V) (d : PyData), vs = [x, y] ∧ Dp K H x d ∧ Dp K H y d ∧ depthOk n d ∧ Q (.bl true) H
theorem scSame : FnScope ["told", "due", "k"] ["told", "due"] (defScope sSame) := ⟨rfl, rfl, rfl, by decide +kernel, rfl, by decide +kernel, by decide +kernel⟩
theorem tyx_tup {H : Hp} {a : Addr} {xs : List V} (h : SqT K H a xs) : TyX K H (.ref a) (.type "tuple") := by
  rcases h with (h | ⟨o, h⟩) | ⟨o, its, n, h, hc, _⟩
  · exact .base (.tup h)
  · exact .fTuple h
  · exact .kTuple h hc
theorem depthOk_list {n : Nat} {ds : List PyData} (h : depthOk n (.list ds)) : False := by cases n <;> exact h
theorem depthOk_dict {n : Nat} {ds : List (PyData × PyData)} (h : depthOk n (.dict ds)) : False := by cases n <;> exact h
def ifThen (s : Stmt) : List Stmt := match s with
  | .If _ b _ _ => b
  | _ => []
theorem same_of {f fW : Addr} {fd fdW : FuncData} (F : Fun K "_law_same" "_law_same" sSame f fd) (T : TM mg) (GW : FnOk P w K mg base CX0 1 fW fdW ["value"] spWhole) (kW : PySem.W.keepIn K (.ref fW) = true) (bW : Binds K fdW ["value"] []) (gW : mg "_law_whole" = some (.ref fW)) (n : Nat)
    (loop : ∀ (cdv : Value) (A : Around) (outer : List Env) (s : Shared) (H : Hp) (E : XK), Room (n + 1) (A.deeper (PyProof.Rows.envOfC "_law_same" (defScope sSame) s.heap.objs.size f cdv)) →
      ∃ tb : TS, PSs (cxOf CX0 P w K mg base ["told", "due", "k"] "_law_same" (defScope sSame) f cdv A outer s H E).nox (ifThen ((defBody sSame).getD 0 (.Pass ⟨0, 0, 0, 0⟩))) tb ∧
        ∀ (ds : List PyData) (D : Ends), depthOk n (.tuple ds) → ∀ (x y : V), Dp K H x (.tuple ds) → Dp K H y (.tuple ds) → D.rt (.bl true) H → tb D [some x, some y, none] H) :
    FnOk P w K mg base CX0 (n + 2) f fd ["told", "due"] (spSame K n) := by
  refine F.ok scSame (fun vs H Q E h => ?_) (fun cdv A outer s H vs Q E hr h => ?_)
  · obtain ⟨x, y, d, rfl, _⟩ := h
    rfl
  · obtain ⟨x, y, d, rfl, hx, hy, hd, k⟩ := h
    have hr1 : Room 1 _ := hr.mono (by omega)
    obtain ⟨tb, hb, hbt⟩ := loop cdv A outer s H E hr
    refine ⟨_, pss_cons (ps_if (pt_val (pe_callB call_isi (by rfl) T.isi (by decide +kernel) (pa_cons (pv 1) (pa_cons (pe_bltn (v := .ty "tuple") (by rfl) T.tuple PyProof.Rows.Boot.tuple rfl) pa_nil)))) hb pss_nil)
      (pss_cons (ps_if (pt_cmp (pc_isN (pv 1))) (pss_one (ps_ret (pe_cmp (pc_isN (pv 0)) rfl))) pss_nil)
      (pss_cons (ps_if (pt_val (pe_callB call_isi (by rfl) T.isi (by decide +kernel) (pa_cons (pv 1) (pa_cons (pe_bltn (v := .ty "bool") (by rfl) T.bool PyProof.Rows.Boot.bool rfl) pa_nil))))
        (pss_one (ps_ret (pe_and (pe_callB call_isi (by rfl) T.isi (by decide +kernel) (pa_cons (pv 0) (pa_cons (pe_bltn (v := .ty "bool") (by rfl) T.bool PyProof.Rows.Boot.bool rfl) pa_nil))) (pe_one (pe_cmpR op_eq (pv 0) (pv 1) (nomark _)))))) pss_nil)
      (pss_cons (ps_if (pt_val (pe_callB call_isi (by rfl) T.isi (by decide +kernel) (pa_cons (pv 1) (pa_cons (pe_bltn (v := .ty "int") (by rfl) T.int PyProof.Rows.Boot.int rfl) pa_nil))))
        (pss_one (ps_ret (pe_and (pe_call GW hr1 (by rfl) gW kW bW .nil pass0 (pa_cons (pv 0) pa_nil)) (pe_one (pe_cmpR op_eq (pv 0) (pv 1) (nomark _)))))) pss_nil)
      (pss_one (ps_ret (pe_and (pe_callB call_isi (by rfl) T.isi (by decide +kernel) (pa_cons (pv 0) (pa_cons (pe_bltn (v := .ty "str") (by rfl) T.str PyProof.Rows.Boot.str rfl) pa_nil))) (pe_one (pe_cmpR op_eq (pv 0) (pv 1) (nomark _))))))))), ?_⟩
    cases d with
    | none =>
      cases hx
      cases hy
      refine ⟨_, rfl, _, _, _, _, false, rfl, .ty _, .base .non, kit_ty (by decide +kernel), _, rfl, ?_⟩
      refine iteF ?_
      refine ⟨_, rfl, _, rfl, ?_⟩
      refine iteT ?_
      exact ⟨_, rfl, k⟩
    | bool b =>
      cases hx
      cases hy
      refine ⟨_, rfl, _, _, _, _, false, rfl, .ty _, .base (.bl _), kit_ty (by decide +kernel), _, rfl, ?_⟩
      refine iteF ?_
      refine ⟨_, rfl, _, rfl, ?_⟩
      refine iteF ?_
      refine ⟨_, rfl, _, _, _, _, true, rfl, .ty _, .base (.bl _), kit_ty (by decide +kernel), _, rfl, ?_⟩
      refine iteT ?_
      refine ⟨_, rfl, _, _, _, _, true, rfl, .ty _, .base (.bl _), kit_ty (by decide +kernel), _, rfl, ?_⟩
      refine iteT ?_
      refine ⟨_, rfl, _, rfl, rfl, ?_⟩
      rw [decide_eq_true rfl]
      exact k
    | int i =>
      cases hx
      cases hy
      refine ⟨_, rfl, _, _, _, _, false, rfl, .ty _, .base (.int _), kit_ty (by decide +kernel), _, rfl, ?_⟩
      refine iteF ?_
      refine ⟨_, rfl, _, rfl, ?_⟩
      refine iteF ?_
      refine ⟨_, rfl, _, _, _, _, false, rfl, .ty _, .base (.int _), kit_ty (by decide +kernel), _, rfl, ?_⟩
      refine iteF ?_
      refine ⟨_, rfl, _, _, _, _, true, rfl, .ty _, .base (.int _), kit_ty (by decide +kernel), _, rfl, ?_⟩
      refine iteT ?_
      refine ⟨_, rfl, _, rfl, _, rfl, ?_⟩
      refine iteT ?_
      refine ⟨_, rfl, _, rfl, rfl, ?_⟩
      rw [decide_eq_true rfl]
      exact k
    | str z =>
      cases hx
      cases hy
      refine ⟨_, rfl, _, _, _, _, false, rfl, .ty _, .base (.str _), kit_ty (by decide +kernel), _, rfl, ?_⟩
      refine iteF ?_
      refine ⟨_, rfl, _, rfl, ?_⟩
      refine iteF ?_
      refine ⟨_, rfl, _, _, _, _, false, rfl, .ty _, .base (.str _), kit_ty (by decide +kernel), _, rfl, ?_⟩
      refine iteF ?_
      refine ⟨_, rfl, _, _, _, _, false, rfl, .ty _, .base (.str _), kit_ty (by decide +kernel), _, rfl, ?_⟩
      refine iteF ?_
      refine ⟨_, rfl, _, _, _, _, true, rfl, .ty _, .base (.str _), kit_ty (by decide +kernel), _, rfl, ?_⟩
      refine iteT ?_
      refine ⟨_, rfl, _, rfl, rfl, ?_⟩
      rw [decide_eq_true rfl]
      exact k
    | list ds => exact (depthOk_list hd).elim
    | tuple ds =>
      have hx' := hx
      have hy' := hy
      cases hx with
      | tup hsx hax =>
        cases hy with
        | tup hsy hay =>
          refine ⟨_, rfl, _, _, _, _, true, rfl, .ty _, tyx_tup hsy, kit_ty (by decide +kernel), _, rfl, ?_⟩
          refine iteT ?_
          exact hbt ds _ hd _ _ hx' hy' k
    | dict ds => exact (depthOk_dict hd).elim
theorem ok_same {f fW : Addr} {fd fdW : FuncData} (F : Fun K "_law_same" "_law_same" sSame f fd) (T : TM mg) (FW : Fun K "_law_whole" "_law_whole" sWhole fW fdW) (bW : Binds K fdW ["value"] []) (gW : mg "_law_whole" = some (.ref fW))
    (bS : Binds K fd ["told", "due"] []) (gS : mg "_law_same" = some (.ref f)) : ∀ n : Nat, FnOk P w K mg base CX0 (n + 2) f fd ["told", "due"] (spSame K n) := by
  have GW : FnOk P w K mg base CX0 1 fW fdW ["value"] spWhole := ok_whole FW T
  intro n
  induction n with
  | zero => exact same_of F T GW FW.kp bW gW 0 fun cdv A outer s H E hr => ⟨_, pss_never, fun ds D hd => hd.elim⟩
  | succ n ih =>
    refine same_of F T GW FW.kp bW gW (n + 1) fun cdv A outer s H E hr => ?_
    refine ⟨_, pss_cons (ps_if (PW.pt (pw_or (pt_not (pt_val (pe_callB call_isi (by rfl) T.isi (by decide +kernel) (pa_cons (pv 0) (pa_cons (pe_bltn (v := .ty "tuple") (by rfl) T.tuple PyProof.Rows.Boot.tuple rfl) pa_nil)))))
        (pw_or1 (pt_cmpR op_ne (pe_callB call_len_seq (by rfl) T.len PySem.boot_len (pa_cons (pv 0) pa_nil)) (pe_callB call_len_seq (by rfl) T.len PySem.boot_len (pa_cons (pv 1) pa_nil)) (nomark _))))) (pss_one (ps_ret pe_bl)) pss_nil)
      (pss_cons (ps_for PassesOwn.never rfl (pi_range1 (by rfl) T.range (pa_cons (pe_callB call_len_seq (by rfl) T.len PySem.boot_len (pa_cons (pv 1) pa_nil)) pa_nil)) (pg_name (i := 2) scSame.nd rfl (Or.inl rfl))
        (pss_one (ps_if (pt_not (pt_val (pe_call ih hr (by rfl) gS F.kp bS .nil pass0 (pa_cons (pe_ix ix_seq (pv 0) (pv 2) fun _ _ => rfl) (pa_cons (pe_ix ix_seq (pv 1) (pv 2) fun _ _ => rfl) pa_nil))))) (pss_one (ps_ret pe_bl)) pss_nil)))
      (pss_one (ps_ret pe_bl))), fun ds D hd x y hx hy k => ?_⟩
    cases hx with
    | @tup a xs _ hsx hax =>
    cases hy with
    | @tup b ys _ hsy hay =>
    have lx := dpa_len hax
    have ly := dpa_len hay
    refine ⟨_, rfl, _, _, _, _, true, rfl, .ty _, tyx_tup hsx, kit_ty (by decide +kernel), _, rfl, ?_⟩
    refine iteF ?_
    refine ⟨_, rfl, a, xs, rfl, .inr hsx, _, rfl, b, ys, rfl, .inr hsy, rfl, _, rfl, ?_⟩
    refine iteNS (by rw [lx, ly]) ?_
    have hl : ys.length ≤ 100000 := by rw [ly]; exact hd.1
    refine ⟨_, rfl, b, ys, rfl, .inr hsy, _, rfl, by omega, by omega, for_range (lo := 0) (n := ((ys.length : Int)).toNat) (fun i σ H' => H' = H ∧ ∃ v : Option V, σ = [some (.ref a), some (.ref b), v])
      ⟨rfl, none, rfl⟩ ?_ ?_⟩
    · rintro i σ H' hi ⟨rfl, v, rfl⟩
      have hi' : i < ys.length := by omega
      have ex : xs[i]? = some xs[i] := List.getElem?_eq_getElem (by omega)
      have ey : ys[i]? = some ys[i] := List.getElem?_eq_getElem hi'
      obtain ⟨d1, e1, q1⟩ := dpa_get hax ex
      obtain ⟨d2, e2, q2⟩ := dpa_get hay ey
      rw [e1] at e2
      cases e2
      have ei : (0 : Int) + (i : Int) = (i : Int) := by omega
      refine ⟨_, rfl, _, rfl, .inr (.inl ⟨a, xs, (i : Int), _, rfl, by rw [ei], hsx, atI_nat ex, _, rfl, _, rfl, .inr (.inl ⟨b, ys, (i : Int), _, rfl, by rw [ei], hsy, atI_nat ey, ?_⟩)⟩)⟩
      refine ⟨_, _, d1, rfl, q1, q2, hd.2 d1 (List.mem_of_getElem? e1), _, rfl, ?_⟩
      refine iteF ?_
      exact ⟨rfl, _, rfl⟩
    · rintro σ H' ⟨rfl, v, rfl⟩
      exact k
end
end Mk

set_option Elab.async false
set_option maxRecDepth 100000
set_option maxHeartbeats 4000000
namespace Mk
open PySem L2 Pk
/-! texts of signs -/
abbrev sgn1 (c : Nat) : PySem.Str := ⟨#[c]⟩
theorem joinL_one : ∀ cs : List Nat, TL.joinL [] (cs.map fun c => [c]) = cs
  | [] => rfl
  | [c] => rfl
  | c :: d :: r => by
    show [c] ++ ([] ++ TL.joinL [] ((d :: r).map fun c => [c])) = c :: d :: r
    rw [joinL_one (d :: r)] <;> rfl
theorem join_signs (cs : List Nat) : Txt.join (PySem.Str.ofString "") (cs.map sgn1) = ⟨cs.toArray⟩ := by
  have e : cs.map sgn1 = (cs.map fun c => [c]).map SX.S := by
    rw [List.map_map]
    exact List.map_congr_left fun c _ => rfl
  have z : PySem.Str.ofString "" = SX.S [] := by decide +kernel
  rw [e, z, SX.join_S, joinL_one] <;> rfl
def abc (p : Nat → Bool) : List Nat := ((List.range 26).filter p).map (97 + ·)
theorem abc_low {p : Nat → Bool} {c : Nat} (h : c ∈ abc p) : 97 ≤ c ∧ c ≤ 122 := by
  obtain ⟨k, m, rfl⟩ := List.mem_map.mp h
  have z := List.mem_range.mp (List.mem_filter.mp m).1
  omega
theorem alpha_of {cs : List Nat} (low : ∀ c ∈ cs, 97 ≤ c ∧ c ≤ 122) (pos : 1 ≤ cs.length) (most : cs.length ≤ 26) (up : cs.Pairwise (· < ·)) : Alpha ⟨cs.toArray⟩ where
  low := by
    show cs.all lowC = true
    rw [List.all_eq_true]
    intro c m
    unfold lowC
    rw [decide_eq_true (low c m).1, decide_eq_true (low c m).2] <;> rfl
  pos := pos
  most := most
  up := fun i c d e1 e2 => by
    have e1' : cs[i]? = some c := e1
    have e2' : cs[i + 1]? = some d := e2
    obtain ⟨h1, rfl⟩ := List.getElem?_eq_some_iff.mp e1'
    obtain ⟨h2, rfl⟩ := List.getElem?_eq_some_iff.mp e2'
    exact List.pairwise_iff_getElem.mp up i (i + 1) h1 h2 (Nat.lt_succ_self i)
theorem alpha_abc {p : Nat → Bool} (h : ∃ k, k < 26 ∧ p k = true) : Alpha ⟨(abc p).toArray⟩ := by
  refine alpha_of (fun c m => abc_low m) ?_ ?_ ?_
  · obtain ⟨k, lt, e⟩ := h
    have m : k ∈ (List.range 26).filter p := List.mem_filter.mpr ⟨List.mem_range.mpr lt, e⟩
    unfold abc
    rw [List.length_map]
    exact List.length_pos_of_mem m
  · unfold abc
    rw [List.length_map]
    exact Nat.le_trans (List.length_filter_le _ _) (by rw [List.length_range]; exact Nat.le_refl _)
  · unfold abc
    rw [List.pairwise_map]
    exact (List.pairwise_lt_range (n := 26)).filter p |>.imp fun h => by omega
theorem alpha_one {c : Nat} (h : 97 ≤ c ∧ c ≤ 122) : Alpha (sgn1 c) := alpha_of (cs := [c]) (fun d m => by rw [List.mem_singleton.mp m]; exact h) (Nat.le_refl _) (show 1 ≤ 26 by decide) (List.pairwise_singleton _ _)
abbrev abc26 : PySem.Str := PySem.Str.ofString "abcdefghijklmnopqrstuvwxyz"
theorem abc26_eq : abc26 = ⟨(abc fun _ => true).toArray⟩ := by decide +kernel
theorem abc26_at {k : Nat} (h : k < 26) : abc26.cps.toList[k]? = some (97 + k) := by
  have all : ∀ k, k < 26 → abc26.cps.toList[k]? = some (97 + k) := by decide +kernel
  exact all k h
theorem abc_snoc (p : Nat → Bool) (i : Nat) : (((List.range (i + 1)).filter p).map (97 + ·)) = (((List.range i).filter p).map (97 + ·)) ++ (if p i = true then [97 + i] else []) := by
  rw [List.range_succ, List.filter_append, List.map_append]
  by_cases c : p i = true
  · rw [List.filter_cons_of_pos c, if_pos c] <;> rfl
  · rw [List.filter_cons_of_neg c, if_neg c] <;> rfl
end Mk

set_option maxRecDepth 100000
set_option linter.all false
/-! the law's guess and the program's -/
namespace Mk
open PySem L2 Pk Sx
def adjK {κ : Type} [DecidableEq κ] : List κ → Option κ
  | a :: b :: r => if a = b then some a else adjK (b :: r)
  | _ => none
section
variable {κ α : Type} [DecidableEq κ]
def cnt (k : κ) (l : List κ) : Nat := l.count k
theorem cnt_append (k : κ) (l m : List κ) : cnt k (l ++ m) = cnt k l + cnt k m := List.count_append ..
theorem cnt_one (k : κ) : cnt k [k] = 1 := List.count_singleton_self ..
theorem cnt_zero {k : κ} {l : List κ} (h : k ∉ l) : cnt k l = 0 := List.count_eq_zero.mpr h
theorem cnt_self (k : κ) (l : List κ) : cnt k (k :: l) = cnt k l + 1 := List.count_cons_self ..
theorem cnt_ne {a k : κ} (h : a ≠ k) (l : List κ) : cnt k (a :: l) = cnt k l := List.count_cons_of_ne h
theorem go_more : ∀ (l acc : List κ), ∃ t, onceGo acc l = acc ++ t
  | [], acc => ⟨[], by simp [onceGo]⟩
  | y :: l, acc => by
    by_cases c : y ∈ acc
    · have e : onceGo acc (y :: l) = onceGo acc l := by unfold onceGo; rw [List.foldl_cons, if_pos c]
      rw [e]
      exact go_more l acc
    · have e : onceGo acc (y :: l) = onceGo (acc ++ [y]) l := by unfold onceGo; rw [List.foldl_cons, if_neg c]
      obtain ⟨t, et⟩ := go_more l (acc ++ [y])
      exact ⟨y :: t, by rw [e, et, List.append_assoc] <;> rfl⟩
theorem go_cons {a : κ} : ∀ (l acc : List κ), a ∉ l → onceGo (a :: acc) l = a :: onceGo acc l
  | [], acc, _ => rfl
  | y :: l, acc, h => by
    have ya : y ≠ a := fun e => h (by rw [e]; exact List.mem_cons_self)
    have hl : a ∉ l := fun m => h (List.mem_cons_of_mem _ m)
    by_cases c : y ∈ acc
    · have e1 : onceGo (a :: acc) (y :: l) = onceGo (a :: acc) l := by unfold onceGo; rw [List.foldl_cons, if_pos (List.mem_cons_of_mem _ c)]
      have e2 : onceGo acc (y :: l) = onceGo acc l := by unfold onceGo; rw [List.foldl_cons, if_pos c]
      rw [e1, e2]
      exact go_cons l acc hl
    · have c2 : y ∉ a :: acc := fun m => by
        rcases List.mem_cons.mp m with e | m
        · exact ya e
        · exact c m
      have e1 : onceGo (a :: acc) (y :: l) = onceGo (a :: (acc ++ [y])) l := by unfold onceGo; rw [List.foldl_cons, if_neg c2] <;> rfl
      have e2 : onceGo acc (y :: l) = onceGo (acc ++ [y]) l := by unfold onceGo; rw [List.foldl_cons, if_neg c]
      rw [e1, e2]
      exact go_cons l (acc ++ [y]) hl
theorem once_cons (a : κ) (l : List κ) : once (a :: l) = onceGo [a] l := rfl
theorem once_cons_new {a : κ} {l : List κ} (h : a ∉ l) : once (a :: l) = a :: once l := (once_cons a l).trans (go_cons l [] h)
/-- in a rising list what comes twice comes twice at once -/
theorem find_adj {lt : κ → κ → Bool} (O : Lin lt) : ∀ ks : List κ, Up lt ks → (once ks).find? (fun k => decide (1 < cnt k ks)) = adjK ks
  | [], _ => rfl
  | [a], _ => by
    have e : once [a] = [a] := rfl
    have z : decide (1 < cnt a [a]) = false := by rw [cnt_one]; rfl
    rw [e, List.find?_cons, z] <;> rfl
  | a :: b :: r, h => by
    obtain ⟨h1, h2⟩ := List.pairwise_cons.mp h
    by_cases c : a = b
    · subst c
      obtain ⟨t, et⟩ := go_more (a :: r) [a]
      have e : once (a :: a :: r) = a :: t := (once_cons a (a :: r)).trans et
      have big : decide (1 < cnt a (a :: a :: r)) = true := decide_eq_true (by rw [cnt_self, cnt_self]; omega)
      rw [e, List.find?_cons, big]
      unfold adjK
      rw [if_pos rfl]
    · have new : a ∉ b :: r := fun m => by
        rcases List.mem_cons.mp m with e | m
        · exact c e
        · have z1 := h1 b List.mem_cons_self
          have z2 := (List.pairwise_cons.mp h2).1 a m
          exact c (O.anti z2 z1)
      have n0 : cnt a (b :: r) = 0 := cnt_zero new
      have small : decide (1 < cnt a (a :: b :: r)) = false := by
        rw [cnt_self, n0]
        rfl
      rw [once_cons_new new, List.find?_cons, small]
      unfold adjK
      rw [if_neg c, ← find_adj O (b :: r) h2]
      have cong : ∀ k ∈ once (b :: r), decide (1 < cnt k (a :: b :: r)) = decide (1 < cnt k (b :: r)) := fun k m => by
        have ka : a ≠ k := fun e => new (by rw [e]; exact (once_mem _ _).mp m)
        rw [cnt_ne ka]
      show List.find? _ _ = List.find? _ _
      revert cong
      generalize once (b :: r) = l
      intro cong
      induction l with
      | nil => rfl
      | cons x l ih =>
        have ex := cong x List.mem_cons_self
        have ih2 : List.find? (fun k => decide (1 < cnt k (a :: b :: r))) l = List.find? (fun k => decide (1 < cnt k (b :: r))) l := ih fun k m => cong k (List.mem_cons_of_mem _ m)
        show List.find? (fun k => decide (1 < cnt k (a :: b :: r))) (x :: l) = List.find? (fun k => decide (1 < cnt k (b :: r))) (x :: l)
        rw [List.find?_cons, List.find?_cons, ex, ih2]
end
theorem grps_count (rs : List Rl) : ∀ g ∈ grps rs, g.2.length = cnt g.1 (rs.map Rl.k3) := by
  have gen : ∀ (l pre : List Rl), (∀ g ∈ grps pre, g.2.length = cnt g.1 (pre.map Rl.k3)) → ∀ g ∈ grps (pre ++ l), g.2.length = cnt g.1 ((pre ++ l).map Rl.k3) := by
    intro l
    induction l with
    | nil => intro pre h; simpa using h
    | cons r l ih =>
      intro pre h
      have e : pre ++ r :: l = (pre ++ [r]) ++ l := by simp
      rw [e]
      refine ih (pre ++ [r]) ?_
      rw [grps_snoc, List.map_append]
      intro g m
      rw [cnt_append]
      unfold gAdd at m
      split at m
      · rename_i c
        obtain ⟨g0, m0, rfl⟩ := List.mem_map.mp m
        have z := h g0 m0
        split
        · rename_i eq
          rw [List.length_append, z]
          show _ + 1 = cnt g0.1 _ + cnt g0.1 [r.k3]
          rw [eq, cnt_one]
        · rename_i ne
          rw [z]
          have n : cnt g0.1 [r.k3] = 0 := cnt_zero fun m => ne (List.mem_singleton.mp m)
          rw [show (List.map Rl.k3 [r]) = [r.k3] from rfl, n] <;> rfl
      · rename_i c
        rcases List.mem_append.mp m with m | m
        · have z := h g m
          have ne : g.1 ≠ r.k3 := fun eq => c (by rw [← eq]; exact List.mem_map.mpr ⟨g, m, rfl⟩)
          have n : cnt g.1 [r.k3] = 0 := cnt_zero fun m => ne (List.mem_singleton.mp m)
          rw [z, show (List.map Rl.k3 [r]) = [r.k3] from rfl, n] <;> rfl
        · rw [List.mem_singleton.mp m]
          have n : cnt r.k3 (pre.map Rl.k3) = 0 := cnt_zero fun m => c (by rw [grps_keys]; exact (once_mem _ _).mpr m)
          show 1 = cnt r.k3 _ + cnt r.k3 [r.k3]
          rw [n, cnt_one]
  exact gen rs [] fun g m => absurd m List.not_mem_nil
theorem guess_find (rs : List Rl) : guessOf (grps rs) = (once (rs.map Rl.k3)).find? fun k => decide (1 < cnt k (rs.map Rl.k3)) := by
  have ks := grps_keys rs
  have cn := grps_count rs
  unfold guessOf
  rw [← ks]
  revert cn
  generalize grps rs = G
  intro cn
  induction G with
  | nil => rfl
  | cons g G ih =>
    rw [List.map_cons, List.find?_cons, List.find?_cons, cn g List.mem_cons_self]
    cases decide (1 < cnt g.1 (rs.map Rl.k3)) with
    | true => rfl
    | false => exact ih fun x m => cn x (List.mem_cons_of_mem _ m)
theorem k3_up {x y : Rl} (h : ltT y.key x.key = false) : ltT y.k3 x.k3 = false := by
  have pre : ∀ (as bs cs ds : List Key), as.length = bs.length → as ≠ bs → ltT (as ++ cs) (bs ++ ds) = ltT as bs := by
    intro as
    induction as with
    | nil =>
      intro bs cs ds e ne
      cases bs with
      | nil => exact absurd rfl ne
      | cons => cases e
    | cons a as ih =>
      intro bs cs ds e ne
      cases bs with
      | nil => cases e
      | cons b bs =>
        show (if a = b then ltT (as ++ cs) (bs ++ ds) else ltKey a b) = if a = b then ltT as bs else ltKey a b
        by_cases c : a = b
        · rw [if_pos c, if_pos c]
          exact ih bs cs ds (Nat.succ.inj e) fun z => ne (by rw [c, z])
        · rw [if_neg c, if_neg c]
  by_cases c : y.k3 = x.k3
  · rw [c]; exact lin_tup.irr _
  · have z := pre y.k3 x.k3 y.a5 x.a5 rfl c
    rw [← z]
    exact h
theorem guess_adj {l : List Rl} (up : l.Pairwise fun x y => ltT y.key x.key = false) : guessOf (grps l) = adjK (l.map Rl.k3) := by
  rw [guess_find]
  exact find_adj lin_tup _ (List.pairwise_map.mpr (up.imp fun h => k3_up h))
theorem rulesOf_up (rs : List Rl) : (rulesOf rs).Pairwise fun x y => ltT y.key x.key = false := by
  have z := lin_tup.asc_up (rs.map Rl.key)
  rw [← rulesOf_keys] at z
  exact List.pairwise_map.mp z
end Mk

set_option maxRecDepth 100000
set_option linter.all false
/-! what is due, as data -/
namespace Mk
open PySem L2 Pk Sx
def keyD : Key → PyData
  | .inl n => .int n
  | .inr x => .str x
def rlD (r : Rl) : PyData := .tuple (r.key.map keyD)
def guessD : Option (List Key) → PyData
  | none => .none
  | some k => .tuple (k.map keyD)
def symsL (rs : List Rl) : List PySem.Str := asc ltText ((rs.map Rl.tp ++ rs.map Rl.sy).filter fun x => decide (x ≠ nil0))
def dueD (l : PySem.Str) (n : Int) (rs : List Rl) (ys : List Int) : PyData :=
  .tuple [.str l, .int n, .tuple ((rulesOf rs).map rlD), .tuple ((intsOf ys).map .int), .tuple ((symsL rs).map .str), guessD (adjK ((rulesOf rs).map Rl.k3))]
theorem rulesOf_mem (rs : List Rl) (r : Rl) : r ∈ rulesOf rs ↔ r ∈ rs := by
  have e : r.key ∈ (rulesOf rs).map Rl.key ↔ r.key ∈ rs.map Rl.key := by rw [rulesOf_keys, asc_mem]
  constructor
  · intro m
    obtain ⟨q, mq, eq⟩ := List.mem_map.mp (e.mp (List.mem_map.mpr ⟨r, m, rfl⟩))
    rw [← key_inj eq]
    exact mq
  · intro m
    obtain ⟨q, mq, eq⟩ := List.mem_map.mp (e.mpr (List.mem_map.mpr ⟨r, m, rfl⟩))
    rw [← key_inj eq]
    exact mq
theorem rulesOf_len (rs : List Rl) : (rulesOf rs).length ≤ rs.length := by
  unfold rulesOf
  rw [List.length_map]
  refine Nat.le_trans (asc_len _ _) ?_
  rw [List.length_map]
  exact Nat.le_refl _
theorem syms_same (rs : List Rl) : symsOf (rulesOf rs) = symsL rs := by
  unfold symsOf symsL
  refine lin_text.is_asc ?_ (lin_text.srt_up _) fun x => ?_
  · exact (srt_perm _ _).nodup_iff.mpr ((once_nodup _).filter _)
  · rw [(srt_perm _ _).mem_iff, List.mem_filter, List.mem_filter, once_mem, List.mem_append, List.mem_append]
    have tp : x ∈ (rulesOf rs).map Rl.tp ↔ x ∈ rs.map Rl.tp := by
      rw [List.mem_map, List.mem_map]
      exact ⟨fun ⟨r, m, e⟩ => ⟨r, (rulesOf_mem rs r).mp m, e⟩, fun ⟨r, m, e⟩ => ⟨r, (rulesOf_mem rs r).mpr m, e⟩⟩
    have sy : x ∈ (rulesOf rs).map Rl.sy ↔ x ∈ rs.map Rl.sy := by
      rw [List.mem_map, List.mem_map]
      exact ⟨fun ⟨r, m, e⟩ => ⟨r, (rulesOf_mem rs r).mp m, e⟩, fun ⟨r, m, e⟩ => ⟨r, (rulesOf_mem rs r).mpr m, e⟩⟩
    rw [tp, sy]
theorem guess_same (rs : List Rl) : guessOf (grps (rulesOf rs)) = adjK ((rulesOf rs).map Rl.k3) := guess_adj (rulesOf_up rs)
theorem adjK_step {κ : Type} [DecidableEq κ] : ∀ {l : List κ} {i : Nat} {a b : κ}, l[i]? = some a → l[i + 1]? = some b →
    adjK (l.take (i + 2)) = match adjK (l.take (i + 1)) with | some k => some k | none => if a = b then some a else none
  | [], i, a, b, e, _ => by simp at e
  | [x], i, a, b, _, e => by simp at e
  | x :: y :: r, 0, a, b, e1, e2 => by
    simp at e1 e2
    subst e1; subst e2
    show adjK [x, y] = _
    have z : adjK ((x :: y :: r).take (0 + 1)) = none := rfl
    rw [z]
    rfl
  | x :: y :: r, i + 1, a, b, e1, e2 => by
    have ih := adjK_step (l := y :: r) (i := i) (a := a) (b := b) (by simpa using e1) (by simpa using e2)
    have t1 : (x :: y :: r).take (i + 1 + 2) = x :: y :: r.take (i + 1) := rfl
    have t2 : (x :: y :: r).take (i + 1 + 1) = x :: y :: r.take i := rfl
    have t3 : (y :: r).take (i + 2) = y :: r.take (i + 1) := rfl
    have t4 : (y :: r).take (i + 1) = y :: r.take i := rfl
    rw [t1, t2]
    rw [t3, t4] at ih
    show (if x = y then some x else adjK (y :: r.take (i + 1))) = _
    rw [show adjK (x :: y :: r.take i) = if x = y then some x else adjK (y :: r.take i) from rfl]
    by_cases c : x = y
    · rw [if_pos c, if_pos c]
    · rw [if_neg c, if_neg c, ih]
/-! data in the heap -/
section
variable {K : PySem.W.Frag} {H : Hp}
theorem dpa_keys : ∀ k : List Key, DpAll K H (k.map kV) (k.map keyD)
  | [] => .nil
  | .inl n :: k => .cons (.int n) (dpa_keys k)
  | .inr x :: k => .cons (.str x) (dpa_keys k)
theorem dp_keys {p : Addr} {k : List Key} (h : H p = some (.tup (k.map kV))) : Dp K H (.ref p) (.tuple (k.map keyD)) := .tup (.inl (.inl h)) (dpa_keys k)
theorem dpa_rules : ∀ {R : Kept}, KeptAt H R → DpAll K H (refsK R) ((R.map (·.2)).map rlD)
  | [], _ => .nil
  | p :: R, h => .cons (dp_keys (k := p.2.key) (h p List.mem_cons_self)) (dpa_rules fun q m => h q (List.mem_cons_of_mem _ m))
theorem dpa_ints : ∀ ys : List Int, DpAll K H (ys.map V.int) (ys.map .int)
  | [] => .nil
  | y :: ys => .cons (.int y) (dpa_ints ys)
theorem dpa_strs : ∀ xs : List PySem.Str, DpAll K H (xs.map V.str) (xs.map .str)
  | [] => .nil
  | x :: xs => .cons (.str x) (dpa_strs xs)
theorem dp_guess {v : V} {g : Option (List Key)} (h : GuessV H v g) : Dp K H v (guessD g) := by
  cases g with
  | none =>
    have e : v = .non := h
    rw [e]
    exact .non
  | some k =>
    obtain ⟨q, e, t⟩ := h
    rw [e]
    exact dp_keys t
end
/-- the six attributes, or what is due of them -/
structure DueAt (H : Hp) (p : Addr) (l : PySem.Str) (n : Int) (rs : List Rl) (ys : List Int) : Prop where
  ex : ∃ (aR aY aS : Addr) (g : V) (R : Kept), H p = some (.tup [.str l, .int n, .ref aR, .ref aY, .ref aS, g]) ∧ H aR = some (.tup (refsK R)) ∧ KeptAt H R ∧ R.map (·.2) = rulesOf rs ∧
    H aY = some (.tup ((intsOf ys).map V.int)) ∧ H aS = some (.tup ((symsL rs).map V.str)) ∧ GuessV H g (adjK ((rulesOf rs).map Rl.k3))
theorem DueAt.dp {K : PySem.W.Frag} {H : Hp} {p : Addr} {l : PySem.Str} {n : Int} {rs : List Rl} {ys : List Int} (h : DueAt H p l n rs ys) : Dp K H (.ref p) (dueD l n rs ys) := by
  obtain ⟨aR, aY, aS, g, R, hp, hR, kR, eR, hY, hS, hg⟩ := h.ex
  refine .tup (.inl (.inl hp)) (.cons (.str l) (.cons (.int n) (.cons (.tup (.inl (.inl hR)) ?_) (.cons (.tup (.inl (.inl hY)) (dpa_ints _)) (.cons (.tup (.inl (.inl hS)) (dpa_strs _)) (.cons (dp_guess hg) .nil))))))
  rw [← eR]
  exact dpa_rules kR
/-- all tuples stay -/
def Tk (H H' : Hp) : Prop := ∀ b xs, H b = some (.tup xs) → H' b = some (.tup xs)
theorem Tk.of {H H' : Hp} (s : Same H H') : Tk H H' := fun b xs e => s b _ e
theorem Tk.trans {H H' H'' : Hp} (a : Tk H H') (b : Tk H' H'') : Tk H H'' := fun c xs e => b c xs (a c xs e)
theorem Tk.refl (H : Hp) : Tk H H := fun _ _ e => e
theorem Tk.put {H : Hp} {q : Addr} {o o' : HO} (h : H q = some o) (n : ∀ xs, o ≠ .tup xs) : Tk H (upd H q o') := fun b xs e => by
  have ne : b ≠ q := fun z => by
    rw [z, h] at e
    exact n xs (Option.some.inj e)
  rw [upd_ne ne]
  exact e
theorem GuessV.tk {H H' : Hp} {v : V} {g : Option (List Key)} (h : GuessV H v g) (t : Tk H H') : GuessV H' v g := by
  cases g with
  | none => exact h
  | some k =>
    obtain ⟨q, e, z⟩ := h
    exact ⟨q, e, t _ _ z⟩
theorem DueAt.tk {H H' : Hp} {p : Addr} {l : PySem.Str} {n : Int} {rs : List Rl} {ys : List Int} (h : DueAt H p l n rs ys) (t : Tk H H') : DueAt H' p l n rs ys := by
  obtain ⟨aR, aY, aS, g, R, hp, hR, kR, eR, hY, hS, hg⟩ := h.ex
  exact ⟨aR, aY, aS, g, R, t _ _ hp, t _ _ hR, fun q m => t _ _ (kR q m), eR, t _ _ hY, t _ _ hS, hg.tk t⟩
/-! comparing -/
theorem eqv_key (a b : Key) : PyData.eqv (keyD a) (keyD b) = decide (a = b) := by
  cases a with
  | inl x =>
    cases b with
    | inl y =>
      show (x == y) = _
      by_cases c : x = y
      · rw [c, decide_eq_true rfl]
        exact beq_iff_eq.mpr rfl
      · rw [decide_eq_false (fun z => c (Sum.inl.inj z))]
        exact Bool.eq_false_iff.mpr fun z => c (beq_iff_eq.mp z)
    | inr y => rw [decide_eq_false (fun z => nomatch z)]; rfl
  | inr x =>
    cases b with
    | inl y => rw [decide_eq_false (fun z => nomatch z)]; rfl
    | inr y =>
      show (x == y) = _
      by_cases c : x = y
      · rw [c, decide_eq_true rfl]
        exact beq_iff_eq.mpr rfl
      · rw [decide_eq_false (fun z => c (Sum.inr.inj z))]
        exact Bool.eq_false_iff.mpr fun z => c (beq_iff_eq.mp z)
theorem eqv_keys : ∀ a b : List Key, PyData.eqv (.tuple (a.map keyD)) (.tuple (b.map keyD)) = decide (a = b)
  | [], [] => rfl
  | [], _ :: _ => by rw [decide_eq_false (fun z => nomatch z)]; rfl
  | _ :: _, [] => by rw [decide_eq_false (fun z => nomatch z)]; rfl
  | x :: a, y :: b => by
    have ih := eqv_keys a b
    have e : PyData.eqv (.tuple ((x :: a).map keyD)) (.tuple ((y :: b).map keyD)) = (PyData.eqv (keyD x) (keyD y) && PyData.eqv (.tuple (a.map keyD)) (.tuple (b.map keyD))) := by
      simp [PyData.eqv, PyData.eqvAll]
    rw [e, ih, eqv_key]
    by_cases c : x = y
    · by_cases d : a = b
      · rw [decide_eq_true c, decide_eq_true d, decide_eq_true (by rw [c, d])]; rfl
      · rw [decide_eq_true c, decide_eq_false d, decide_eq_false (fun z => d (List.cons.inj z).2)]; rfl
    · rw [decide_eq_false c, decide_eq_false (fun z => c (List.cons.inj z).1)]; rfl
def KeyOk : Key → Prop
  | .inl _ => True
  | .inr x => ∀ c ∈ x.cps.toList, c < 1114112
theorem strOk_of {x : PySem.Str} (h : ∀ c ∈ x.cps.toList, c < 1114112) : PyData.strOk x = true := by
  unfold PyData.strOk
  rw [← Array.all_toList, List.all_eq_true]
  exact fun c m => decide_eq_true (h c m)
theorem lay_keys : ∀ k : List Key, (∀ x ∈ k, KeyOk x) → PyData.canLayAll0 (k.map keyD) = true ∧ PyData.depthAll (k.map keyD) = 0
  | [], _ => ⟨by simp [PyData.canLayAll0], by simp [PyData.depthAll]⟩
  | x :: k, h => by
    have ih := lay_keys k fun z m => h z (List.mem_cons_of_mem _ m)
    have hx := h x List.mem_cons_self
    cases x with
    | inl n => exact ⟨by simp [PyData.canLayAll0, PyData.canLay0, keyD, ih.1], by simp [PyData.depthAll, PyData.depth, keyD, ih.2]⟩
    | inr t =>
      have s : PyData.strOk t = true := strOk_of hx
      exact ⟨by simp [PyData.canLayAll0, PyData.canLay0, keyD, ih.1, s], by simp [PyData.depthAll, PyData.depth, keyD, ih.2]⟩
theorem shaped_keys {k : List Key} (h : ∀ x ∈ k, KeyOk x) : SeqAt.shaped (.tuple (k.map keyD)) = true := by
  obtain ⟨a, b⟩ := lay_keys k h
  unfold SeqAt.shaped
  simp [PyData.canLay0, PyData.depth, a, b]
/-- a rule in a list or a tuple -/
def rowD (b : Bool) (r : Rl) : PyData := match b with
  | true => .list (r.key.map keyD)
  | false => .tuple (r.key.map keyD)
theorem lay_rows : ∀ {rs : List (Bool × Rl)}, (∀ p ∈ rs, ∀ x ∈ p.2.key, KeyOk x) → PyData.canLayAll0 (rs.map fun p => rowD p.1 p.2) = true ∧ PyData.depthAll (rs.map fun p => rowD p.1 p.2) ≤ 1
  | [], _ => ⟨by simp [PyData.canLayAll0], by simp [PyData.depthAll]⟩
  | p :: rs, h => by
    have ih := lay_rows (rs := rs) fun q m => h q (List.mem_cons_of_mem _ m)
    have lp := lay_keys p.2.key (h p List.mem_cons_self)
    obtain ⟨b, r⟩ := p
    have one : PyData.canLay0 (rowD b r) = true ∧ PyData.depth (rowD b r) = 1 := by
      cases b with
      | true =>
        show PyData.canLay0 (.list (r.key.map keyD)) = true ∧ PyData.depth (.list (r.key.map keyD)) = 1
        exact ⟨by rw [PyData.canLay0]; exact lp.1, by rw [PyData.depth, lp.2]⟩
      | false =>
        show PyData.canLay0 (.tuple (r.key.map keyD)) = true ∧ PyData.depth (.tuple (r.key.map keyD)) = 1
        exact ⟨by rw [PyData.canLay0]; exact lp.1, by rw [PyData.depth, lp.2]⟩
    rw [List.map_cons]
    refine ⟨by rw [PyData.canLayAll0, one.1, ih.1]; rfl, ?_⟩
    rw [PyData.depthAll, one.2]
    omega
theorem shaped_rows {rs : List (Bool × Rl)} (h : ∀ p ∈ rs, ∀ x ∈ p.2.key, KeyOk x) : SeqAt.shaped (.list (rs.map fun p => rowD p.1 p.2)) = true ∧ PyData.eqv (.list (rs.map fun p => rowD p.1 p.2)) (.list (rs.map fun p => rowD p.1 p.2)) = true := by
  obtain ⟨a, b⟩ := lay_rows h
  have c : PyData.canLay0 (.list (rs.map fun p => rowD p.1 p.2)) = true := by
    unfold PyData.canLay0
    exact a
  refine ⟨?_, SeqAt.eqv_refl _ c⟩
  unfold SeqAt.shaped
  rw [c]
  have d : PyData.depth (.list (rs.map fun p => rowD p.1 p.2)) = PyData.depthAll (rs.map fun p => rowD p.1 p.2) + 1 := by simp [PyData.depth]
  rw [d]
  exact decide_eq_true (by omega)
theorem shaped_ints (ys : List Int) : SeqAt.shaped (.list (ys.map .int)) = true ∧ PyData.eqv (.list (ys.map .int)) (.list (ys.map .int)) = true := by
  have lay : ∀ ys : List Int, PyData.canLayAll0 (ys.map .int) = true ∧ PyData.depthAll (ys.map .int) = 0 := by
    intro ys
    induction ys with
    | nil => exact ⟨by simp [PyData.canLayAll0], by simp [PyData.depthAll]⟩
    | cons y ys ih => exact ⟨by simp only [List.map_cons, PyData.canLayAll0, PyData.canLay0, ih.1]; rfl, by simp only [List.map_cons, PyData.depthAll, PyData.depth, ih.2]; rfl⟩
  obtain ⟨a, b⟩ := lay ys
  have c : PyData.canLay0 (.list (ys.map .int)) = true := by
    unfold PyData.canLay0
    exact a
  refine ⟨?_, SeqAt.eqv_refl _ c⟩
  unfold SeqAt.shaped
  rw [c]
  have d : PyData.depth (.list (ys.map .int)) = PyData.depthAll (ys.map .int) + 1 := by simp [PyData.depth]
  rw [d, b]
  rfl
end Mk

set_option Elab.async false
set_option linter.unusedVariables false
set_option maxRecDepth 100000
set_option maxHeartbeats 8000000
namespace Mk
open PySem L2 Pk
theorem str_eqT {x y : PySem.Str} (h : TL.tl x = TL.tl y) : x = y := TL.ext_tl h
theorem sgn_two (a b : Nat) : sgn1 a ++ sgn1 b = (⟨[a, b].toArray⟩ : PySem.Str) := str_eqT (by rw [TL.tl_append] <;> rfl)
theorem sgn_three (a b c : Nat) : sgn1 a ++ sgn1 b ++ sgn1 c = (⟨[a, b, c].toArray⟩ : PySem.Str) := str_eqT (by rw [TL.tl_append, sgn_two] <;> rfl)
theorem alpha_two {a b : Nat} (h1 : 97 ≤ a) (h2 : a < b) (h3 : b ≤ 122) : Alpha (sgn1 a ++ sgn1 b) := by
  rw [sgn_two]
  refine alpha_of (fun c m => ?_) (show 1 ≤ 2 by decide) (show 2 ≤ 26 by decide) ?_
  · rcases List.mem_cons.mp m with rfl | m
    · exact ⟨h1, by omega⟩
    · rw [List.mem_singleton.mp m]; exact ⟨by omega, h3⟩
  · exact List.pairwise_cons.mpr ⟨fun x m => by rw [List.mem_singleton.mp m]; exact h2, List.pairwise_singleton _ _⟩
theorem alpha_three {a b c : Nat} (h1 : 97 ≤ a) (h2 : a < b) (h3 : b < c) (h4 : c ≤ 122) : Alpha (sgn1 a ++ sgn1 b ++ sgn1 c) := by
  rw [sgn_three]
  refine alpha_of (fun x m => ?_) (show 1 ≤ 3 by decide) (show 3 ≤ 26 by decide) ?_
  · rcases List.mem_cons.mp m with rfl | m
    · exact ⟨h1, by omega⟩
    · rcases List.mem_cons.mp m with rfl | m
      · exact ⟨by omega, by omega⟩
      · rw [List.mem_singleton.mp m]; exact ⟨by omega, h4⟩
  · refine List.pairwise_cons.mpr ⟨fun x m => ?_, List.pairwise_cons.mpr ⟨fun x m => ?_, List.pairwise_singleton _ _⟩⟩
    · rcases List.mem_cons.mp m with rfl | m
      · exact h2
      · rw [List.mem_singleton.mp m]; omega
    · rw [List.mem_singleton.mp m]; exact h3
section
variable {P : Program} {w : World} {K : PySem.W.Frag} {mg : PySem.Str → Option Value} {base : Heap}
/-! _law_alphabet -/
def spAlpha (K : PySem.W.Frag) : Sp := fun vs H Q _ => ∃ (a : Addr) (row : List Int) (d0 d1 d2 : Nat), vs = [.ref a] ∧ SqL K H a (row.map V.int) ∧ row[0]? = some (d0 : Int) ∧ row[1]? = some (d1 : Int) ∧ row[2]? = some (d2 : Int) ∧ d1 < 12 ∧ d2 < 13 ∧
  ∀ l : PySem.Str, Alpha l → l.length ≤ 3 → (d0 < 7 → l.length ≤ 2) → Q (.str l) H
theorem scAlpha : FnScope ["row", "letters", "second"] ["row"] (defScope sAlpha) := ⟨rfl, rfl, rfl, by decide +kernel, rfl, by decide +kernel, by decide +kernel⟩
theorem ok_alpha {f : Addr} {fd : FuncData} (F : Fun K "_law_alphabet" "_law_alphabet" sAlpha f fd) : FnOk P w K mg base CX0 1 f fd ["row"] (spAlpha K) := by
  refine F.ok scAlpha (fun vs H Q E h => ?_) (fun cdv A outer s H vs Q E hr h => ?_)
  · obtain ⟨a, row, d0, d1, d2, rfl, _⟩ := h
    rfl
  · obtain ⟨a, row, d0, d1, d2, rfl, hS, e0, e1, e2, b1, b2, k⟩ := h
    refine ⟨_, pss_cons (ps_set (i := 1) scAlpha.nd rfl (Or.inl rfl) pe_str)
      (pss_cons (ps_set (i := 2) scAlpha.nd rfl (Or.inl rfl) (pe_op op_add (pe_op op_add (pe_ix ix_list (pv 0) pe_int fun _ _ => rfl) pe_int) (pe_ix ix_list (pv 0) pe_int fun _ _ => rfl)))
      (pss_cons (ps_if (pt_cmpR op_lt (pe_ix ix_list (pv 0) pe_int fun _ _ => rfl) pe_int (nomark _)) (pss_one (ps_ret (pe_ix ix_str (pv 1) (pe_ix ix_list (pv 0) pe_int fun _ _ => rfl) fun _ _ => rfl))) pss_nil)
      (pss_cons (ps_if (pt_cmpR op_lt (pe_ix ix_list (pv 0) pe_int fun _ _ => rfl) pe_int (nomark _)) (pss_one (ps_ret (pe_op op_add_str (pe_ix ix_str (pv 1) (pe_ix ix_list (pv 0) pe_int fun _ _ => rfl) fun _ _ => rfl) (pe_ix ix_str (pv 1) (pv 2) fun _ _ => rfl)))) pss_nil)
      (pss_one (ps_ret (pe_op op_add_str (pe_op op_add_str (pe_ix ix_str (pv 1) (pe_ix ix_list (pv 0) pe_int fun _ _ => rfl) fun _ _ => rfl) (pe_ix ix_str (pv 1) (pv 2) fun _ _ => rfl)) (pe_ix ix_str (pv 1) pe_int fun _ _ => rfl))))))), ?_⟩
    have rowAt : ∀ {j : Nat} {d : Nat}, row[j]? = some (d : Int) → atI (row.map V.int) (j : Int) = some (V.int d) := fun {j d} e => atI_nat (by rw [List.getElem?_map, e]; rfl)
    have at_ : ∀ {j : Nat}, j < 26 → atI abc26.cps.toList (j : Int) = some (97 + j) := fun h => atI_nat (abc26_at h)
    have sz : abc26.length ≤ sizeLine := by decide +kernel
    have e3 : (d1 : Int) + 1 + (d2 : Int) = ((d1 + 1 + d2 : Nat) : Int) := by omega
    have two : (sgn1 (97 + d1)).length + (sgn1 (97 + (d1 + 1 + d2))).length ≤ sizeLine := (show 1 + 1 ≤ sizeLine by decide)
    refine ⟨_, rfl, a, _, _, _, rfl, rfl, hS, rowAt (j := 1) e1, _, _, rfl, rfl, _, rfl, a, _, _, _, rfl, rfl, hS, rowAt (j := 2) e2, _, _, rfl, rfl, ?_⟩
    refine ⟨_, rfl, a, _, _, _, rfl, rfl, hS, rowAt (j := 0) e0, _, _, rfl, rfl, _, rfl, ite2 (fun _ => ?_) (fun _ => ?_)⟩
    · refine ⟨_, rfl, _, rfl, a, _, _, _, rfl, rfl, hS, rowAt (j := 1) e1, abc26, _, 97 + d1, rfl, rfl, sz, at_ (by omega), ?_⟩
      exact k _ (alpha_one ⟨by omega, by omega⟩) (show 1 ≤ 3 by decide) (fun _ => show 1 ≤ 2 by decide)
    refine ⟨_, rfl, a, _, _, _, rfl, rfl, hS, rowAt (j := 0) e0, _, _, rfl, rfl, _, rfl, ite2 (fun _ => ?_) (fun e7 => ?_)⟩
    · refine ⟨_, rfl, _, rfl, a, _, _, _, rfl, rfl, hS, rowAt (j := 1) e1, abc26, _, 97 + d1, rfl, rfl, sz, at_ (by omega), _, rfl, _, rfl, abc26, _, 97 + (d1 + 1 + d2), rfl, rfl, sz, by rw [e3]; exact at_ (by omega), _, _, rfl, rfl, two, ?_⟩
      exact k _ (alpha_two (by omega) (by omega) (by omega)) (show 2 ≤ 3 by decide) (fun _ => show 2 ≤ 2 by decide)
    · refine ⟨_, rfl, _, rfl, a, _, _, _, rfl, rfl, hS, rowAt (j := 1) e1, abc26, _, 97 + d1, rfl, rfl, sz, at_ (by omega), _, rfl, _, rfl, abc26, _, 97 + (d1 + 1 + d2), rfl, rfl, sz, by rw [e3]; exact at_ (by omega), _, _, rfl, rfl, two, ?_⟩
      refine ⟨_, rfl, abc26, _, 97 + 25, rfl, rfl, sz, at_ (j := 25) (by decide), _, _, rfl, rfl, ?_, ?_⟩
      · exact (show 2 + 1 ≤ sizeLine by decide)
      · exact k _ (alpha_three (by omega) (by omega) (by omega) (by omega)) (show 3 ≤ 3 by decide) (fun z => absurd (decide_eq_true (show (d0 : Int) < 7 by omega)) e7)
end
end Mk

set_option Elab.async false
set_option linter.unusedVariables false
set_option maxRecDepth 100000
set_option maxHeartbeats 8000000
namespace Mk
open PySem L2 Pk
section
variable {P : Program} {w : World} {K : PySem.W.Frag} {mg : PySem.Str → Option Value} {base : Heap}
/-! _law_symbols -/
def spSyms : Sp := fun vs H Q _ => ∃ d : Nat, vs = [.int (d : Int)] ∧ d < 6 ∧ ∀ (p : Addr) (x y z : PySem.Str) (H' : Hp), Same H H' → symB x = true → symB y = true → symB z = true → H' p = some (.lst [.str x, .str y, .str z]) → Q (.ref p) H'
theorem scSyms : FnScope ["digit", "menu"] ["digit"] (defScope sSyms) := ⟨rfl, rfl, rfl, by decide +kernel, rfl, by decide +kernel, by decide +kernel⟩
abbrev ls3 (x y z : PySem.Str) : HO := .lst [.str x, .str y, .str z]
theorem ok_syms {f : Addr} {fd : FuncData} (F : Fun K "_law_symbols" "_law_symbols" sSyms f fd) : FnOk P w K mg base CX0 1 f fd ["digit"] spSyms := by
  refine F.ok scSyms (fun vs H Q E h => ?_) (fun cdv A outer s H vs Q E hr h => ?_)
  · obtain ⟨d, rfl, _⟩ := h
    rfl
  · obtain ⟨d, rfl, hd, k⟩ := h
    refine ⟨_, pss_cons (ps_set (i := 1) scSyms.nd rfl (Or.inl rfl) (pe_lst (pa_cons (pe_lst (pa_cons pe_str (pa_cons pe_str (pa_cons pe_str pa_nil)))) (pa_cons (pe_lst (pa_cons pe_str (pa_cons pe_str (pa_cons pe_str pa_nil)))) (pa_cons (pe_lst (pa_cons pe_str (pa_cons pe_str (pa_cons pe_str pa_nil))))
        (pa_cons (pe_lst (pa_cons pe_str (pa_cons pe_str (pa_cons pe_str pa_nil)))) (pa_cons (pe_lst (pa_cons pe_str (pa_cons pe_str (pa_cons pe_str pa_nil)))) pa_nil)))))))
      (pss_one (ps_ret (pe_ix ix_list (pe_op op_cat (pv 1) (pe_lst (pa_cons (pe_lst (pa_cons pe_str (pa_cons pe_str (pa_cons pe_str pa_nil)))) pa_nil))) (pv 0) fun _ _ => rfl))), ?_⟩
    have le3 : (3 : Nat) ≤ sizeLine := by decide
    refine ⟨le3, fun q1 n1 => ?_⟩
    have t1 := same_new (o := ls3 (PySem.Str.ofString "x") (PySem.Str.ofString "y") (PySem.Str.ofString "xy")) n1
    have h1 : (upd H q1 (ls3 (PySem.Str.ofString "x") (PySem.Str.ofString "y") (PySem.Str.ofString "xy"))) q1 = some (ls3 (PySem.Str.ofString "x") (PySem.Str.ofString "y") (PySem.Str.ofString "xy")) := upd_same
    generalize upd H q1 (ls3 (PySem.Str.ofString "x") (PySem.Str.ofString "y") (PySem.Str.ofString "xy")) = H1 at t1 h1 ⊢
    refine ⟨le3, fun q2 n2 => ?_⟩
    have t2 := same_new (o := ls3 (PySem.Str.ofString "a") (PySem.Str.ofString "aa") (PySem.Str.ofString "A")) n2
    have h2 : (upd H1 q2 (ls3 (PySem.Str.ofString "a") (PySem.Str.ofString "aa") (PySem.Str.ofString "A"))) q2 = some (ls3 (PySem.Str.ofString "a") (PySem.Str.ofString "aa") (PySem.Str.ofString "A")) := upd_same
    generalize upd H1 q2 (ls3 (PySem.Str.ofString "a") (PySem.Str.ofString "aa") (PySem.Str.ofString "A")) = H2 at t2 h2 ⊢
    refine ⟨le3, fun q3 n3 => ?_⟩
    have t3 := same_new (o := ls3 (PySem.Str.ofString "Q1") (PySem.Str.ofString "q1") (PySem.Str.ofString "Q2")) n3
    have h3 : (upd H2 q3 (ls3 (PySem.Str.ofString "Q1") (PySem.Str.ofString "q1") (PySem.Str.ofString "Q2"))) q3 = some (ls3 (PySem.Str.ofString "Q1") (PySem.Str.ofString "q1") (PySem.Str.ofString "Q2")) := upd_same
    generalize upd H2 q3 (ls3 (PySem.Str.ofString "Q1") (PySem.Str.ofString "q1") (PySem.Str.ofString "Q2")) = H3 at t3 h3 ⊢
    refine ⟨le3, fun q4 n4 => ?_⟩
    have t4 := same_new (o := ls3 (PySem.Str.ofString "eightsym") (PySem.Str.ofString "eightsyn") (PySem.Str.ofString "neightsy")) n4
    have h4 : (upd H3 q4 (ls3 (PySem.Str.ofString "eightsym") (PySem.Str.ofString "eightsyn") (PySem.Str.ofString "neightsy"))) q4 = some (ls3 (PySem.Str.ofString "eightsym") (PySem.Str.ofString "eightsyn") (PySem.Str.ofString "neightsy")) := upd_same
    generalize upd H3 q4 (ls3 (PySem.Str.ofString "eightsym") (PySem.Str.ofString "eightsyn") (PySem.Str.ofString "neightsy")) = H4 at t4 h4 ⊢
    refine ⟨le3, fun q5 n5 => ?_⟩
    have t5 := same_new (o := ls3 (PySem.Str.ofString "7") (PySem.Str.ofString "12") (PySem.Str.ofString "71")) n5
    have h5 : (upd H4 q5 (ls3 (PySem.Str.ofString "7") (PySem.Str.ofString "12") (PySem.Str.ofString "71"))) q5 = some (ls3 (PySem.Str.ofString "7") (PySem.Str.ofString "12") (PySem.Str.ofString "71")) := upd_same
    generalize upd H4 q5 (ls3 (PySem.Str.ofString "7") (PySem.Str.ofString "12") (PySem.Str.ofString "71")) = H5 at t5 h5 ⊢
    refine ⟨show 5 ≤ sizeLine by decide, fun q6 n6 => ?_⟩
    have t6 := same_new (o := HO.lst [.ref q1, .ref q2, .ref q3, .ref q4, .ref q5]) n6
    have h6 : (upd H5 q6 (.lst [.ref q1, .ref q2, .ref q3, .ref q4, .ref q5])) q6 = some (.lst [.ref q1, .ref q2, .ref q3, .ref q4, .ref q5]) := upd_same
    generalize upd H5 q6 (.lst [.ref q1, .ref q2, .ref q3, .ref q4, .ref q5]) = H6 at t6 h6 ⊢
    refine ⟨_, rfl, le3, fun q7 n7 => ?_⟩
    have t7 := same_new (o := ls3 (PySem.Str.ofString "Zz") (PySem.Str.ofString "zz") (PySem.Str.ofString "Z")) n7
    have h7 : (upd H6 q7 (ls3 (PySem.Str.ofString "Zz") (PySem.Str.ofString "zz") (PySem.Str.ofString "Z"))) q7 = some (ls3 (PySem.Str.ofString "Zz") (PySem.Str.ofString "zz") (PySem.Str.ofString "Z")) := upd_same
    generalize upd H6 q7 (ls3 (PySem.Str.ofString "Zz") (PySem.Str.ofString "zz") (PySem.Str.ofString "Z")) = H7 at t7 h7 ⊢
    refine ⟨show 1 ≤ sizeLine by decide, fun q8 n8 => ?_⟩
    have t8 := same_new (o := HO.lst [.ref q7]) n8
    have h8 : (upd H7 q8 (.lst [.ref q7])) q8 = some (.lst [.ref q7]) := upd_same
    generalize upd H7 q8 (.lst [.ref q7]) = H8 at t8 h8 ⊢
    refine ⟨q6, q8, _, _, rfl, rfl, t8 _ _ (t7 _ _ h6), h8, show 6 ≤ sizeLine by decide, fun q9 n9 => ?_⟩
    have t9 := same_new (o := HO.lst ([.ref q1, .ref q2, .ref q3, .ref q4, .ref q5] ++ [.ref q7])) n9
    have h9 : (upd H8 q9 (.lst ([.ref q1, .ref q2, .ref q3, .ref q4, .ref q5] ++ [.ref q7]))) q9 = some (.lst [.ref q1, .ref q2, .ref q3, .ref q4, .ref q5, .ref q7]) := upd_same
    show (tVar 0) _ (upd H8 q9 (.lst ([.ref q1, .ref q2, .ref q3, .ref q4, .ref q5] ++ [.ref q7]))) _
    generalize upd H8 q9 (.lst ([.ref q1, .ref q2, .ref q3, .ref q4, .ref q5] ++ [.ref q7])) = H9 at t9 h9 ⊢
    have s79 := t8.trans t9
    have s69 := t7.trans s79
    have s59 := t6.trans s69
    have s49 := t5.trans s59
    have s39 := t4.trans s49
    have s29 := t3.trans s39
    have s19 := t2.trans s29
    have sAll := t1.trans s19
    have c : d = 0 ∨ d = 1 ∨ d = 2 ∨ d = 3 ∨ d = 4 ∨ d = 5 := by omega
    rcases c with rfl | rfl | rfl | rfl | rfl | rfl
    · exact ⟨_, rfl, q9, _, 0, .ref q1, rfl, rfl, SqL.of h9, rfl, k q1 _ _ _ _ sAll (by decide +kernel) (by decide +kernel) (by decide +kernel) (s19 _ _ h1)⟩
    · exact ⟨_, rfl, q9, _, 1, .ref q2, rfl, rfl, SqL.of h9, rfl, k q2 _ _ _ _ sAll (by decide +kernel) (by decide +kernel) (by decide +kernel) (s29 _ _ h2)⟩
    · exact ⟨_, rfl, q9, _, 2, .ref q3, rfl, rfl, SqL.of h9, rfl, k q3 _ _ _ _ sAll (by decide +kernel) (by decide +kernel) (by decide +kernel) (s39 _ _ h3)⟩
    · exact ⟨_, rfl, q9, _, 3, .ref q4, rfl, rfl, SqL.of h9, rfl, k q4 _ _ _ _ sAll (by decide +kernel) (by decide +kernel) (by decide +kernel) (s49 _ _ h4)⟩
    · exact ⟨_, rfl, q9, _, 4, .ref q5, rfl, rfl, SqL.of h9, rfl, k q5 _ _ _ _ sAll (by decide +kernel) (by decide +kernel) (by decide +kernel) (s59 _ _ h5)⟩
    · exact ⟨_, rfl, q9, _, 5, .ref q7, rfl, rfl, SqL.of h9, rfl, k q7 _ _ _ _ sAll (by decide +kernel) (by decide +kernel) (by decide +kernel) (s79 _ _ h7)⟩
end
end Mk

set_option Elab.async false
set_option linter.unusedVariables false
set_option maxRecDepth 100000
set_option maxHeartbeats 8000000
namespace Mk
open PySem L2 Pk
def menu1 : List PySem.Str := [keep0, push0, pop0, pop0, push0, swap0, push0, pop0]
def menu2 : List PySem.Str := [push0, push0, keep0, push0, keep0, keep0, push0, keep0]
def saids : List PySem.Str := ["", "", "", "", "a", "b", "ab", "", "", "k", "", "xyz"].map PySem.Str.ofString
theorem menu1_at : ∀ d, d < 8 → ∃ x, menu1[d]? = some x ∧ (x = keep0 ∨ x = pop0 ∨ x = push0 ∨ x = swap0) := by
  intro d h
  have c : d = 0 ∨ d = 1 ∨ d = 2 ∨ d = 3 ∨ d = 4 ∨ d = 5 ∨ d = 6 ∨ d = 7 := by omega
  rcases c with rfl | rfl | rfl | rfl | rfl | rfl | rfl | rfl
  · exact ⟨keep0, rfl, .inl rfl⟩
  · exact ⟨push0, rfl, .inr (.inr (.inl rfl))⟩
  · exact ⟨pop0, rfl, .inr (.inl rfl)⟩
  · exact ⟨pop0, rfl, .inr (.inl rfl)⟩
  · exact ⟨push0, rfl, .inr (.inr (.inl rfl))⟩
  · exact ⟨swap0, rfl, .inr (.inr (.inr rfl))⟩
  · exact ⟨push0, rfl, .inr (.inr (.inl rfl))⟩
  · exact ⟨pop0, rfl, .inr (.inl rfl)⟩
theorem menu2_at : ∀ d, d < 8 → ∃ x, menu2[d]? = some x ∧ (x = keep0 ∨ x = push0) := by
  intro d h
  have c : d = 0 ∨ d = 1 ∨ d = 2 ∨ d = 3 ∨ d = 4 ∨ d = 5 ∨ d = 6 ∨ d = 7 := by omega
  rcases c with rfl | rfl | rfl | rfl | rfl | rfl | rfl | rfl
  · exact ⟨push0, rfl, .inr rfl⟩
  · exact ⟨push0, rfl, .inr rfl⟩
  · exact ⟨keep0, rfl, .inl rfl⟩
  · exact ⟨push0, rfl, .inr rfl⟩
  · exact ⟨keep0, rfl, .inl rfl⟩
  · exact ⟨keep0, rfl, .inl rfl⟩
  · exact ⟨push0, rfl, .inr rfl⟩
  · exact ⟨keep0, rfl, .inl rfl⟩
theorem saids_at : ∀ d, d < 12 → ∃ x, saids[d]? = some x ∧ lowB x = true ∧ x.length ≤ 3 := by
  have all : ∀ d, d < 12 → ∃ x, saids[d]? = some x := fun d h => ⟨saids[d]'h, List.getElem?_eq_getElem h⟩
  have ok : ∀ x ∈ saids, lowB x = true ∧ x.length ≤ 3 := by decide +kernel
  intro d h
  obtain ⟨x, e⟩ := all d h
  exact ⟨x, e, ok x (List.mem_of_getElem? e)⟩
theorem moves_at : ∀ d, d < 6 → ∃ v : Int, ([V.int 1, V.int 1, V.int 1, V.int (-1), V.int (-1), V.int 0] : List V)[d]? = some (.int v) ∧ -1 ≤ v ∧ v ≤ 1 := by
  intro d h
  have c : d = 0 ∨ d = 1 ∨ d = 2 ∨ d = 3 ∨ d = 4 ∨ d = 5 := by omega
  rcases c with rfl | rfl | rfl | rfl | rfl | rfl
  · exact ⟨1, rfl, by omega, by omega⟩
  · exact ⟨1, rfl, by omega, by omega⟩
  · exact ⟨1, rfl, by omega, by omega⟩
  · exact ⟨-1, rfl, by omega, by omega⟩
  · exact ⟨-1, rfl, by omega, by omega⟩
  · exact ⟨0, rfl, by omega, by omega⟩
section
variable {P : Program} {w : World} {K : PySem.W.Frag} {mg : PySem.Str → Option Value} {base : Heap}
/-- five digits of an act -/
structure ActRow (row : List Int) (d0 d1 d2 d3 d4 : Nat) : Prop where
  e0 : row[0]? = some (d0 : Int)
  e1 : row[1]? = some (d1 : Int)
  e2 : row[2]? = some (d2 : Int)
  e3 : row[3]? = some (d3 : Int)
  e4 : row[4]? = some (d4 : Int)
  b1 : d1 < 6
  b2 : d2 < 8
  b4 : d4 < 12
def spAct (K : PySem.W.Frag) : Sp := fun vs H Q _ => ∃ (aR aS : Addr) (row : List Int) (d0 d1 d2 d3 d4 : Nat) (n : Int) (l sg tp : PySem.Str) (ss : List PySem.Str), vs = [.ref aR, .int n, .ref aS, .str sg, .str tp] ∧ SqL K H aR (row.map V.int) ∧ ActRow row d0 d1 d2 d3 d4 ∧
  SqL K H aS (ss.map V.str) ∧ 1 ≤ n ∧ ss ≠ [] ∧ (∀ x ∈ ss, symB x = true) ∧ Sgn l sg ∧ Top tp ∧ Q .non H ∧
  ∀ (p : Addr) (r : Rl) (H' : Hp), Same H H' → r.sg = sg → r.tp = tp → RlOk l n r → H' p = some (.tup (r.a5.map kV)) → Q (.ref p) H'
abbrev nAct : List PySem.Str := ["row", "states", "symbols", "sign", "top", "deed", "move", "symbol", "said"]
theorem scAct : FnScope nAct ["row", "states", "symbols", "sign", "top"] (defScope sAct) := ⟨rfl, rfl, rfl, by decide +kernel, rfl, by decide +kernel, by decide +kernel⟩
theorem ok_act {f : Addr} {fd : FuncData} (F : Fun K "_law_act" "_law_act" sAct f fd) (T : TM mg) : FnOk P w K mg base CX0 1 f fd ["row", "states", "symbols", "sign", "top"] (spAct K) := by
  refine F.ok scAct (fun vs H Q E h => ?_) (fun cdv A outer s H vs Q E hr h => ?_)
  · obtain ⟨aR, aS, row, d0, d1, d2, d3, d4, n, l, sg, tp, ss, rfl, _⟩ := h
    rfl
  · obtain ⟨aR, aS, row, d0, d1, d2, d3, d4, n, l, sg, tp, ss, rfl, hS, AR, hSS, n1, ne, oks, hsg, htp, kn, k⟩ := h
    have nd := scAct.nd
    refine ⟨_, C8.pss_cut (ps_if (PW.pt (pw_and (pt_cmpR op_eq (pe_ix ix_list (pv 0) pe_int fun _ _ => rfl) pe_int (nomark _)) (pw_and1 (pt_cmpR op_lt (pe_ix ix_list (pv 0) pe_int fun _ _ => rfl) pe_int (nomark _))))) (pss_one (ps_ret pe_non)) pss_nil)
      (pss_cons (ps_set (i := 5) nd rfl (Or.inl rfl) (pe_ix ix_list (pe_lst (pa_cons pe_str (pa_cons pe_str (pa_cons pe_str (pa_cons pe_str (pa_cons pe_str (pa_cons pe_str (pa_cons pe_str (pa_cons pe_str pa_nil))))))))) (pe_ix ix_list (pv 0) pe_int fun _ _ => rfl) fun _ _ => rfl))
      (C8.pss_cut (ps_if (pt_cmpR op_eq (pv 4) pe_str (nomark _)) (pss_one (ps_set (i := 5) nd rfl (Or.inl rfl) (pe_ix ix_list (pe_lst (pa_cons pe_str (pa_cons pe_str (pa_cons pe_str (pa_cons pe_str (pa_cons pe_str (pa_cons pe_str (pa_cons pe_str (pa_cons pe_str pa_nil))))))))) (pe_ix ix_list (pv 0) pe_int fun _ _ => rfl) fun _ _ => rfl))) pss_nil)
      (pss_cons (ps_set (i := 6) nd rfl (Or.inl rfl) (pe_ix ix_list (pe_lst (pa_cons pe_int (pa_cons pe_int (pa_cons pe_int (pa_cons (pe_un un_neg pe_int) (pa_cons (pe_un un_neg pe_int) (pa_cons pe_int pa_nil))))))) (pe_ix ix_list (pv 0) pe_int fun _ _ => rfl) fun _ _ => rfl))
      (C8.pss_cut (ps_if (PW.pt (pw_and (pt_cmpR op_eq (pv 6) pe_int (nomark _)) (pw_and (pt_cmpR op_eq (pv 5) pe_str (nomark _)) (pw_and1 (pt_cmpR op_eq (pe_op op_mod (pe_callTy call_int1 (by rfl) T.int PyProof.Rows.Boot.int (pa_cons (pe_ix ix_list (pv 0) pe_int fun _ _ => rfl) pa_nil)) pe_int) pe_int (nomark _))))))
          (pss_one (ps_set (i := 6) nd rfl (Or.inl rfl) pe_int)) pss_nil)
      (C8.pss_cut (ps_if (pt_cmpR op_eq (pv 3) pe_str (nomark _)) (pss_one (ps_set (i := 6) nd rfl (Or.inl rfl) (pe_callB call_abs (by rfl) T.abs (by decide +kernel) (pa_cons (pv 6) pa_nil)))) pss_nil)
      (C8.pss_cut (ps_if (pt_cmpR op_eq (pv 3) pe_str (nomark _)) (pss_one (ps_set (i := 6) nd rfl (Or.inl rfl) (pe_un un_neg (pe_callB call_abs (by rfl) T.abs (by decide +kernel) (pa_cons (pv 6) pa_nil))))) pss_nil)
      (pss_cons (ps_set (i := 7) nd rfl (Or.inl rfl) pe_str)
      (C8.pss_cut (ps_if (PW.pt (pw_or (pt_cmpR op_eq (pv 5) pe_str (nomark _)) (pw_or1 (pt_cmpR op_eq (pv 5) pe_str (nomark _))))) (pss_one (ps_set (i := 7) nd rfl (Or.inl rfl) (pe_ix ix_list (pv 2) (pe_op op_mod (pe_callTy call_int1 (by rfl) T.int PyProof.Rows.Boot.int (pa_cons (pe_ix ix_list (pv 0) pe_int fun _ _ => rfl) pa_nil))
          (pe_callB call_len_seq (by rfl) T.len PySem.boot_len (pa_cons (pv 2) pa_nil))) fun _ _ => rfl))) pss_nil)
      (pss_cons (ps_set (i := 8) nd rfl (Or.inl rfl) (pe_ix ix_list (pe_lst (pa_cons pe_str (pa_cons pe_str (pa_cons pe_str (pa_cons pe_str (pa_cons pe_str (pa_cons pe_str (pa_cons pe_str (pa_cons pe_str (pa_cons pe_str (pa_cons pe_str (pa_cons pe_str (pa_cons pe_str pa_nil))))))))))))) (pe_ix ix_list (pv 0) pe_int fun _ _ => rfl) fun _ _ => rfl))
      (pss_one (ps_ret (pe_tup (pa_cons (pe_op op_mod (pe_callTy call_int1 (by rfl) T.int PyProof.Rows.Boot.int (pa_cons (pe_ix ix_list (pv 0) pe_int fun _ _ => rfl) pa_nil)) (pv 1)) (pa_cons (pv 6) (pa_cons (pv 5) (pa_cons (pv 7) (pa_cons (pv 8) pa_nil))))))))))))))))), ?_⟩
    have rowAt : ∀ {j : Nat} {d : Nat}, row[j]? = some (d : Int) → atI (row.map V.int) (j : Int) = some (V.int d) := fun {j d} e => atI_nat (by rw [List.getElem?_map, e]; rfl)
    have b1 := AR.b1
    have b2 := AR.b2
    have b4 := AR.b4
    refine ⟨fun σ' H' => σ' = [some (.ref aR), some (.int n), some (.ref aS), some (.str sg), some (.str tp), none, none, none, none] ∧ H' = H, ?_, ?_⟩
    · refine ⟨_, rfl, aR, _, _, _, rfl, rfl, hS, rowAt (j := 0) AR.e0, rfl, _, rfl, ite2 (fun _ => ?_) (fun _ => ⟨rfl, rfl⟩)⟩
      exact ⟨_, rfl, aR, _, _, _, rfl, rfl, hS, rowAt (j := 1) AR.e1, _, _, rfl, rfl, _, rfl, ite2 (fun _ => kn) (fun _ => ⟨rfl, rfl⟩)⟩
    rintro _ H0 ⟨rfl, e00⟩
    replace hS : SqL K H0 aR (row.map V.int) := by rw [e00]; exact hS
    replace hSS : SqL K H0 aS (ss.map V.str) := by rw [e00]; exact hSS
    rw [← e00] at k
    -- deed
    obtain ⟨x1, ex1, ox1⟩ := menu1_at d2 b2
    obtain ⟨x2, ex2, ox2⟩ := menu2_at d2 b2
    obtain ⟨sa, esa, lsa, tsa⟩ := saids_at d4 b4
    obtain ⟨m0, em0', lm0, hm0⟩ := moves_at d1 b1
    refine ⟨show 8 ≤ sizeLine by decide, fun q1 n1 => ?_⟩
    have t1 := same_new (o := HO.lst (menu1.map V.str)) n1
    refine ⟨_, rfl, aR, _, _, _, rfl, rfl, t1.seq hS, rowAt (j := 2) AR.e2, q1, _, _, .str x1, rfl, rfl, SqL.of upd_same, atI_nat (xs := menu1.map V.str) (by rw [List.getElem?_map, ex1] <;> rfl), ?_⟩
    dsimp only [gName]
    show (C8.tCut _ _) _ _ (upd H0 q1 (.lst (menu1.map V.str)))
    generalize upd H0 q1 (.lst (menu1.map V.str)) = H1 at t1 ⊢
    refine ⟨fun σ' H' => ∃ de : PySem.Str, σ' = [some (.ref aR), some (.int n), some (.ref aS), some (.str sg), some (.str tp), some (.str de), none, none, none] ∧ Same H0 H' ∧ (de = keep0 ∨ de = pop0 ∨ de = push0 ∨ de = swap0) ∧ (tp = nil0 → de = keep0 ∨ de = push0), ?_, ?_⟩
    · refine ⟨_, rfl, rfl, _, rfl, ?_⟩
      rw [show decide (V.str tp = V.str (PySem.Str.ofString "")) = decide (tp = nil0) from dec_str tp nil0]
      refine ite2 (fun e => ?_) (fun e => ?_)
      · refine ⟨show 8 ≤ sizeLine by decide, fun q2 n2 => ?_⟩
        have t2 := t1.trans (same_new (o := HO.lst (menu2.map V.str)) n2)
        refine ⟨_, rfl, aR, _, _, _, rfl, rfl, t2.seq hS, rowAt (j := 2) AR.e2, q2, _, _, .str x2, rfl, rfl, SqL.of upd_same, atI_nat (xs := menu2.map V.str) (by rw [List.getElem?_map, ex2] <;> rfl), ?_⟩
        refine ⟨x2, rfl, t2, ?_, fun _ => ox2⟩
        rcases ox2 with z | z
        · exact .inl z
        · exact .inr (.inr (.inl z))
      · exact ⟨x1, rfl, t1, ox1, fun z => absurd (decide_eq_true z) e⟩
    rintro _ H2 ⟨de, rfl, s2, oneD, lowD⟩
    clear t1 n1
    -- move
    refine ⟨_, rfl, _, rfl, show 6 ≤ sizeLine by decide, fun q3 n3 => ?_⟩
    have t3 := s2.trans (same_new (o := HO.lst [V.int 1, V.int 1, V.int 1, V.int (-1), V.int (-1), V.int 0]) n3)
    refine ⟨_, rfl, aR, _, _, _, rfl, rfl, t3.seq hS, rowAt (j := 1) AR.e1, q3, _, _, .int m0, rfl, rfl, SqL.of upd_same, atI_nat em0', ?_⟩
    dsimp only [gName]
    show (C8.tCut _ _) _ _ (upd H2 q3 (.lst [V.int 1, V.int 1, V.int 1, V.int (-1), V.int (-1), V.int 0]))
    generalize upd H2 q3 (.lst [V.int 1, V.int 1, V.int 1, V.int (-1), V.int (-1), V.int 0]) = H3 at t3 ⊢
    clear s2 n3
    have hS3 := t3.seq hS
    have hSS3 := t3.seq hSS
    refine ⟨fun σ' H' => ∃ mv : Int, σ' = [some (.ref aR), some (.int n), some (.ref aS), some (.str sg), some (.str tp), some (.str de), some (.int mv), none, none] ∧ H' = H3 ∧ -1 ≤ mv ∧ mv ≤ 1, ?_, ?_⟩
    · refine ⟨_, rfl, rfl, _, rfl, ite2 (fun _ => ?_) (fun _ => ⟨m0, rfl, rfl, lm0, hm0⟩)⟩
      refine ⟨_, rfl, rfl, _, rfl, ite2 (fun _ => ?_) (fun _ => ⟨m0, rfl, rfl, lm0, hm0⟩)⟩
      refine ⟨_, rfl, aR, _, _, _, rfl, rfl, hS3, rowAt (j := 3) AR.e3, .inl ⟨_, rfl, _, _, rfl, rfl, show (0 : Int) < 2 by decide, rfl, _, rfl, ite2 (fun _ => ?_) (fun _ => ⟨m0, rfl, rfl, lm0, hm0⟩)⟩⟩
      exact ⟨1, rfl, rfl, by decide, by decide⟩
    rintro _ H4 ⟨m1, rfl, e44, lo1, hi1⟩
    obtain rfl : H3 = H4 := e44.symm
    refine ⟨fun σ' H' => ∃ mv : Int, σ' = [some (.ref aR), some (.int n), some (.ref aS), some (.str sg), some (.str tp), some (.str de), some (.int mv), none, none] ∧ H' = H3 ∧ -1 ≤ mv ∧ mv ≤ 1 ∧ (sg = lt0 → 0 ≤ mv), ?_, ?_⟩
    · refine ⟨_, rfl, rfl, _, rfl, ?_⟩
      rw [show decide (V.str sg = V.str (PySem.Str.ofString "<")) = decide (sg = lt0) from dec_str sg lt0]
      refine ite2 (fun e => ?_) (fun e => ?_)
      · refine ⟨_, rfl, _, rfl, ?_⟩
        refine ⟨_, rfl, rfl, ?_, ?_, fun _ => ?_⟩ <;> (split <;> omega)
      · exact ⟨_, rfl, rfl, lo1, hi1, fun z => absurd (decide_eq_true z) e⟩
    rintro _ H4 ⟨m2, rfl, e44, lo2, hi2, lt2⟩
    obtain rfl : H3 = H4 := e44.symm
    refine ⟨fun σ' H' => ∃ mv : Int, σ' = [some (.ref aR), some (.int n), some (.ref aS), some (.str sg), some (.str tp), some (.str de), some (.int mv), none, none] ∧ H' = H3 ∧ Mv sg mv, ?_, ?_⟩
    · refine ⟨_, rfl, rfl, _, rfl, ?_⟩
      rw [show decide (V.str sg = V.str (PySem.Str.ofString ">")) = decide (sg = gt0) from dec_str sg gt0]
      refine ite2 (fun e => ?_) (fun e => ?_)
      · have eg : sg = gt0 := of_decide_eq_true e
        refine ⟨_, rfl, _, rfl, _, rfl, ?_⟩
        have ab : 0 ≤ (if m2 < 0 then -m2 else m2) ∧ (if m2 < 0 then -m2 else m2) ≤ 1 := by split <;> omega
        refine ⟨_, rfl, rfl, by omega, by omega, fun z => ?_, fun _ => by omega⟩
        rw [eg] at z
        exact absurd z (by decide +kernel)
      · refine ⟨m2, rfl, rfl, lo2, hi2, fun z => ?_, fun z => absurd (decide_eq_true z) e⟩
        have := lt2 z
        omega
    rintro _ H4 ⟨mv, rfl, e44, mvOk⟩
    obtain rfl : H3 = H4 := e44.symm
    -- symbol
    obtain ⟨s0, es0⟩ : ∃ x, ss[d3 % ss.length]? = some x := ⟨_, List.getElem?_eq_getElem (Nat.mod_lt _ (List.length_pos_iff.mpr ne))⟩
    have os0 := oks s0 (List.mem_of_getElem? es0)
    have pos : (0 : Int) < (((ss.map V.str).length : Nat) : Int) := by rw [List.length_map]; have := List.length_pos_iff.mpr ne; omega
    have ei : (d3 : Int) % (((ss.map V.str).length : Nat) : Int) = ((d3 % ss.length : Nat) : Int) := by rw [List.length_map]; omega
    refine ⟨fun σ' H' => ∃ sy : PySem.Str, σ' = [some (.ref aR), some (.int n), some (.ref aS), some (.str sg), some (.str tp), some (.str de), some (.int mv), some (.str sy), none] ∧ H' = H3 ∧ (de = push0 ∨ de = swap0 → symB sy = true) ∧ (de = keep0 ∨ de = pop0 → sy = nil0), ?_, ?_⟩
    · have ep : decide (V.str de = V.str (PySem.Str.ofString "push")) = decide (de = push0) := dec_str de push0
      have es : decide (V.str de = V.str (PySem.Str.ofString "swap")) = decide (de = swap0) := dec_str de swap0
      have np : push0 ≠ keep0 ∧ push0 ≠ pop0 ∧ swap0 ≠ keep0 ∧ swap0 ≠ pop0 := by decide +kernel
      refine ⟨_, rfl, rfl, _, rfl, ?_⟩
      rw [ep]
      refine ite2 (fun y => ?_) (fun y => ?_)
      · have yy := of_decide_eq_true y
        refine iteT ?_
        refine ⟨_, rfl, _, rfl, aR, _, _, _, rfl, rfl, hS3, rowAt (j := 3) AR.e3, .inl ⟨_, rfl, _, rfl, aS, _, rfl, .inl hSS3, _, _, rfl, rfl, pos, aS, _, _, .str s0, rfl, rfl, hSS3, by rw [ei]; exact atI_nat (by rw [List.getElem?_map, es0] <;> rfl), ?_⟩⟩
        refine ⟨s0, rfl, rfl, fun _ => os0, fun z => ?_⟩
        rw [yy] at z
        exact (z.elim np.1 np.2.1).elim
      · refine ⟨_, rfl, rfl, _, rfl, ?_⟩
        rw [es]
        refine ite2 (fun y2 => ?_) (fun y2 => ?_)
        · have yy := of_decide_eq_true y2
          refine ⟨_, rfl, _, rfl, aR, _, _, _, rfl, rfl, hS3, rowAt (j := 3) AR.e3, .inl ⟨_, rfl, _, rfl, aS, _, rfl, .inl hSS3, _, _, rfl, rfl, pos, aS, _, _, .str s0, rfl, rfl, hSS3, by rw [ei]; exact atI_nat (by rw [List.getElem?_map, es0] <;> rfl), ?_⟩⟩
          refine ⟨s0, rfl, rfl, fun _ => os0, fun z => ?_⟩
          rw [yy] at z
          exact (z.elim np.2.2.1 np.2.2.2).elim
        · exact ⟨nil0, rfl, rfl, fun z => (z.elim (fun z => y (decide_eq_true z)) fun z => y2 (decide_eq_true z)).elim, fun _ => rfl⟩
    rintro _ H4 ⟨sy, rfl, e44, sySym, syNo⟩
    obtain rfl : H3 = H4 := e44.symm
    -- said
    refine ⟨show 12 ≤ sizeLine by decide, fun q4 n4 => ?_⟩
    have t4 := t3.trans (same_new (o := HO.lst (saids.map V.str)) n4)
    refine ⟨_, rfl, aR, _, _, _, rfl, rfl, t4.seq hS, rowAt (j := 4) AR.e4, q4, _, _, .str sa, rfl, rfl, SqL.of upd_same, atI_nat (xs := saids.map V.str) (by rw [List.getElem?_map, esa] <;> rfl), ?_⟩
    have st : 0 ≤ (d0 : Int) % n ∧ (d0 : Int) % n ≤ n - 1 := ⟨Int.emod_nonneg _ (by omega), by have := Int.emod_lt_of_pos (d0 : Int) (show 0 < n by omega); omega⟩
    refine ⟨_, rfl, aR, _, _, _, rfl, rfl, t4.seq hS, rowAt (j := 0) AR.e0, .inl ⟨_, rfl, _, rfl, _, _, rfl, rfl, by omega, _, rfl, _, rfl, _, rfl, _, rfl, show 5 ≤ sizeLine by decide, fun p np => ?_⟩⟩
    exact k p ⟨0, sg, tp, (d0 : Int) % n, mv, de, sy, sa⟩ _ (t4.trans (same_new np)) rfl rfl ⟨⟨Int.le_refl _, by show (0 : Int) ≤ n - 1; omega⟩, hsg, htp, st, mvOk, ⟨oneD, lowD, sySym, syNo⟩, lsa, tsa⟩ (by rw [upd_same] <;> rfl)
end
end Mk

set_option Elab.async false
set_option linter.unusedVariables false
set_option maxRecDepth 100000
set_option maxHeartbeats 8000000
namespace Mk
open PySem L2 Pk
/-! rules that a list takes up one by one -/
structure RsAt (H1 H' : Hp) (a : Addr) (l : PySem.Str) (n : Int) (m : Nat) (B : Kept) : Prop where
  same : Same H1 H'
  at_ : H' a = some (.lst (refsK B))
  kept : KeptAt H' B
  ok : ∀ p ∈ B, RlOk l n p.2
  few : B.length ≤ m
theorem RsAt.look {H1 H' : Hp} {a q : Addr} {l : PySem.Str} {n : Int} {m : Nat} {B : Kept} {o : HO} (R : RsAt H1 H' a l n m B) (nq : H' q = none) : (upd H' q o) a = some (.lst (refsK B)) := same_new nq _ _ R.at_
theorem RsAt.sz {H1 H' : Hp} {a : Addr} {l : PySem.Str} {n : Int} {m : Nat} {B : Kept} (R : RsAt H1 H' a l n m B) (h : m ≤ 10000) : (refsK B).length < sizeLine := by
  unfold refsK
  rw [List.length_map]
  exact Nat.lt_of_le_of_lt (Nat.le_trans R.few h) (by decide)
theorem RsAt.add {H1 H' : Hp} {a q : Addr} {l : PySem.Str} {n : Int} {m : Nat} {B : Kept} {r : Rl} (R : RsAt H1 H' a l n m B) (na : H1 a = none) (nq : H' q = none) (ok : RlOk l n r) :
    RsAt H1 (upd (upd H' q (.tup r.vs)) a (.lst (refsK B ++ [V.ref q]))) a l n (m + 1) (B ++ [(q, r)]) := by
  have t := same_new (o := HO.tup r.vs) nq
  have qa : q ≠ a := fun z => by rw [z, R.at_] at nq; cases nq
  refine ⟨same_mut (R.same.trans t) na, ?_, fun p m => ?_, fun p m => ?_, ?_⟩
  · rw [upd_same]
    unfold refsK
    rw [List.map_append] <;> rfl
  · rcases List.mem_append.mp m with m | m
    · have z := t _ _ (R.kept p m)
      have pa : p.1 ≠ a := fun y => by
        have x := R.kept p m
        rw [y, R.at_] at x
        cases x
      rw [upd_ne pa]
      exact z
    · rw [List.mem_singleton.mp m]
      rw [upd_ne qa, upd_same]
  · rcases List.mem_append.mp m with m | m
    · exact R.ok p m
    · rw [List.mem_singleton.mp m]
      exact ok
  · rw [List.length_append]
    have := R.few
    show B.length + 1 ≤ m + 1
    omega
def Rs (H1 H' : Hp) (a : Addr) (l : PySem.Str) (n : Int) (m : Nat) : Prop := ∃ B, RsAt H1 H' a l n m B
theorem Rs.le {H1 H' : Hp} {a : Addr} {l : PySem.Str} {n : Int} {m k : Nat} (h : Rs H1 H' a l n m) (e : m ≤ k) : Rs H1 H' a l n k := by
  obtain ⟨B, R⟩ := h
  exact ⟨B, R.same, R.at_, R.kept, R.ok, Nat.le_trans R.few e⟩
theorem Rs.same {H1 H' : Hp} {a : Addr} {l : PySem.Str} {n : Int} {m : Nat} (h : Rs H1 H' a l n m) : Same H1 H' := h.elim fun _ R => R.same
theorem Rs.mono {H1 H' H'' : Hp} {a : Addr} {l : PySem.Str} {n : Int} {m : Nat} (h : Rs H1 H' a l n m) (s : Same H' H'') : Rs H1 H'' a l n m := by
  obtain ⟨B, R⟩ := h
  exact ⟨B, R.same.trans s, s _ _ R.at_, fun p m => s _ _ (R.kept p m), R.ok, R.few⟩
/-! parts of right rules -/
theorem keepD (t : PySem.Str) : Deed t keep0 nil0 := ⟨.inl rfl, fun _ => .inl rfl, fun z => absurd z (by decide +kernel), fun _ => rfl⟩
theorem pushD (t : PySem.Str) {s : PySem.Str} (h : symB s = true) : Deed t push0 s := ⟨.inr (.inr (.inl rfl)), fun _ => .inr rfl, fun _ => h, fun z => absurd z (by decide +kernel)⟩
theorem popD {t : PySem.Str} (h : t ≠ nil0) : Deed t pop0 nil0 := ⟨.inr (.inl rfl), fun z => absurd z h, fun z => absurd z (by decide +kernel), fun _ => rfl⟩
theorem swapD {t s : PySem.Str} (h : t ≠ nil0) (h2 : symB s = true) : Deed t swap0 s := ⟨.inr (.inr (.inr rfl)), fun z => absurd z h, fun _ => h2, fun z => absurd z (by decide +kernel)⟩
theorem mv0 (s : PySem.Str) : Mv s 0 := ⟨by decide, by decide, fun _ => by decide, fun _ => by decide⟩
theorem mvR {s : PySem.Str} (h : s ≠ gt0) : Mv s 1 := ⟨by decide, by decide, fun _ => by decide, fun z => absurd z h⟩
theorem mvL {s : PySem.Str} (h : s ≠ lt0) : Mv s (-1) := ⟨by decide, by decide, fun z => absurd z h, fun _ => by decide⟩
theorem said0 : lowB nil0 = true ∧ nil0.length ≤ 3 := by decide +kernel
theorem sym_ne {s : PySem.Str} (h : symB s = true) : s ≠ nil0 := fun z => by
  rw [z] at h
  exact absurd h (by decide +kernel)
theorem sgnLt (l : PySem.Str) : Sgn l lt0 := ⟨60, by decide +kernel, .inl rfl⟩
theorem sgnGt (l : PySem.Str) : Sgn l gt0 := ⟨62, by decide +kernel, .inr (.inl rfl)⟩
theorem sgnIn {l : PySem.Str} {c : Nat} (h : c ∈ l.cps.toList) : Sgn l (sgn1 c) := ⟨c, rfl, .inr (.inr h)⟩
theorem low_of {l : PySem.Str} {c : Nat} (al : Alpha l) (h : c ∈ l.cps.toList) : 97 ≤ c ∧ c ≤ 122 := by
  have z := al.low
  unfold lowB at z
  have y := List.all_eq_true.mp z c h
  unfold lowC at y
  rw [Bool.and_eq_true, decide_eq_true_eq, decide_eq_true_eq] at y
  exact y
theorem ne_sgn {c d : Nat} (h : c ≠ d) : sgn1 c ≠ sgn1 d := fun z => h (by
  have y := congrArg (fun t : PySem.Str => t.cps[0]?) z
  exact Option.some.inj y)
theorem let_lt {l : PySem.Str} {c : Nat} (al : Alpha l) (h : c ∈ l.cps.toList) : sgn1 c ≠ lt0 := fun z => by
  have := low_of al h
  have e : lt0 = sgn1 60 := by decide +kernel
  rw [e] at z
  exact ne_sgn (show c ≠ 60 by omega) z
theorem let_gt {l : PySem.Str} {c : Nat} (al : Alpha l) (h : c ∈ l.cps.toList) : sgn1 c ≠ gt0 := fun z => by
  have := low_of al h
  have e : gt0 = sgn1 62 := by decide +kernel
  rw [e] at z
  exact ne_sgn (show c ≠ 62 by omega) z
theorem said1 {l : PySem.Str} {c : Nat} (al : Alpha l) (h : c ∈ l.cps.toList) : lowB (sgn1 c) = true ∧ (sgn1 c).length ≤ 3 := by
  have y := low_of al h
  refine ⟨?_, show 1 ≤ 3 by decide⟩
  show ([c] : List Nat).all lowC = true
  unfold lowC
  simp only [List.all_cons, List.all_nil, Bool.and_true, Bool.and_eq_true, decide_eq_true_eq]
  exact y
theorem lt_gt : lt0 ≠ gt0 := by decide +kernel
theorem three_at {one two : PySem.Str} (h1 : symB one = true) (h2 : symB two = true) {j : Nat} (h : j < 3) : ∃ t, ([V.str nil0, V.str one, V.str two] : List V)[j]? = some (.str t) ∧ Top t ∧ (j ≠ 0 → symB t = true) ∧ (t = nil0 ∨ t = one ∨ t = two) := by
  have c : j = 0 ∨ j = 1 ∨ j = 2 := by omega
  rcases c with rfl | rfl | rfl
  · exact ⟨nil0, rfl, .inr rfl, fun z => absurd rfl z, .inl rfl⟩
  · exact ⟨one, rfl, .inl h1, fun _ => h1, .inr (.inl rfl)⟩
  · exact ⟨two, rfl, .inl h2, fun _ => h2, .inr (.inr rfl)⟩
theorem mkRl {l sg tp de sy sa : PySem.Str} {n st af mv : Int} (h1 : 0 ≤ st ∧ st ≤ n - 1) (h2 : Sgn l sg) (h3 : Top tp) (h4 : 0 ≤ af ∧ af ≤ n - 1) (h5 : Mv sg mv) (h6 : Deed tp de sy) (h7 : lowB sa = true ∧ sa.length ≤ 3) : RlOk l n ⟨st, sg, tp, af, mv, de, sy, sa⟩ := ⟨h1, h2, h3, h4, h5, h6, h7⟩
theorem saidK : lowB (PySem.Str.ofString "k") = true ∧ (PySem.Str.ofString "k").length ≤ 3 := by decide +kernel
theorem saidB : lowB (PySem.Str.ofString "b") = true ∧ (PySem.Str.ofString "b").length ≤ 3 := by decide +kernel
/-- a new list of right rules -/
def NewRules (H : Hp) (l : PySem.Str) (n : Int) (m : Nat) (p : Addr) (H' : Hp) : Prop := H p = none ∧ Rs H H' p l n m
end Mk

set_option Elab.async false
set_option linter.unusedVariables false
set_option maxRecDepth 100000
set_option maxHeartbeats 8000000
namespace Mk
open PySem L2 Pk
section
variable {P : Program} {w : World} {K : PySem.W.Frag} {mg : PySem.Str → Option Value} {base : Heap}
/-! _law_climber -/
def spSkel : Sp := fun vs H Q _ => ∃ l one two : PySem.Str, vs = [.str l, .str one, .str two] ∧ Alpha l ∧ l.length ≤ 3 ∧ symB one = true ∧ symB two = true ∧ ∀ (p : Addr) (H' : Hp), H p = none → Rs H H' p l 4 100 → Q (.ref p) H'
abbrev nClimber : List PySem.Str := ["letters", "one", "two", "rules", "top", "letter"]
theorem scClimber : FnScope nClimber ["letters", "one", "two"] (defScope sClimber) := ⟨rfl, rfl, rfl, by decide +kernel, rfl, by decide +kernel, by decide +kernel⟩
theorem ok_climber {f : Addr} {fd : FuncData} (F : Fun K "_law_climber" "_law_climber" sClimber f fd) : FnOk P w K mg base CX0 1 f fd ["letters", "one", "two"] spSkel := by
  refine F.ok scClimber (fun vs H Q E h => ?_) (fun cdv A outer s H vs Q E hr h => ?_)
  · obtain ⟨l, one, two, rfl, _⟩ := h
    rfl
  · obtain ⟨l, one, two, rfl, al, l3, o1, o2, k⟩ := h
    have nd := scClimber.nd
    refine ⟨_, (pss_cons (ps_set (i := 3) nd rfl (Or.inl rfl) (pe_lst pa_nil))
      (pss_cons (ps_for PassesOwn.never rfl (pi_list (pe_lst (pa_cons pe_str (pa_cons (pv 1) (pa_cons (pv 2) pa_nil))))) (pg_name (i := 4) nd rfl (Or.inl rfl))
        (pss_cons (ps_expr (pe_bm PySem.F.plainAttrs_list PySem.F.slot_list_append PySem.F.type_list_append mt_append (pv 3) (pa_cons (pe_tup (pa_cons pe_int (pa_cons pe_str (pa_cons (pv 4) (pa_cons pe_int (pa_cons pe_int (pa_cons pe_str (pa_cons pe_str (pa_cons pe_str pa_nil))))))))) pa_nil)))
        (pss_cons (ps_expr (pe_bm PySem.F.plainAttrs_list PySem.F.slot_list_append PySem.F.type_list_append mt_append (pv 3) (pa_cons (pe_tup (pa_cons pe_int (pa_cons pe_str (pa_cons (pv 4) (pa_cons pe_int (pa_cons (pe_un un_neg pe_int) (pa_cons pe_str (pa_cons pe_str (pa_cons pe_str pa_nil))))))))) pa_nil)))
        (pss_cons (ps_expr (pe_bm PySem.F.plainAttrs_list PySem.F.slot_list_append PySem.F.type_list_append mt_append (pv 3) (pa_cons (pe_tup (pa_cons pe_int (pa_cons pe_str (pa_cons (pv 4) (pa_cons pe_int (pa_cons pe_int (pa_cons pe_str (pa_cons pe_str (pa_cons pe_str pa_nil))))))))) pa_nil)))
        (pss_one (ps_for PassesOwn.never rfl (pi_str (pv 0)) (pg_name (i := 5) nd rfl (Or.inl rfl))
          (pss_cons (ps_expr (pe_bm PySem.F.plainAttrs_list PySem.F.slot_list_append PySem.F.type_list_append mt_append (pv 3) (pa_cons (pe_tup (pa_cons pe_int (pa_cons (pv 5) (pa_cons (pv 4) (pa_cons pe_int (pa_cons pe_int (pa_cons pe_str (pa_cons (pv 1) (pa_cons (pv 5) pa_nil))))))))) pa_nil)))
          (pss_one (ps_if (pt_cmpR op_eq (pv 4) pe_str (nomark _))
            (pss_one (ps_expr (pe_bm PySem.F.plainAttrs_list PySem.F.slot_list_append PySem.F.type_list_append mt_append (pv 3) (pa_cons (pe_tup (pa_cons pe_int (pa_cons (pv 5) (pa_cons (pv 4) (pa_cons pe_int (pa_cons (pe_un un_neg pe_int) (pa_cons pe_str (pa_cons pe_str (pa_cons pe_str pa_nil))))))))) pa_nil))))
            (pss_one (ps_expr (pe_bm PySem.F.plainAttrs_list PySem.F.slot_list_append PySem.F.type_list_append mt_append (pv 3) (pa_cons (pe_tup (pa_cons pe_int (pa_cons (pv 5) (pa_cons (pv 4) (pa_cons pe_int (pa_cons (pe_un un_neg pe_int) (pa_cons pe_str (pa_cons (pv 2) (pa_cons pe_str pa_nil))))))))) pa_nil)))))))))))))
      (pss_one (ps_ret (pv 3))))), ?_⟩
    refine ⟨Nat.zero_le _, fun a na => ?_⟩
    have R0 : RsAt H (upd H a (.lst [])) a l 4 0 [] := ⟨same_new na, upd_same, fun p m => absurd m List.not_mem_nil, fun p m => absurd m List.not_mem_nil, Nat.le_refl _⟩
    have ls : l.cps.size ≤ 3 := l3
    dsimp only [gName]
    show (tSeq _ _) _ _ (upd H a (.lst []))
    generalize upd H a (.lst []) = H1 at R0 ⊢
    refine ⟨_, rfl, _, rfl, show 3 ≤ sizeLine by decide, fun b nb => ?_⟩
    have tb := same_new (o := HO.lst [V.str nil0, V.str one, V.str two]) nb
    have hb : (upd H1 b (.lst [V.str nil0, V.str one, V.str two])) b = some (.lst [V.str nil0, V.str one, V.str two]) := upd_same
    have ab : b ≠ a := fun z => by rw [z, R0.at_] at nb; cases nb
    refine ⟨b, rfl, ⟨_, SqL.of hb⟩, for_list (K := K) (a := b) (xs := [V.str nil0, V.str one, V.str two]) (fun i σ H' => H' b = some (.lst [V.str nil0, V.str one, V.str two]) ∧ Rs H H' a l 4 (9 * i) ∧ ∃ v4 v5 : Option V, σ = [some (.str l), some (.str one), some (.str two), some (.ref a), v4, v5])
      ⟨hb, ⟨[], R0.same.trans tb, tb _ _ R0.at_, fun p m => absurd m List.not_mem_nil, fun p m => absurd m List.not_mem_nil, Nat.le_refl _⟩, _, _, rfl⟩ (fun i σ H' _ h => SqL.of h.1) ?_ ?_⟩
    · rintro i v σ H2 hi ⟨hb2, ⟨B, R⟩, v4, v5, rfl⟩
      have i3 : i < 3 := (List.getElem?_eq_some_iff.mp hi).1
      obtain ⟨t, et, tt, tn, t3⟩ := three_at o1 o2 i3
      have ev : V.str t = v := Option.some.inj (et.symm.trans hi)
      subst ev
      have keepB : ∀ {H' : Hp} {q : Addr} {o o' : HO}, H' q = none → H' b = some (.lst [V.str nil0, V.str one, V.str two]) → (upd (upd H' q o) a o') b = some (.lst [V.str nil0, V.str one, V.str two]) := fun nq e => by
        rw [upd_ne ab]
        exact same_new nq _ _ e
      -- three rules
      refine ⟨_, rfl, .inl ⟨rfl, _, SqL.of R.at_⟩, _, rfl, show 8 ≤ sizeLine by decide, fun q nq => ⟨a, _, _, rfl, rfl, R.look nq, R.sz (by omega), ?_⟩⟩
      have R1 := R.add na nq (r := ⟨0, lt0, t, 1, 1, keep0, nil0, nil0⟩) (mkRl (by decide) (sgnLt l) tt (by decide) (mvR lt_gt) (keepD t) said0)
      refine ⟨_, rfl, .inl ⟨rfl, _, SqL.of R1.at_⟩, _, rfl, _, rfl, show 8 ≤ sizeLine by decide, fun q2 nq2 => ⟨a, _, _, rfl, rfl, R1.look nq2, R1.sz (by omega), ?_⟩⟩
      have R2 := R1.add na nq2 (r := ⟨1, gt0, t, 2, -1, keep0, nil0, nil0⟩) (mkRl (by decide) (sgnGt l) tt (by decide) (mvL lt_gt.symm) (keepD t) said0)
      refine ⟨_, rfl, .inl ⟨rfl, _, SqL.of R2.at_⟩, _, rfl, show 8 ≤ sizeLine by decide, fun q3 nq3 => ⟨a, _, _, rfl, rfl, R2.look nq3, R2.sz (by omega), ?_⟩⟩
      have R3 := R2.add na nq3 (r := ⟨2, lt0, t, 0, 0, keep0, nil0, PySem.Str.ofString "k"⟩) (mkRl (by decide) (sgnLt l) tt (by decide) (mv0 _) (keepD t) saidK)
      refine ⟨_, rfl, l, rfl, for_it walk_str (fun j σ H' => H' b = some (.lst [V.str nil0, V.str one, V.str two]) ∧ Rs H H' a l 4 (9 * i + 3 + 2 * j) ∧ ∃ v5 : Option V, σ = [some (.str l), some (.str one), some (.str two), some (.ref a), some (.str t), v5])
        ⟨keepB nq3 (keepB nq2 (keepB nq hb2)), ⟨_, R3⟩, _, rfl⟩ (fun _ _ _ _ _ => trivial) ?_ ?_⟩
      · rintro j v σ H4 _ hj ⟨hb4, ⟨B4, R4⟩, v5, rfl⟩ ⟨rfl, c, hc, rfl⟩
        have mc : c ∈ l.cps.toList := List.mem_of_getElem? (by rw [Array.getElem?_toList]; exact hc)
        refine ⟨_, rfl, .inl ⟨rfl, _, SqL.of R4.at_⟩, _, rfl, _, rfl, _, rfl, _, rfl, show 8 ≤ sizeLine by decide, fun q4 nq4 => ⟨a, _, _, rfl, rfl, R4.look nq4, R4.sz (by omega), ?_⟩⟩
        have R5 := R4.add na nq4 (r := ⟨1, sgn1 c, t, 1, 1, push0, one, sgn1 c⟩) (mkRl (by decide) (sgnIn mc) tt (by decide) (mvR (let_gt al mc)) (pushD t o1) (said1 al mc))
        refine ⟨_, rfl, rfl, _, rfl, ?_⟩
        rw [show decide (V.str t = V.str (PySem.Str.ofString "")) = decide (t = nil0) from dec_str t nil0]
        refine ite2 (fun e => ?_) (fun e => ?_)
        · refine ⟨_, rfl, .inl ⟨rfl, _, SqL.of R5.at_⟩, _, rfl, _, rfl, _, rfl, show 8 ≤ sizeLine by decide, fun q5 nq5 => ⟨a, _, _, rfl, rfl, R5.look nq5, R5.sz (by omega), ?_⟩⟩
          have R6 := R5.add na nq5 (r := ⟨2, sgn1 c, t, 2, -1, keep0, nil0, nil0⟩) (mkRl (by decide) (sgnIn mc) tt (by decide) (mvL (let_lt al mc)) (keepD t) said0)
          exact ⟨keepB nq5 (keepB nq4 hb4), Rs.le ⟨_, R6⟩ (by omega), _, rfl⟩
        · have tne : t ≠ nil0 := fun z => e (decide_eq_true z)
          refine ⟨_, rfl, .inl ⟨rfl, _, SqL.of R5.at_⟩, _, rfl, _, rfl, _, rfl, _, rfl, show 8 ≤ sizeLine by decide, fun q5 nq5 => ⟨a, _, _, rfl, rfl, R5.look nq5, R5.sz (by omega), ?_⟩⟩
          have R6 := R5.add na nq5 (r := ⟨2, sgn1 c, t, 2, -1, swap0, two, nil0⟩) (mkRl (by decide) (sgnIn mc) tt (by decide) (mvL (let_lt al mc)) (swapD tne o2) said0)
          exact ⟨keepB nq5 (keepB nq4 hb4), Rs.le ⟨_, R6⟩ (by omega), _, rfl⟩
      · rintro σ H4 ⟨hb4, R4, v5, rfl⟩
        exact ⟨hb4, R4.le (by omega), _, _, rfl⟩
    · rintro σ H2 ⟨hb2, R, v4, v5, rfl⟩
      exact ⟨_, rfl, k a H2 na (R.le (show 9 * 3 ≤ 100 by decide))⟩
end
end Mk

set_option Elab.async false
set_option linter.unusedVariables false
set_option maxRecDepth 100000
set_option maxHeartbeats 8000000
namespace Mk
open PySem L2 Pk
theorem RsAt.mono {H1 H' H'' : Hp} {a : Addr} {l : PySem.Str} {n : Int} {m : Nat} {B : Kept} (R : RsAt H1 H' a l n m B) (s : Same H' H'') : RsAt H1 H'' a l n m B := ⟨R.same.trans s, s _ _ R.at_, fun p m => s _ _ (R.kept p m), R.ok, R.few⟩
theorem rs_one1 {H : Hp} {p1 a : Addr} {l : PySem.Str} {n : Int} {r1 : Rl} (n1 : H p1 = none) (o1 : RlOk l n r1) (na : (upd H p1 (.tup r1.vs)) a = none) :
    H a = none ∧ RsAt H (upd (upd H p1 (.tup r1.vs)) a (.lst [V.ref p1])) a l n 1 [(p1, r1)] := by
  have t1 := same_new (o := HO.tup r1.vs) n1
  have t3 := same_new (o := HO.lst [V.ref p1]) na
  refine ⟨t1.free na, t1.trans t3, upd_same, fun p m => ?_, fun p m => ?_, Nat.le_refl _⟩
  · rw [List.mem_singleton.mp m]
    exact t3 _ _ upd_same
  · rw [List.mem_singleton.mp m]
    exact o1
theorem rs_two {H : Hp} {p1 p2 a : Addr} {l : PySem.Str} {n : Int} {r1 r2 : Rl} (n1 : H p1 = none) (n2 : (upd H p1 (.tup r1.vs)) p2 = none) (o1 : RlOk l n r1) (o2 : RlOk l n r2) (na : (upd (upd H p1 (.tup r1.vs)) p2 (.tup r2.vs)) a = none) :
    H a = none ∧ RsAt H (upd (upd (upd H p1 (.tup r1.vs)) p2 (.tup r2.vs)) a (.lst [V.ref p1, V.ref p2])) a l n 2 [(p1, r1), (p2, r2)] := by
  have t1 := same_new (o := HO.tup r1.vs) n1
  have t2 := same_new (o := HO.tup r2.vs) n2
  have t3 := same_new (o := HO.lst [V.ref p1, V.ref p2]) na
  refine ⟨(t1.trans t2).free na, (t1.trans t2).trans t3, upd_same, fun p m => ?_, fun p m => ?_, Nat.le_refl _⟩
  · rcases List.mem_cons.mp m with rfl | m
    · exact t3 _ _ (t2 _ _ upd_same)
    · rw [List.mem_singleton.mp m]
      exact t3 _ _ upd_same
  · rcases List.mem_cons.mp m with rfl | m
    · exact o1
    · rw [List.mem_singleton.mp m]
      exact o2
theorem two_at {one two : PySem.Str} (h1 : symB one = true) (h2 : symB two = true) (i : Nat) : ∃ s, atI [V.str one, V.str two] ((0 + (i : Int)) % 2) = some (.str s) ∧ symB s = true ∧ (s = one ∨ s = two) := by
  have c : (0 + (i : Int)) % 2 = 0 ∨ (0 + (i : Int)) % 2 = 1 := by omega
  rcases c with e | e <;> rw [e]
  · exact ⟨one, rfl, h1, .inl rfl⟩
  · exact ⟨two, rfl, h2, .inr rfl⟩
theorem let_at {l : PySem.Str} {i : Nat} (h : i < l.length) : ∃ c, atI l.cps.toList (0 + (i : Int)) = some c ∧ c ∈ l.cps.toList := by
  have h' : i < l.cps.toList.length := by rw [Array.length_toList]; exact h
  have e : l.cps.toList[i]? = some l.cps.toList[i] := List.getElem?_eq_getElem h'
  refine ⟨_, ?_, List.getElem_mem h'⟩
  rw [show (0 : Int) + (i : Int) = ((i : Nat) : Int) by omega]
  exact atI_nat e
section
variable {P : Program} {w : World} {K : PySem.W.Frag} {mg : PySem.Str → Option Value} {base : Heap}
/-! _law_scanner -/
abbrev nScanner : List PySem.Str := ["letters", "one", "two", "rules", "top", "k"]
theorem scScanner : FnScope nScanner ["letters", "one", "two"] (defScope sScanner) := ⟨rfl, rfl, rfl, by decide +kernel, rfl, by decide +kernel, by decide +kernel⟩
theorem ok_scanner {f : Addr} {fd : FuncData} (F : Fun K "_law_scanner" "_law_scanner" sScanner f fd) (T : TM mg) : FnOk P w K mg base CX0 1 f fd ["letters", "one", "two"] spSkel := by
  refine F.ok scScanner (fun vs H Q E h => ?_) (fun cdv A outer s H vs Q E hr h => ?_)
  · obtain ⟨l, one, two, rfl, _⟩ := h
    rfl
  · obtain ⟨l, one, two, rfl, al, l3, o1, o2, k⟩ := h
    have nd := scScanner.nd
    refine ⟨_, (pss_cons (ps_set (i := 3) nd rfl (Or.inl rfl) (pe_lst (pa_cons (pe_tup (pa_cons pe_int (pa_cons pe_str (pa_cons pe_str (pa_cons pe_int (pa_cons pe_int (pa_cons pe_str (pa_cons pe_str (pa_cons pe_str pa_nil))))))))) (pa_cons (pe_tup (pa_cons pe_int (pa_cons pe_str (pa_cons pe_str (pa_cons pe_int (pa_cons pe_int (pa_cons pe_str (pa_cons pe_str (pa_cons pe_str pa_nil))))))))) pa_nil))))
      (pss_cons (ps_for PassesOwn.never rfl (pi_list (pe_lst (pa_cons pe_str (pa_cons (pv 1) (pa_cons (pv 2) pa_nil))))) (pg_name (i := 4) nd rfl (Or.inl rfl))
        (pss_cons (ps_for PassesOwn.never rfl (pi_range1 (by rfl) T.range (pa_cons (pe_callB call_len_str (by rfl) T.len PySem.boot_len (pa_cons (pv 0) pa_nil)) pa_nil)) (pg_name (i := 5) nd rfl (Or.inl rfl))
          (pss_cons (ps_expr (pe_bm PySem.F.plainAttrs_list PySem.F.slot_list_append PySem.F.type_list_append mt_append (pv 3) (pa_cons (pe_tup (pa_cons pe_int (pa_cons (pe_ix ix_str (pv 0) (pv 5) fun _ _ => rfl) (pa_cons (pv 4) (pa_cons pe_int (pa_cons pe_int (pa_cons pe_str (pa_cons (pe_ix ix_list (pe_lst (pa_cons (pv 1) (pa_cons (pv 2) pa_nil))) (pe_op op_mod (pv 5) pe_int) fun _ _ => rfl) (pa_cons pe_str pa_nil))))))))) pa_nil)))
          (pss_one (ps_expr (pe_bm PySem.F.plainAttrs_list PySem.F.slot_list_append PySem.F.type_list_append mt_append (pv 3) (pa_cons (pe_tup (pa_cons pe_int (pa_cons (pe_ix ix_str (pv 0) (pv 5) fun _ _ => rfl) (pa_cons (pv 4) (pa_cons pe_int (pa_cons (pe_un un_neg pe_int) (pa_cons pe_str (pa_cons pe_str (pa_cons (pe_ix ix_str (pv 0) (pv 5) fun _ _ => rfl) pa_nil))))))))) pa_nil))))))
        (pss_cons (ps_expr (pe_bm PySem.F.plainAttrs_list PySem.F.slot_list_append PySem.F.type_list_append mt_append (pv 3) (pa_cons (pe_tup (pa_cons pe_int (pa_cons pe_str (pa_cons (pv 4) (pa_cons pe_int (pa_cons (pe_un un_neg pe_int) (pa_cons pe_str (pa_cons pe_str (pa_cons pe_str pa_nil))))))))) pa_nil)))
        (pss_one (ps_expr (pe_bm PySem.F.plainAttrs_list PySem.F.slot_list_append PySem.F.type_list_append mt_append (pv 3) (pa_cons (pe_tup (pa_cons pe_int (pa_cons pe_str (pa_cons (pv 4) (pa_cons pe_int (pa_cons pe_int (pa_cons pe_str (pa_cons pe_str (pa_cons pe_str pa_nil))))))))) pa_nil)))))))
      (pss_cons (ps_for PassesOwn.never rfl (pi_range1 (by rfl) T.range (pa_cons (pe_callB call_len_str (by rfl) T.len PySem.boot_len (pa_cons (pv 0) pa_nil)) pa_nil)) (pg_name (i := 5) nd rfl (Or.inl rfl))
        (pss_one (ps_expr (pe_bm PySem.F.plainAttrs_list PySem.F.slot_list_append PySem.F.type_list_append mt_append (pv 3) (pa_cons (pe_tup (pa_cons pe_int (pa_cons (pe_ix ix_str (pv 0) (pv 5) fun _ _ => rfl) (pa_cons (pe_ix ix_list (pe_lst (pa_cons (pv 1) (pa_cons (pv 2) pa_nil))) (pe_op op_mod (pv 5) pe_int) fun _ _ => rfl) (pa_cons pe_int (pa_cons pe_int (pa_cons pe_str (pa_cons pe_str (pa_cons pe_str pa_nil))))))))) pa_nil)))))
      (pss_one (ps_ret (pv 3)))))), ?_⟩
    have szl : l.length ≤ sizeLine := Nat.le_trans l3 (by decide)
    refine ⟨show 8 ≤ sizeLine by decide, fun p1 n1 => ⟨show 8 ≤ sizeLine by decide, fun p2 n2 => ⟨show 2 ≤ sizeLine by decide, fun a na0 => ?_⟩⟩⟩
    obtain ⟨na, R0⟩ := rs_two (l := l) (n := 4) (r1 := ⟨0, lt0, nil0, 0, 1, keep0, nil0, nil0⟩) (r2 := ⟨2, gt0, nil0, 3, 0, keep0, nil0, PySem.Str.ofString "b"⟩) n1 n2 (mkRl (by decide) (sgnLt l) (.inr rfl) (by decide) (mvR lt_gt) (keepD _) said0) (mkRl (by decide) (sgnGt l) (.inr rfl) (by decide) (mv0 _) (keepD _) saidB) na0
    refine ⟨_, rfl, _, rfl, show 3 ≤ sizeLine by decide, fun b nb => ?_⟩
    have ab : b ≠ a := fun z => by
      rw [z] at nb
      have x := R0.at_.symm.trans nb
      cases x
    refine ⟨b, rfl, ⟨_, SqL.of upd_same⟩, for_list (K := K) (a := b) (xs := [V.str nil0, V.str one, V.str two]) (fun i σ H' => H' b = some (.lst [V.str nil0, V.str one, V.str two]) ∧ Rs H H' a l 4 (2 + 8 * i) ∧ ∃ v4 v5 : Option V, σ = [some (.str l), some (.str one), some (.str two), some (.ref a), v4, v5])
      ⟨upd_same, ⟨_, R0.mono (same_new nb)⟩, _, _, rfl⟩ (fun i σ H' _ h => SqL.of h.1) ?_ ?_⟩
    · rintro i v σ H2 hi ⟨hb2, R2, v4, v5, rfl⟩
      have i3 : i < 3 := (List.getElem?_eq_some_iff.mp hi).1
      obtain ⟨t, et, tt, tn, t3⟩ := three_at o1 o2 i3
      have ev : V.str t = v := Option.some.inj (et.symm.trans hi)
      subst ev
      have keepB : ∀ {H' : Hp} {q : Addr} {o o' : HO}, H' q = none → H' b = some (.lst [V.str nil0, V.str one, V.str two]) → (upd (upd H' q o) a o') b = some (.lst [V.str nil0, V.str one, V.str two]) := fun nq e => by
        rw [upd_ne ab]
        exact same_new nq _ _ e
      refine ⟨_, rfl, l, rfl, szl, _, rfl, by omega, by omega, for_range (lo := 0) (n := ((l.length : Nat) : Int).toNat) (fun j σ H' => H' b = some (.lst [V.str nil0, V.str one, V.str two]) ∧ Rs H H' a l 4 (2 + 8 * i + 2 * j) ∧ ∃ v5 : Option V, σ = [some (.str l), some (.str one), some (.str two), some (.ref a), some (.str t), v5])
        ⟨hb2, R2.le (by omega), _, rfl⟩ ?_ ?_⟩
      · rintro j σ H4 hj ⟨hb4, ⟨B4, R4⟩, v5, rfl⟩
        obtain ⟨c, ec, mc⟩ := let_at (l := l) (i := j) (by omega)
        obtain ⟨x, ex, ox, _⟩ := two_at o1 o2 j
        refine ⟨_, rfl, .inl ⟨rfl, _, SqL.of R4.at_⟩, _, rfl, _, rfl, l, _, c, rfl, rfl, szl, ec, _, rfl, _, rfl, _, rfl, show 2 ≤ sizeLine by decide, fun u nu => ?_⟩
        have R4' := R4.mono (same_new (o := HO.lst [V.str one, V.str two]) nu)
        refine ⟨_, rfl, _, _, rfl, rfl, show (0 : Int) < 2 by decide, u, _, _, .str x, rfl, rfl, SqL.of upd_same, ex, show 8 ≤ sizeLine by decide, fun q4 nq4 => ⟨a, _, _, rfl, rfl, R4'.look nq4, R4'.sz (by omega), ?_⟩⟩
        have R5 := R4'.add na nq4 (r := ⟨0, sgn1 c, t, 0, 1, push0, x, nil0⟩) (mkRl (by decide) (sgnIn mc) tt (by decide) (mvR (let_gt al mc)) (pushD t ox) said0)
        refine ⟨_, rfl, .inl ⟨rfl, _, SqL.of R5.at_⟩, _, rfl, _, rfl, l, _, c, rfl, rfl, szl, ec, _, rfl, _, rfl, _, rfl, _, rfl, l, _, c, rfl, rfl, szl, ec, show 8 ≤ sizeLine by decide, fun q5 nq5 => ⟨a, _, _, rfl, rfl, R5.look nq5, R5.sz (by omega), ?_⟩⟩
        have R6 := R5.add na nq5 (r := ⟨1, sgn1 c, t, 1, -1, keep0, nil0, sgn1 c⟩) (mkRl (by decide) (sgnIn mc) tt (by decide) (mvL (let_lt al mc)) (keepD t) (said1 al mc))
        exact ⟨keepB nq5 (keepB nq4 (same_new nu _ _ hb4)), Rs.le ⟨_, R6⟩ (by omega), _, rfl⟩
      · rintro σ H4 ⟨hb4, ⟨B4, R4⟩, v5, rfl⟩
        refine ⟨_, rfl, .inl ⟨rfl, _, SqL.of R4.at_⟩, _, rfl, _, rfl, show 8 ≤ sizeLine by decide, fun q4 nq4 => ⟨a, _, _, rfl, rfl, R4.look nq4, R4.sz (by omega), ?_⟩⟩
        have R5 := R4.add na nq4 (r := ⟨0, gt0, t, 1, -1, keep0, nil0, nil0⟩) (mkRl (by decide) (sgnGt l) tt (by decide) (mvL lt_gt.symm) (keepD t) said0)
        refine ⟨_, rfl, .inl ⟨rfl, _, SqL.of R5.at_⟩, _, rfl, show 8 ≤ sizeLine by decide, fun q5 nq5 => ⟨a, _, _, rfl, rfl, R5.look nq5, R5.sz (by omega), ?_⟩⟩
        have R6 := R5.add na nq5 (r := ⟨1, lt0, t, 2, 1, keep0, nil0, nil0⟩) (mkRl (by decide) (sgnLt l) tt (by decide) (mvR lt_gt) (keepD t) said0)
        exact ⟨keepB nq5 (keepB nq4 hb4), Rs.le ⟨_, R6⟩ (by omega), _, _, rfl⟩
    · rintro σ H2 ⟨hb2, R2, v4, v5, rfl⟩
      refine ⟨_, rfl, l, rfl, szl, _, rfl, by omega, by omega, for_range (lo := 0) (n := ((l.length : Nat) : Int).toNat) (fun j σ H' => Rs H H' a l 4 (30 + j) ∧ ∃ v5 : Option V, σ = [some (.str l), some (.str one), some (.str two), some (.ref a), v4, v5])
        ⟨R2.le (show 2 + 8 * 3 ≤ 30 by decide), _, rfl⟩ ?_ ?_⟩
      · rintro j σ H4 hj ⟨⟨B4, R4⟩, v5, rfl⟩
        obtain ⟨c, ec, mc⟩ := let_at (l := l) (i := j) (by omega)
        obtain ⟨x, ex, ox, _⟩ := two_at o1 o2 j
        refine ⟨_, rfl, .inl ⟨rfl, _, SqL.of R4.at_⟩, _, rfl, _, rfl, l, _, c, rfl, rfl, szl, ec, _, rfl, _, rfl, show 2 ≤ sizeLine by decide, fun u nu => ?_⟩
        have R4' := R4.mono (same_new (o := HO.lst [V.str one, V.str two]) nu)
        refine ⟨_, rfl, _, _, rfl, rfl, show (0 : Int) < 2 by decide, u, _, _, .str x, rfl, rfl, SqL.of upd_same, ex, show 8 ≤ sizeLine by decide, fun q4 nq4 => ⟨a, _, _, rfl, rfl, R4'.look nq4, R4'.sz (by omega), ?_⟩⟩
        have R5 := R4'.add na nq4 (r := ⟨2, sgn1 c, x, 2, 1, pop0, nil0, nil0⟩) (mkRl (by decide) (sgnIn mc) (.inl ox) (by decide) (mvR (let_gt al mc)) (popD (sym_ne ox)) said0)
        exact ⟨Rs.le ⟨_, R5⟩ (by omega), _, rfl⟩
      · rintro σ H4 ⟨R4, v5, rfl⟩
        exact ⟨_, rfl, k a H4 na (R4.le (by omega))⟩
end
end Mk

set_option Elab.async false
set_option linter.unusedVariables false
set_option maxRecDepth 100000
set_option maxHeartbeats 8000000
namespace Mk
open PySem L2 Pk
section
variable {P : Program} {w : World} {K : PySem.W.Frag} {mg : PySem.Str → Option Value} {base : Heap}
/-! _law_restorer -/
def spSkel5 : Sp := fun vs H Q _ => ∃ l one two : PySem.Str, vs = [.str l, .str one, .str two] ∧ Alpha l ∧ l.length ≤ 3 ∧ symB one = true ∧ symB two = true ∧ ∀ (p : Addr) (H' : Hp), H p = none → Rs H H' p l 5 100 → Q (.ref p) H'
abbrev nRestorer : List PySem.Str := ["letters", "one", "two", "rules", "top", "k", "mine"]
theorem scRestorer : FnScope nRestorer ["letters", "one", "two"] (defScope sRestorer) := ⟨rfl, rfl, rfl, by decide +kernel, rfl, by decide +kernel, by decide +kernel⟩
theorem ok_restorer {f : Addr} {fd : FuncData} (F : Fun K "_law_restorer" "_law_restorer" sRestorer f fd) (T : TM mg) : FnOk P w K mg base CX0 1 f fd ["letters", "one", "two"] spSkel5 := by
  refine F.ok scRestorer (fun vs H Q E h => ?_) (fun cdv A outer s H vs Q E hr h => ?_)
  · obtain ⟨l, one, two, rfl, _⟩ := h
    rfl
  · obtain ⟨l, one, two, rfl, al, l3, o1, o2, k⟩ := h
    have nd := scRestorer.nd
    refine ⟨_, (pss_cons (ps_set (i := 3) nd rfl (Or.inl rfl) (pe_lst (pa_cons (pe_tup (pa_cons pe_int (pa_cons pe_str (pa_cons pe_str (pa_cons pe_int (pa_cons pe_int (pa_cons pe_str (pa_cons pe_str (pa_cons pe_str pa_nil))))))))) pa_nil)))
      (pss_cons (ps_for PassesOwn.never rfl (pi_list (pe_lst (pa_cons pe_str (pa_cons (pv 1) (pa_cons (pv 2) pa_nil))))) (pg_name (i := 4) nd rfl (Or.inl rfl))
        (pss_cons (ps_expr (pe_bm PySem.F.plainAttrs_list PySem.F.slot_list_append PySem.F.type_list_append mt_append (pv 3) (pa_cons (pe_tup (pa_cons pe_int (pa_cons pe_str (pa_cons (pv 4) (pa_cons pe_int (pa_cons (pe_un un_neg pe_int) (pa_cons pe_str (pa_cons pe_str (pa_cons pe_str pa_nil))))))))) pa_nil)))
        (pss_cons (ps_expr (pe_bm PySem.F.plainAttrs_list PySem.F.slot_list_append PySem.F.type_list_append mt_append (pv 3) (pa_cons (pe_tup (pa_cons pe_int (pa_cons pe_str (pa_cons (pv 4) (pa_cons pe_int (pa_cons pe_int (pa_cons pe_str (pa_cons pe_str (pa_cons pe_str pa_nil))))))))) pa_nil)))
        (pss_cons (ps_expr (pe_bm PySem.F.plainAttrs_list PySem.F.slot_list_append PySem.F.type_list_append mt_append (pv 3) (pa_cons (pe_tup (pa_cons pe_int (pa_cons pe_str (pa_cons (pv 4) (pa_cons pe_int (pa_cons pe_int (pa_cons pe_str (pa_cons pe_str (pa_cons pe_str pa_nil))))))))) pa_nil)))
        (pss_one (ps_for PassesOwn.never rfl (pi_range1 (by rfl) T.range (pa_cons (pe_callB call_len_str (by rfl) T.len PySem.boot_len (pa_cons (pv 0) pa_nil)) pa_nil)) (pg_name (i := 5) nd rfl (Or.inl rfl))
          (pss_cons (ps_set (i := 6) nd rfl (Or.inl rfl) (pe_ix ix_list (pe_lst (pa_cons (pv 1) (pa_cons (pv 2) pa_nil))) (pe_op op_mod (pv 5) pe_int) fun _ _ => rfl))
          (pss_cons (ps_expr (pe_bm PySem.F.plainAttrs_list PySem.F.slot_list_append PySem.F.type_list_append mt_append (pv 3) (pa_cons (pe_tup (pa_cons pe_int (pa_cons (pe_ix ix_str (pv 0) (pv 5) fun _ _ => rfl) (pa_cons (pv 4) (pa_cons pe_int (pa_cons pe_int (pa_cons pe_str (pa_cons (pv 6) (pa_cons pe_str pa_nil))))))))) pa_nil)))
          (pss_cons (ps_expr (pe_bm PySem.F.plainAttrs_list PySem.F.slot_list_append PySem.F.type_list_append mt_append (pv 3) (pa_cons (pe_tup (pa_cons pe_int (pa_cons (pe_ix ix_str (pv 0) (pv 5) fun _ _ => rfl) (pa_cons (pv 4) (pa_cons pe_int (pa_cons (pe_un un_neg pe_int) (pa_cons pe_str (pa_cons pe_str (pa_cons pe_str pa_nil))))))))) pa_nil)))
          (pss_cons (ps_expr (pe_bm PySem.F.plainAttrs_list PySem.F.slot_list_append PySem.F.type_list_append mt_append (pv 3) (pa_cons (pe_tup (pa_cons pe_int (pa_cons (pe_ix ix_str (pv 0) (pv 5) fun _ _ => rfl) (pa_cons (pv 4) (pa_cons pe_int (pa_cons (pe_un un_neg pe_int) (pa_cons pe_str (pa_cons (pv 6) (pa_cons pe_str pa_nil))))))))) pa_nil)))
          (C8.pss_cut (ps_if (pt_cmpR op_eq (pv 4) (pv 6) (nomark _))
            (pss_one (ps_expr (pe_bm PySem.F.plainAttrs_list PySem.F.slot_list_append PySem.F.type_list_append mt_append (pv 3) (pa_cons (pe_tup (pa_cons pe_int (pa_cons (pe_ix ix_str (pv 0) (pv 5) fun _ _ => rfl) (pa_cons (pv 4) (pa_cons pe_int (pa_cons pe_int (pa_cons pe_str (pa_cons pe_str (pa_cons (pe_ix ix_str (pv 0) (pv 5) fun _ _ => rfl) pa_nil))))))))) pa_nil))))
            (pss_one (ps_if (pt_cmpR op_ne (pv 4) pe_str (nomark _))
              (pss_one (ps_expr (pe_bm PySem.F.plainAttrs_list PySem.F.slot_list_append PySem.F.type_list_append mt_append (pv 3) (pa_cons (pe_tup (pa_cons pe_int (pa_cons (pe_ix ix_str (pv 0) (pv 5) fun _ _ => rfl) (pa_cons (pv 4) (pa_cons pe_int (pa_cons (pe_un un_neg pe_int) (pa_cons pe_str (pa_cons pe_str (pa_cons pe_str pa_nil))))))))) pa_nil))))
              pss_nil)))
          (pss_one (ps_if (pt_cmpR op_ne (pv 4) pe_str (nomark _))
            (pss_one (ps_expr (pe_bm PySem.F.plainAttrs_list PySem.F.slot_list_append PySem.F.type_list_append mt_append (pv 3) (pa_cons (pe_tup (pa_cons pe_int (pa_cons (pe_ix ix_str (pv 0) (pv 5) fun _ _ => rfl) (pa_cons (pv 4) (pa_cons pe_int (pa_cons pe_int (pa_cons pe_str (pa_cons pe_str (pa_cons pe_str pa_nil))))))))) pa_nil))))
            pss_nil)))))))))))))
      (pss_one (ps_ret (pv 3))))), ?_⟩
    have szl : l.length ≤ sizeLine := Nat.le_trans l3 (by decide)
    refine ⟨show 8 ≤ sizeLine by decide, fun p1 n1 => ⟨show 1 ≤ sizeLine by decide, fun a na0 => ?_⟩⟩
    obtain ⟨na, R0⟩ := rs_one1 (l := l) (n := 5) (r1 := ⟨0, lt0, nil0, 0, 1, keep0, nil0, nil0⟩) n1 (mkRl (by decide) (sgnLt l) (.inr rfl) (by decide) (mvR lt_gt) (keepD _) said0) na0
    refine ⟨_, rfl, _, rfl, show 3 ≤ sizeLine by decide, fun b nb => ?_⟩
    have ab : b ≠ a := fun z => by
      rw [z] at nb
      have x := R0.at_.symm.trans nb
      cases x
    refine ⟨b, rfl, ⟨_, SqL.of upd_same⟩, for_list (K := K) (a := b) (xs := [V.str nil0, V.str one, V.str two]) (fun i σ H' => H' b = some (.lst [V.str nil0, V.str one, V.str two]) ∧ Rs H H' a l 5 (1 + 18 * i) ∧ ∃ v4 v5 v6 : Option V, σ = [some (.str l), some (.str one), some (.str two), some (.ref a), v4, v5, v6])
      ⟨upd_same, ⟨_, R0.mono (same_new nb)⟩, _, _, _, rfl⟩ (fun i σ H' _ h => SqL.of h.1) ?_ ?_⟩
    · rintro i v σ H2 hi ⟨hb2, ⟨B2, R⟩, v4, v5, v6, rfl⟩
      have i3 : i < 3 := (List.getElem?_eq_some_iff.mp hi).1
      obtain ⟨t, et, tt, tn, t3⟩ := three_at o1 o2 i3
      have ev : V.str t = v := Option.some.inj (et.symm.trans hi)
      subst ev
      have keepB : ∀ {H' : Hp} {q : Addr} {o o' : HO}, H' q = none → H' b = some (.lst [V.str nil0, V.str one, V.str two]) → (upd (upd H' q o) a o') b = some (.lst [V.str nil0, V.str one, V.str two]) := fun nq e => by
        rw [upd_ne ab]
        exact same_new nq _ _ e
      refine ⟨_, rfl, .inl ⟨rfl, _, SqL.of R.at_⟩, _, rfl, _, rfl, show 8 ≤ sizeLine by decide, fun q1 nq1 => ⟨a, _, _, rfl, rfl, R.look nq1, R.sz (by omega), ?_⟩⟩
      have R1 := R.add na nq1 (r := ⟨0, gt0, t, 1, -1, keep0, nil0, nil0⟩) (mkRl (by decide) (sgnGt l) tt (by decide) (mvL lt_gt.symm) (keepD t) said0)
      refine ⟨_, rfl, .inl ⟨rfl, _, SqL.of R1.at_⟩, _, rfl, show 8 ≤ sizeLine by decide, fun q2 nq2 => ⟨a, _, _, rfl, rfl, R1.look nq2, R1.sz (by omega), ?_⟩⟩
      have R2 := R1.add na nq2 (r := ⟨1, lt0, t, 2, 1, keep0, nil0, nil0⟩) (mkRl (by decide) (sgnLt l) tt (by decide) (mvR lt_gt) (keepD t) said0)
      refine ⟨_, rfl, .inl ⟨rfl, _, SqL.of R2.at_⟩, _, rfl, show 8 ≤ sizeLine by decide, fun q3 nq3 => ⟨a, _, _, rfl, rfl, R2.look nq3, R2.sz (by omega), ?_⟩⟩
      have R3 := R2.add na nq3 (r := ⟨3, lt0, t, 4, 1, keep0, nil0, PySem.Str.ofString "b"⟩) (mkRl (by decide) (sgnLt l) tt (by decide) (mvR lt_gt) (keepD t) saidB)
      refine ⟨_, rfl, l, rfl, szl, _, rfl, by omega, by omega, for_range (lo := 0) (n := ((l.length : Nat) : Int).toNat) (fun j σ H' => H' b = some (.lst [V.str nil0, V.str one, V.str two]) ∧ Rs H H' a l 5 (1 + 18 * i + 3 + 5 * j) ∧ ∃ v5 v6 : Option V, σ = [some (.str l), some (.str one), some (.str two), some (.ref a), some (.str t), v5, v6])
        ⟨keepB nq3 (keepB nq2 (keepB nq1 hb2)), Rs.le ⟨_, R3⟩ (by omega), _, _, rfl⟩ ?_ ?_⟩
      · rintro j σ H4 hj ⟨hb4, ⟨B4, R4⟩, v5, v6, rfl⟩
        obtain ⟨c, ec, mc⟩ := let_at (l := l) (i := j) (by omega)
        obtain ⟨x, ex, ox, _⟩ := two_at o1 o2 j
        refine ⟨_, rfl, _, rfl, show 2 ≤ sizeLine by decide, fun u nu => ?_⟩
        have R4' := R4.mono (same_new (o := HO.lst [V.str one, V.str two]) nu)
        refine ⟨_, rfl, _, _, rfl, rfl, show (0 : Int) < 2 by decide, u, _, _, .str x, rfl, rfl, SqL.of upd_same, ex, ?_⟩
        refine ⟨_, rfl, .inl ⟨rfl, _, SqL.of R4'.at_⟩, _, rfl, _, rfl, l, _, c, rfl, rfl, szl, ec, _, rfl, _, rfl, show 8 ≤ sizeLine by decide, fun q4 nq4 => ⟨a, _, _, rfl, rfl, R4'.look nq4, R4'.sz (by omega), ?_⟩⟩
        have R5 := R4'.add na nq4 (r := ⟨0, sgn1 c, t, 0, 1, push0, x, nil0⟩) (mkRl (by decide) (sgnIn mc) tt (by decide) (mvR (let_gt al mc)) (pushD t ox) said0)
        refine ⟨_, rfl, .inl ⟨rfl, _, SqL.of R5.at_⟩, _, rfl, _, rfl, l, _, c, rfl, rfl, szl, ec, _, rfl, _, rfl, show 8 ≤ sizeLine by decide, fun q5 nq5 => ⟨a, _, _, rfl, rfl, R5.look nq5, R5.sz (by omega), ?_⟩⟩
        have R6 := R5.add na nq5 (r := ⟨1, sgn1 c, t, 1, -1, keep0, nil0, nil0⟩) (mkRl (by decide) (sgnIn mc) tt (by decide) (mvL (let_lt al mc)) (keepD t) said0)
        refine ⟨_, rfl, .inl ⟨rfl, _, SqL.of R6.at_⟩, _, rfl, _, rfl, l, _, c, rfl, rfl, szl, ec, _, rfl, _, rfl, _, rfl, show 8 ≤ sizeLine by decide, fun q6 nq6 => ⟨a, _, _, rfl, rfl, R6.look nq6, R6.sz (by omega), ?_⟩⟩
        have R7 := R6.add na nq6 (r := ⟨3, sgn1 c, t, 3, -1, push0, x, nil0⟩) (mkRl (by decide) (sgnIn mc) tt (by decide) (mvL (let_lt al mc)) (pushD t ox) said0)
        refine ⟨fun σ' H' => σ' = [some (.str l), some (.str one), some (.str two), some (.ref a), some (.str t), some (.int (0 + (j : Int))), some (.str x)] ∧ H' b = some (.lst [V.str nil0, V.str one, V.str two]) ∧ Rs H H' a l 5 (1 + 18 * i + 3 + 5 * j + 4), ?_, ?_⟩
        · refine ⟨_, rfl, _, rfl, rfl, _, rfl, ?_⟩
          rw [dec_str]
          refine ite2 (fun e => ?_) (fun e => ?_)
          · have tx : t ≠ nil0 := by rw [of_decide_eq_true e]; exact sym_ne ox
            refine ⟨_, rfl, .inl ⟨rfl, _, SqL.of R7.at_⟩, _, rfl, _, rfl, l, _, c, rfl, rfl, szl, ec, _, rfl, _, rfl, _, rfl, l, _, c, rfl, rfl, szl, ec, show 8 ≤ sizeLine by decide, fun q7 nq7 => ⟨a, _, _, rfl, rfl, R7.look nq7, R7.sz (by omega), ?_⟩⟩
            have R8 := R7.add na nq7 (r := ⟨2, sgn1 c, t, 2, 1, pop0, nil0, sgn1 c⟩) (mkRl (by decide) (sgnIn mc) tt (by decide) (mvR (let_gt al mc)) (popD tx) (said1 al mc))
            exact ⟨rfl, keepB nq7 (keepB nq6 (keepB nq5 (keepB nq4 (same_new (o := HO.lst [V.str one, V.str two]) nu _ _ hb4)))), Rs.le ⟨_, R8⟩ (by omega)⟩
          · refine ⟨_, rfl, rfl, _, rfl, ite2 (fun e2 => ?_) (fun _ => ⟨rfl, (keepB nq6 (keepB nq5 (keepB nq4 (same_new (o := HO.lst [V.str one, V.str two]) nu _ _ hb4)))), Rs.le ⟨_, R7⟩ (by omega)⟩)⟩
            refine ⟨_, rfl, .inl ⟨rfl, _, SqL.of R7.at_⟩, _, rfl, _, rfl, l, _, c, rfl, rfl, szl, ec, _, rfl, _, rfl, show 8 ≤ sizeLine by decide, fun q7 nq7 => ⟨a, _, _, rfl, rfl, R7.look nq7, R7.sz (by omega), ?_⟩⟩
            have R8 := R7.add na nq7 (r := ⟨2, sgn1 c, t, 3, -1, keep0, nil0, nil0⟩) (mkRl (by decide) (sgnIn mc) tt (by decide) (mvL (let_lt al mc)) (keepD t) said0)
            exact ⟨rfl, keepB nq7 (keepB nq6 (keepB nq5 (keepB nq4 (same_new (o := HO.lst [V.str one, V.str two]) nu _ _ hb4)))), Rs.le ⟨_, R8⟩ (by omega)⟩
        rintro _ H8 ⟨rfl, hb8, ⟨B8, R8⟩⟩
        refine ⟨_, rfl, rfl, _, rfl, ite2 (fun e2 => ?_) (fun _ => ⟨hb8, Rs.le ⟨_, R8⟩ (by omega), _, _, rfl⟩)⟩
        have tx : t ≠ nil0 := fun z => by
          rw [z] at e2
          exact absurd e2 (by decide +kernel)
        refine ⟨_, rfl, .inl ⟨rfl, _, SqL.of R8.at_⟩, _, rfl, _, rfl, l, _, c, rfl, rfl, szl, ec, _, rfl, show 8 ≤ sizeLine by decide, fun q9 nq9 => ⟨a, _, _, rfl, rfl, R8.look nq9, R8.sz (by omega), ?_⟩⟩
        have R9 := R8.add na nq9 (r := ⟨4, sgn1 c, t, 2, 0, pop0, nil0, nil0⟩) (mkRl (by decide) (sgnIn mc) tt (by decide) (mv0 _) (popD tx) said0)
        exact ⟨keepB nq9 hb8, Rs.le ⟨_, R9⟩ (by omega), _, _, rfl⟩
      · rintro σ H4 ⟨hb4, R4, v5, v6, rfl⟩
        exact ⟨hb4, R4.le (by omega), _, _, _, rfl⟩
    · rintro σ H2 ⟨hb2, R2, v4, v5, v6, rfl⟩
      exact ⟨_, rfl, k a H2 na (R2.le (show 1 + 18 * 3 ≤ 100 by decide))⟩
end
end Mk

set_option Elab.async false
set_option linter.unusedVariables false
set_option maxRecDepth 100000
set_option maxHeartbeats 8000000
namespace Mk
open PySem L2 Pk
theorem rs_cat {H H0 : Hp} {a q1 q2 b a2 : Addr} {l : PySem.Str} {n : Int} {m : Nat} {B : Kept} {r1 r2 : Rl} (R : RsAt H H0 a l n m B) (n1 : H0 q1 = none) (n2 : (upd H0 q1 (.tup r1.vs)) q2 = none) (n3 : (upd (upd H0 q1 (.tup r1.vs)) q2 (.tup r2.vs)) b = none)
    (n4 : (upd (upd (upd H0 q1 (.tup r1.vs)) q2 (.tup r2.vs)) b (.lst [V.ref q1, V.ref q2])) a2 = none) (o1 : RlOk l n r1) (o2 : RlOk l n r2) :
    (upd (upd (upd H0 q1 (.tup r1.vs)) q2 (.tup r2.vs)) b (.lst [V.ref q1, V.ref q2])) a = some (.lst (refsK B)) ∧ H a2 = none ∧ RsAt H (upd (upd (upd (upd H0 q1 (.tup r1.vs)) q2 (.tup r2.vs)) b (.lst [V.ref q1, V.ref q2])) a2 (.lst (refsK B ++ [V.ref q1, V.ref q2]))) a2 l n (m + 2) (B ++ [(q1, r1), (q2, r2)]) := by
  have t1 := same_new (o := HO.tup r1.vs) n1
  have t2 := same_new (o := HO.tup r2.vs) n2
  have t3 := same_new (o := HO.lst [V.ref q1, V.ref q2]) n3
  have t4 := same_new (o := HO.lst (refsK B ++ [V.ref q1, V.ref q2])) n4
  refine ⟨t3 _ _ (t2 _ _ (t1 _ _ R.at_)), (((R.same.trans t1).trans t2).trans t3).free n4, (((R.same.trans t1).trans t2).trans t3).trans t4, ?_, fun p m => ?_, fun p m => ?_, ?_⟩
  · rw [upd_same]
    unfold refsK
    rw [List.map_append] <;> rfl
  · rcases List.mem_append.mp m with m | m
    · exact t4 _ _ (t3 _ _ (t2 _ _ (t1 _ _ (R.kept p m))))
    · rcases List.mem_cons.mp m with rfl | m
      · exact t4 _ _ (t3 _ _ (t2 _ _ upd_same))
      · rw [List.mem_singleton.mp m]
        exact t4 _ _ (t3 _ _ upd_same)
  · rcases List.mem_append.mp m with m | m
    · exact R.ok p m
    · rcases List.mem_cons.mp m with rfl | m
      · exact o1
      · rw [List.mem_singleton.mp m]
        exact o2
  · rw [List.length_append]
    have := R.few
    show B.length + 2 ≤ m + 2
    omega
section
variable {P : Program} {w : World} {K : PySem.W.Frag} {mg : PySem.Str → Option Value} {base : Heap}
/-! _law_caller -/
def spCaller (K : PySem.W.Frag) : Sp := fun vs H Q _ => ∃ (l one two : PySem.Str) (aM : Addr) (ms : List Int), vs = [.str l, .str one, .str two, .ref aM] ∧ Alpha l ∧ l.length ≤ 3 ∧ symB one = true ∧ symB two = true ∧ SqL K H aM (ms.map V.int) ∧ 9 ≤ ms.length ∧
  ∀ (p : Addr) (H' : Hp), H p = none → Rs H H' p l 4 100 → Q (.ref p) H'
abbrev nCaller : List PySem.Str := ["letters", "one", "two", "modes", "rules", "tops", "j", "k", "mode", "letter"]
theorem scCaller : FnScope nCaller ["letters", "one", "two", "modes"] (defScope sCaller) := ⟨rfl, rfl, rfl, by decide +kernel, rfl, by decide +kernel, by decide +kernel⟩
theorem ok_caller {f : Addr} {fd : FuncData} (F : Fun K "_law_caller" "_law_caller" sCaller f fd) (T : TM mg) : FnOk P w K mg base CX0 1 f fd ["letters", "one", "two", "modes"] (spCaller K) := by
  refine F.ok scCaller (fun vs H Q E h => ?_) (fun cdv A outer s H vs Q E hr h => ?_)
  · obtain ⟨l, one, two, aM, ms, rfl, _⟩ := h
    rfl
  · obtain ⟨l, one, two, aM, ms, rfl, al, l3, o1, o2, hM, ms9, k⟩ := h
    have nd := scCaller.nd
    refine ⟨_, (pss_cons (ps_set (i := 4) nd rfl (Or.inl rfl) (pe_lst (pa_cons (pe_tup (pa_cons pe_int (pa_cons pe_str (pa_cons pe_str (pa_cons pe_int (pa_cons pe_int (pa_cons pe_str (pa_cons pe_str (pa_cons pe_str pa_nil))))))))) (pa_cons (pe_tup (pa_cons pe_int (pa_cons pe_str (pa_cons pe_str (pa_cons pe_int (pa_cons pe_int (pa_cons pe_str (pa_cons pe_str (pa_cons pe_str pa_nil))))))))) pa_nil))))
      (pss_cons (ps_set (i := 4) nd rfl (Or.inl rfl) (pe_op op_cat (pv 4) (pe_lst (pa_cons (pe_tup (pa_cons pe_int (pa_cons pe_str (pa_cons (pv 1) (pa_cons pe_int (pa_cons pe_int (pa_cons pe_str (pa_cons pe_str (pa_cons pe_str pa_nil))))))))) (pa_cons (pe_tup (pa_cons pe_int (pa_cons pe_str (pa_cons (pv 2) (pa_cons pe_int (pa_cons pe_int (pa_cons pe_str (pa_cons pe_str (pa_cons pe_str pa_nil))))))))) pa_nil)))))
      (pss_cons (ps_set (i := 5) nd rfl (Or.inl rfl) (pe_lst (pa_cons pe_str (pa_cons (pv 1) (pa_cons (pv 2) pa_nil)))))
      (pss_cons (ps_for PassesOwn.never rfl (pi_range1 (by rfl) T.range (pa_cons pe_int pa_nil)) (pg_name (i := 6) nd rfl (Or.inl rfl))
        (pss_cons (ps_for PassesOwn.never rfl (pi_range1 (by rfl) T.range (pa_cons (pe_callB call_len_str (by rfl) T.len PySem.boot_len (pa_cons (pv 0) pa_nil)) pa_nil)) (pg_name (i := 7) nd rfl (Or.inl rfl))
          (pss_cons (ps_set (i := 8) nd rfl (Or.inl rfl) (pe_ix ix_list (pv 3) (pe_op op_add (pe_op op_mul pe_int (pv 7)) (pv 6)) fun _ _ => rfl))
          (C8.pss_cut (ps_if (PW.pt (pw_or (pt_cmpR op_lt (pv 8) pe_int (nomark _)) (pw_or1 (pt_cmpR op_eq (pv 6) pe_int (nomark _)))))
            (pss_one (ps_expr (pe_bm PySem.F.plainAttrs_list PySem.F.slot_list_append PySem.F.type_list_append mt_append (pv 4) (pa_cons (pe_tup (pa_cons pe_int (pa_cons (pe_ix ix_str (pv 0) (pv 7) fun _ _ => rfl) (pa_cons (pe_ix ix_list (pv 5) (pv 6) fun _ _ => rfl) (pa_cons pe_int (pa_cons pe_int (pa_cons pe_str (pa_cons (pv 1) (pa_cons pe_str pa_nil))))))))) pa_nil))))
            (pss_one (ps_if (pt_cmpR op_eq (pv 8) pe_int (nomark _))
              (pss_one (ps_expr (pe_bm PySem.F.plainAttrs_list PySem.F.slot_list_append PySem.F.type_list_append mt_append (pv 4) (pa_cons (pe_tup (pa_cons pe_int (pa_cons (pe_ix ix_str (pv 0) (pv 7) fun _ _ => rfl) (pa_cons (pe_ix ix_list (pv 5) (pv 6) fun _ _ => rfl) (pa_cons (pv 6) (pa_cons pe_int (pa_cons pe_str (pa_cons pe_str (pa_cons pe_str pa_nil))))))))) pa_nil))))
              (pss_one (ps_expr (pe_bm PySem.F.plainAttrs_list PySem.F.slot_list_append PySem.F.type_list_append mt_append (pv 4) (pa_cons (pe_tup (pa_cons pe_int (pa_cons (pe_ix ix_str (pv 0) (pv 7) fun _ _ => rfl) (pa_cons (pe_ix ix_list (pv 5) (pv 6) fun _ _ => rfl) (pa_cons pe_int (pa_cons pe_int (pa_cons pe_str (pa_cons (pe_ix ix_list (pv 5) (pe_op op_sub pe_int (pv 6)) fun _ _ => rfl) (pa_cons pe_str pa_nil))))))))) pa_nil)))))))
          (pss_cons (ps_expr (pe_bm PySem.F.plainAttrs_list PySem.F.slot_list_append PySem.F.type_list_append mt_append (pv 4) (pa_cons (pe_tup (pa_cons pe_int (pa_cons (pe_ix ix_str (pv 0) (pv 7) fun _ _ => rfl) (pa_cons (pe_ix ix_list (pv 5) (pv 6) fun _ _ => rfl) (pa_cons pe_int (pa_cons pe_int (pa_cons pe_str (pa_cons (pv 2) (pa_cons pe_str pa_nil))))))))) pa_nil)))
          (pss_one (ps_expr (pe_bm PySem.F.plainAttrs_list PySem.F.slot_list_append PySem.F.type_list_append mt_append (pv 4) (pa_cons (pe_tup (pa_cons pe_int (pa_cons (pe_ix ix_str (pv 0) (pv 7) fun _ _ => rfl) (pa_cons (pe_ix ix_list (pv 5) (pv 6) fun _ _ => rfl) (pa_cons pe_int (pa_cons (pe_un un_neg pe_int) (pa_cons pe_str (pa_cons pe_str (pa_cons pe_str pa_nil))))))))) pa_nil))))))))
        (pss_cons (ps_expr (pe_bm PySem.F.plainAttrs_list PySem.F.slot_list_append PySem.F.type_list_append mt_append (pv 4) (pa_cons (pe_tup (pa_cons pe_int (pa_cons pe_str (pa_cons (pe_ix ix_list (pv 5) (pv 6) fun _ _ => rfl) (pa_cons pe_int (pa_cons pe_int (pa_cons pe_str (pa_cons (pv 2) (pa_cons pe_str pa_nil))))))))) pa_nil)))
        (pss_cons (ps_expr (pe_bm PySem.F.plainAttrs_list PySem.F.slot_list_append PySem.F.type_list_append mt_append (pv 4) (pa_cons (pe_tup (pa_cons pe_int (pa_cons pe_str (pa_cons (pe_ix ix_list (pv 5) (pv 6) fun _ _ => rfl) (pa_cons pe_int (pa_cons (pe_un un_neg pe_int) (pa_cons pe_str (pa_cons pe_str (pa_cons pe_str pa_nil))))))))) pa_nil)))
        (pss_one (ps_expr (pe_bm PySem.F.plainAttrs_list PySem.F.slot_list_append PySem.F.type_list_append mt_append (pv 4) (pa_cons (pe_tup (pa_cons pe_int (pa_cons pe_str (pa_cons (pe_ix ix_list (pv 5) (pv 6) fun _ _ => rfl) (pa_cons pe_int (pa_cons pe_int (pa_cons pe_str (pa_cons pe_str (pa_cons pe_str pa_nil))))))))) pa_nil))))))))
      (pss_cons (ps_for PassesOwn.never rfl (pi_str (pv 0)) (pg_name (i := 9) nd rfl (Or.inl rfl))
        (pss_cons (ps_expr (pe_bm PySem.F.plainAttrs_list PySem.F.slot_list_append PySem.F.type_list_append mt_append (pv 4) (pa_cons (pe_tup (pa_cons pe_int (pa_cons (pv 9) (pa_cons (pv 1) (pa_cons pe_int (pa_cons pe_int (pa_cons pe_str (pa_cons pe_str (pa_cons pe_str pa_nil))))))))) pa_nil)))
        (pss_one (ps_expr (pe_bm PySem.F.plainAttrs_list PySem.F.slot_list_append PySem.F.type_list_append mt_append (pv 4) (pa_cons (pe_tup (pa_cons pe_int (pa_cons (pv 9) (pa_cons (pv 2) (pa_cons pe_int (pa_cons pe_int (pa_cons pe_str (pa_cons pe_str (pa_cons (pv 9) pa_nil))))))))) pa_nil))))))
      (pss_one (ps_ret (pv 4)))))))), ?_⟩
    have szl : l.length ≤ sizeLine := Nat.le_trans l3 (by decide)
    refine ⟨show 8 ≤ sizeLine by decide, fun p1 n1 => ⟨show 8 ≤ sizeLine by decide, fun p2 n2 => ⟨show 2 ≤ sizeLine by decide, fun a0 na0 => ?_⟩⟩⟩
    obtain ⟨_, R0⟩ := rs_two (l := l) (n := 4) (r1 := ⟨0, lt0, nil0, 0, 1, keep0, nil0, nil0⟩) (r2 := ⟨0, gt0, nil0, 3, 0, keep0, nil0, nil0⟩) n1 n2 (mkRl (by decide) (sgnLt l) (.inr rfl) (by decide) (mvR lt_gt) (keepD _) said0) (mkRl (by decide) (sgnGt l) (.inr rfl) (by decide) (mv0 _) (keepD _) said0) na0
    refine ⟨_, rfl, _, rfl, show 8 ≤ sizeLine by decide, fun p3 n3 => ⟨_, rfl, show 8 ≤ sizeLine by decide, fun p4 n4 => ⟨show 2 ≤ sizeLine by decide, fun b0 nb0 => ?_⟩⟩⟩
    have CAT := fun a2 n4' => rs_cat (a2 := a2) (r1 := ⟨0, gt0, one, 1, 0, pop0, nil0, PySem.Str.ofString "k"⟩) (r2 := ⟨0, gt0, two, 2, 0, pop0, nil0, PySem.Str.ofString "k"⟩) R0 n3 n4 nb0 n4' (mkRl (by decide) (sgnGt l) (.inl o1) (by decide) (mv0 _) (popD (sym_ne o1)) saidK) (mkRl (by decide) (sgnGt l) (.inl o2) (by decide) (mv0 _) (popD (sym_ne o2)) saidK)
    have R0at := same_new (o := HO.lst [V.ref p3, V.ref p4]) nb0 _ _ (same_new n4 _ _ (same_new n3 _ _ R0.at_))
    refine ⟨a0, b0, _, _, rfl, rfl, R0at, upd_same, show 4 ≤ sizeLine by decide, fun a na1 => ?_⟩
    obtain ⟨_, na, R⟩ := CAT a na1
    clear CAT R0 R0at
    refine ⟨_, rfl, _, rfl, show 3 ≤ sizeLine by decide, fun c nc => ?_⟩
    have ac : c ≠ a := fun z => by
      rw [z] at nc
      have x := R.at_.symm.trans nc
      cases x
    have hM0 := R.same.seq hM
    refine ⟨_, rfl, by decide, by decide, for_range (lo := 0) (n := (3 : Int).toNat) (fun i σ H' => H' c = some (.lst [V.str nil0, V.str one, V.str two]) ∧ Rs H H' a l 4 (4 + 12 * i) ∧ ∃ v6 v7 v8 v9 : Option V, σ = [some (.str l), some (.str one), some (.str two), some (.ref aM), some (.ref a), some (.ref c), v6, v7, v8, v9])
      ⟨upd_same, ⟨_, R.mono (same_new nc)⟩, _, _, _, _, rfl⟩ ?_ ?_⟩
    · rintro i σ H2 hi ⟨hc2, R2, v6, v7, v8, v9, rfl⟩
      have i3 : i < 3 := by omega
      obtain ⟨t, et, tt, tn, t3⟩ := three_at o1 o2 i3
      have eti : atI [V.str nil0, V.str one, V.str two] (0 + (i : Int)) = some (.str t) := by
        rw [show (0 : Int) + (i : Int) = ((i : Nat) : Int) by omega]
        exact atI_nat et
      have keepB : ∀ {H' : Hp} {q : Addr} {o o' : HO}, H' q = none → H' c = some (.lst [V.str nil0, V.str one, V.str two]) → (upd (upd H' q o) a o') c = some (.lst [V.str nil0, V.str one, V.str two]) := fun nq e => by
        rw [upd_ne ac]
        exact same_new nq _ _ e
      refine ⟨_, rfl, l, rfl, szl, _, rfl, by omega, by omega, for_range (lo := 0) (n := ((l.length : Nat) : Int).toNat) (fun j σ H' => H' c = some (.lst [V.str nil0, V.str one, V.str two]) ∧ Rs H H' a l 4 (4 + 12 * i + 3 * j) ∧ ∃ v7 v8 v9 : Option V, σ = [some (.str l), some (.str one), some (.str two), some (.ref aM), some (.ref a), some (.ref c), some (.int (0 + (i : Int))), v7, v8, v9])
        ⟨hc2, R2.le (by omega), _, _, _, rfl⟩ ?_ ?_⟩
      · rintro j σ H4 hj ⟨hc4, ⟨B4, R4⟩, v7, v8, v9, rfl⟩
        obtain ⟨d, ed, md⟩ := let_at (l := l) (i := j) (by omega)
        have jl : j < l.length := by omega
        obtain ⟨mode, em⟩ : ∃ x, ms[3 * j + i]? = some x := ⟨_, List.getElem?_eq_getElem (show 3 * j + i < ms.length by omega)⟩
        refine ⟨_, rfl, _, rfl, _, _, rfl, rfl, .inl ⟨by decide, by decide⟩, _, rfl, _, _, rfl, rfl, aM, _, _, .int mode, rfl, rfl, R4.same.seq hM, ?_, ?_⟩
        · rw [show (3 : Int) * (0 + (j : Int)) + (0 + (i : Int)) = ((3 * j + i : Nat) : Int) by omega]
          exact atI_nat (by rw [List.getElem?_map, em] <;> rfl)
        have af : (0 : Int) ≤ 0 + (i : Int) ∧ 0 + (i : Int) ≤ 4 - 1 := by omega
        refine ⟨fun σ' H' => σ' = [some (.str l), some (.str one), some (.str two), some (.ref aM), some (.ref a), some (.ref c), some (.int (0 + (i : Int))), some (.int (0 + (j : Int))), some (.int mode), v9] ∧ H' c = some (.lst [V.str nil0, V.str one, V.str two]) ∧ Rs H H' a l 4 (4 + 12 * i + 3 * j + 1), ?_, ?_⟩
        · have add1 : ∀ q, H4 q = none → (upd (upd H4 q (.tup [.int 0, .str (sgn1 d), .str t, .int 0, .int 1, .str push0, .str one, .str nil0])) a (.lst (refsK B4 ++ [V.ref q]))) c = some (.lst [V.str nil0, V.str one, V.str two]) ∧ Rs H (upd (upd H4 q (.tup [.int 0, .str (sgn1 d), .str t, .int 0, .int 1, .str push0, .str one, .str nil0])) a (.lst (refsK B4 ++ [V.ref q]))) a l 4 (4 + 12 * i + 3 * j + 1) := fun q nq => by
            have R5 := R4.add na nq (r := ⟨0, sgn1 d, t, 0, 1, push0, one, nil0⟩) (mkRl (by decide) (sgnIn md) tt (by decide) (mvR (let_gt al md)) (pushD t o1) said0)
            exact ⟨keepB nq hc4, _, R5⟩
          refine ⟨_, rfl, _, _, rfl, rfl, _, rfl, ite2 (fun _ => ?_) (fun _ => ?_)⟩
          · refine iteT ?_
            refine ⟨_, rfl, .inl ⟨rfl, _, SqL.of R4.at_⟩, _, rfl, _, rfl, l, _, d, rfl, rfl, szl, ed, _, rfl, _, rfl, c, _, _, .str t, rfl, rfl, SqL.of hc4, eti, _, rfl, show 8 ≤ sizeLine by decide, fun q nq => ⟨a, _, _, rfl, rfl, R4.look nq, R4.sz (by omega), ?_⟩⟩
            exact ⟨rfl, add1 q nq⟩
          · refine ⟨_, rfl, rfl, _, rfl, ite2 (fun _ => ?_) (fun e => ?_)⟩
            · refine ⟨_, rfl, .inl ⟨rfl, _, SqL.of R4.at_⟩, _, rfl, _, rfl, l, _, d, rfl, rfl, szl, ed, _, rfl, _, rfl, c, _, _, .str t, rfl, rfl, SqL.of hc4, eti, _, rfl, show 8 ≤ sizeLine by decide, fun q nq => ⟨a, _, _, rfl, rfl, R4.look nq, R4.sz (by omega), ?_⟩⟩
              exact ⟨rfl, add1 q nq⟩
            · have i0 : i ≠ 0 := fun z => e (by rw [z] <;> rfl)
              have tne := sym_ne (tn i0)
              refine ⟨_, rfl, rfl, _, rfl, ite2 (fun _ => ?_) (fun _ => ?_)⟩
              · refine ⟨_, rfl, .inl ⟨rfl, _, SqL.of R4.at_⟩, _, rfl, _, rfl, l, _, d, rfl, rfl, szl, ed, _, rfl, _, rfl, c, _, _, .str t, rfl, rfl, SqL.of hc4, eti, _, rfl, show 8 ≤ sizeLine by decide, fun q nq => ⟨a, _, _, rfl, rfl, R4.look nq, R4.sz (by omega), ?_⟩⟩
                have R5 := R4.add na nq (r := ⟨0, sgn1 d, t, 0 + (i : Int), 0, pop0, nil0, PySem.Str.ofString "b"⟩) (mkRl (by decide) (sgnIn md) tt af (mv0 _) (popD tne) saidB)
                exact ⟨rfl, keepB nq hc4, _, R5⟩
              · obtain ⟨x, ex, ox⟩ : ∃ x, atI [V.str nil0, V.str one, V.str two] (3 - (0 + (i : Int))) = some (.str x) ∧ symB x = true := by
                  have cs : i = 1 ∨ i = 2 := by omega
                  rcases cs with rfl | rfl
                  · exact ⟨two, rfl, o2⟩
                  · exact ⟨one, rfl, o1⟩
                refine ⟨_, rfl, .inl ⟨rfl, _, SqL.of R4.at_⟩, _, rfl, _, rfl, l, _, d, rfl, rfl, szl, ed, _, rfl, _, rfl, c, _, _, .str t, rfl, rfl, SqL.of hc4, eti, _, rfl, _, rfl, _, _, rfl, rfl, c, _, _, .str x, rfl, rfl, SqL.of hc4, ex, show 8 ≤ sizeLine by decide, fun q nq => ⟨a, _, _, rfl, rfl, R4.look nq, R4.sz (by omega), ?_⟩⟩
                have R5 := R4.add na nq (r := ⟨0, sgn1 d, t, 1, 1, swap0, x, nil0⟩) (mkRl (by decide) (sgnIn md) tt (by decide) (mvR (let_gt al md)) (swapD tne ox) said0)
                exact ⟨rfl, keepB nq hc4, _, R5⟩
        rintro _ H8 ⟨rfl, hc8, ⟨B8, R8⟩⟩
        refine ⟨_, rfl, .inl ⟨rfl, _, SqL.of R8.at_⟩, _, rfl, _, rfl, l, _, d, rfl, rfl, szl, ed, _, rfl, _, rfl, c, _, _, .str t, rfl, rfl, SqL.of hc8, eti, _, rfl, show 8 ≤ sizeLine by decide, fun q nq => ⟨a, _, _, rfl, rfl, R8.look nq, R8.sz (by omega), ?_⟩⟩
        have R9 := R8.add na nq (r := ⟨1, sgn1 d, t, 0, 0, push0, two, nil0⟩) (mkRl (by decide) (sgnIn md) tt (by decide) (mv0 _) (pushD t o2) said0)
        refine ⟨_, rfl, .inl ⟨rfl, _, SqL.of R9.at_⟩, _, rfl, _, rfl, l, _, d, rfl, rfl, szl, ed, _, rfl, _, rfl, c, _, _, .str t, rfl, rfl, SqL.of (keepB nq hc8), eti, _, rfl, show 8 ≤ sizeLine by decide, fun q2 nq2 => ⟨a, _, _, rfl, rfl, R9.look nq2, R9.sz (by omega), ?_⟩⟩
        have R10 := R9.add na nq2 (r := ⟨2, sgn1 d, t, 3, -1, keep0, nil0, nil0⟩) (mkRl (by decide) (sgnIn md) tt (by decide) (mvL (let_lt al md)) (keepD t) said0)
        exact ⟨keepB nq2 (keepB nq hc8), Rs.le ⟨_, R10⟩ (by omega), _, _, _, rfl⟩
      · rintro σ H4 ⟨hc4, ⟨B4, R4⟩, v7, v8, v9, rfl⟩
        refine ⟨_, rfl, .inl ⟨rfl, _, SqL.of R4.at_⟩, _, rfl, _, rfl, c, _, _, .str t, rfl, rfl, SqL.of hc4, eti, _, rfl, show 8 ≤ sizeLine by decide, fun q nq => ⟨a, _, _, rfl, rfl, R4.look nq, R4.sz (by omega), ?_⟩⟩
        have R5 := R4.add na nq (r := ⟨1, gt0, t, 0, 0, push0, two, nil0⟩) (mkRl (by decide) (sgnGt l) tt (by decide) (mv0 _) (pushD t o2) said0)
        refine ⟨_, rfl, .inl ⟨rfl, _, SqL.of R5.at_⟩, _, rfl, _, rfl, c, _, _, .str t, rfl, rfl, SqL.of (keepB nq hc4), eti, _, rfl, show 8 ≤ sizeLine by decide, fun q2 nq2 => ⟨a, _, _, rfl, rfl, R5.look nq2, R5.sz (by omega), ?_⟩⟩
        have R6 := R5.add na nq2 (r := ⟨2, gt0, t, 3, -1, keep0, nil0, nil0⟩) (mkRl (by decide) (sgnGt l) tt (by decide) (mvL lt_gt.symm) (keepD t) said0)
        refine ⟨_, rfl, .inl ⟨rfl, _, SqL.of R6.at_⟩, _, rfl, _, rfl, c, _, _, .str t, rfl, rfl, SqL.of (keepB nq2 (keepB nq hc4)), eti, show 8 ≤ sizeLine by decide, fun q3 nq3 => ⟨a, _, _, rfl, rfl, R6.look nq3, R6.sz (by omega), ?_⟩⟩
        have R7 := R6.add na nq3 (r := ⟨3, lt0, t, 1, 1, keep0, nil0, nil0⟩) (mkRl (by decide) (sgnLt l) tt (by decide) (mvR lt_gt) (keepD t) said0)
        exact ⟨keepB nq3 (keepB nq2 (keepB nq hc4)), Rs.le ⟨_, R7⟩ (by omega), _, _, _, _, rfl⟩
    · rintro σ H2 ⟨hc2, R2, v6, v7, v8, v9, rfl⟩
      refine ⟨_, rfl, l, rfl, for_it walk_str (fun j σ H' => Rs H H' a l 4 (40 + 2 * j) ∧ ∃ v9 : Option V, σ = [some (.str l), some (.str one), some (.str two), some (.ref aM), some (.ref a), some (.ref c), v6, v7, v8, v9])
        ⟨R2.le (show 4 + 12 * 3 ≤ 40 by decide), _, rfl⟩ (fun _ _ _ _ _ => trivial) ?_ ?_⟩
      · rintro j v σ H4 _ hj ⟨⟨B4, R4⟩, v9, rfl⟩ ⟨rfl, d, hd, rfl⟩
        have md : d ∈ l.cps.toList := List.mem_of_getElem? (by rw [Array.getElem?_toList]; exact hd)
        have jl : j < l.length := hj
        refine ⟨_, rfl, .inl ⟨rfl, _, SqL.of R4.at_⟩, _, rfl, _, rfl, show 8 ≤ sizeLine by decide, fun q nq => ⟨a, _, _, rfl, rfl, R4.look nq, R4.sz (by omega), ?_⟩⟩
        have R5 := R4.add na nq (r := ⟨3, sgn1 d, one, 1, 0, pop0, nil0, nil0⟩) (mkRl (by decide) (sgnIn md) (.inl o1) (by decide) (mv0 _) (popD (sym_ne o1)) said0)
        refine ⟨_, rfl, .inl ⟨rfl, _, SqL.of R5.at_⟩, _, rfl, _, rfl, _, rfl, show 8 ≤ sizeLine by decide, fun q2 nq2 => ⟨a, _, _, rfl, rfl, R5.look nq2, R5.sz (by omega), ?_⟩⟩
        have R6 := R5.add na nq2 (r := ⟨3, sgn1 d, two, 2, 0, pop0, nil0, sgn1 d⟩) (mkRl (by decide) (sgnIn md) (.inl o2) (by decide) (mv0 _) (popD (sym_ne o2)) (said1 al md))
        exact ⟨Rs.le ⟨_, R6⟩ (by omega), _, rfl⟩
      · rintro σ H4 ⟨R4, v9, rfl⟩
        have ls : l.cps.size ≤ 3 := l3
        exact ⟨_, rfl, k a H4 na (R4.le (by omega))⟩
end
end Mk

set_option Elab.async false
set_option linter.unusedVariables false
set_option maxRecDepth 100000
set_option maxHeartbeats 8000000
namespace Mk
open PySem L2 Pk
abbrev nMachine : List PySem.Str := ["script", "at", "head", "letters", "symbols", "states", "rules", "signs", "tops", "state", "row", "k", "j", "part", "act", "turn", "key", "yes", "letter", "rule"]
theorem scMachine : FnScope nMachine ["script", "at"] (defScope sMachine) := ⟨rfl, rfl, rfl, by decide +kernel, rfl, by decide +kernel, by decide +kernel⟩
/-- what a generator of machines returns -/
def MachD (H : Hp) (p : Addr) (H' : Hp) : Prop := Same H H' ∧ ∃ (l : PySem.Str) (n : Int) (aR aY : Addr) (B : Kept) (ys : List Int), H' p = some (.lst [.str l, .int n, .ref aR, .ref aY]) ∧ Alpha l ∧ l.length ≤ 3 ∧ 1 ≤ n ∧ n ≤ 5 ∧ H' aR = some (.lst (refsK B)) ∧ KeptAt H' B ∧
  (∀ p ∈ B, RlOk l n p.2) ∧ B.length ≤ 400 ∧ H' aY = some (.lst (ys.map V.int)) ∧ (∀ y ∈ ys, 0 ≤ y ∧ y ≤ n - 1) ∧ ys.length ≤ 5
theorem cut_take {xs : List V} {b : Nat} : cutV xs none (some (b : Int)) = xs.take b := by
  unfold cutV
  rw [HT.sIx_none, HT.sIx_nat]
  show (xs.drop 0).take (min b xs.length - 0) = xs.take b
  rw [List.drop_zero, Nat.sub_zero]
  by_cases h : b ≤ xs.length
  · rw [Nat.min_eq_left h]
  · rw [Nat.min_eq_right (by omega), List.take_of_length_le (Nat.le_refl _), List.take_of_length_le (by omega)]
theorem refs_take (B : Kept) (b : Nat) : (refsK B).take b = refsK (B.take b) := by
  unfold refsK
  rw [List.map_take]
theorem powers_at {i : Nat} (h : i < 5) : ∃ v : Int, atI [V.int 1, V.int 2, V.int 4, V.int 8, V.int 3] (0 + (i : Int)) = some (.int v) ∧ 0 < v ∧ v < 9 := by
  have c : i = 0 ∨ i = 1 ∨ i = 2 ∨ i = 3 ∨ i = 4 := by omega
  rcases c with rfl | rfl | rfl | rfl | rfl
  · exact ⟨1, rfl, by omega, by omega⟩
  · exact ⟨2, rfl, by omega, by omega⟩
  · exact ⟨4, rfl, by omega, by omega⟩
  · exact ⟨8, rfl, by omega, by omega⟩
  · exact ⟨3, rfl, by omega, by omega⟩
section
variable {P : Program} {w : World} {K : PySem.W.Frag} {mg : PySem.Str → Option Value} {base : Heap}
/-! _law_machine, its end -/
theorem mach_Z {f : Addr} (T : TM mg) (cdv : Value) (A : Around) (outer : List Env) (s : Shared) (H : Hp) (E : XK) :
    ∃ t : TS, PSs (cxOf CX0 P w K mg base nMachine "_law_machine" (defScope sMachine) f cdv A outer s H E).nox ((defBody sMachine).drop 10) t ∧
      ∀ (D : Ends) (H0 : Hp) (k : ∀ p H', MachD H0 p H' → D.rt (.ref p) H') (H1 : Hp) (aD a : Addr) (head : List Int) (d7 d9 : Nat) (l : PySem.Str) (n : Int) (e0 e1 e4 e7 e8 e9 e10 e11 e12 e13 e14 e15 e16 e17 e18 e19 : Option V),
        H1 aD = some (.lst (head.map V.int)) → head[7]? = some (d7 : Int) → head[9]? = some (d9 : Int) → Alpha l → l.length ≤ 3 → 1 ≤ n → n ≤ 5 → H0 a = none → Rs H0 H1 a l n 400 →
        t D [e0, e1, some (.ref aD), some (.str l), e4, some (.int n), some (.ref a), e7, e8, e9, e10, e11, e12, e13, e14, e15, e16, e17, e18, e19] H1 := by
  have nd := scMachine.nd
  refine ⟨_, (C8.pss_cut (ps_if (pt_cmpR op_eq (pe_ix ix_list (pv 2) pe_int fun _ _ => rfl) pe_int (nomark _))
        (pss_one (ps_set (i := 6) nd rfl (Or.inl rfl) (pe_slice sl_list (pv 6) po_none (po_some (pe_op op_fdiv (pe_ix ix_list (pv 2) pe_int fun _ _ => rfl) pe_int)))))
        pss_nil)
      (pss_cons (ps_setLc (i := 17) (own := [("state", 9)]) (g := gName 9) (by rfl) nd rfl rfl (sw_true rfl rfl rfl (by decide +kernel)) (pi_range1 (by rfl) T.range (pa_cons (pv 5) pa_nil)) (blkOk_by (own := [("state", 9)]) (N := nMachine) (sc := defScope sMachine) (by decide +kernel)) (fun _ _ _ _ _ => pg_name (i := 9) nd rfl (Or.inl rfl)) (fun _ _ _ _ _ => pts_one (pt_cmpR op_eq (pe_op op_mod (pe_op op_fdiv (pe_callTy call_int1 (by rfl) T.int PyProof.Rows.Boot.int (pa_cons (pe_ix (r := rIxL K) ix_list (pv 2) pe_int fun _ _ => rfl) pa_nil)) (pe_ix (r := rIxL K) ix_list (pe_lst (pa_cons pe_int (pa_cons pe_int (pa_cons pe_int (pa_cons pe_int (pa_cons pe_int pa_nil)))))) (pv 9) fun _ _ => rfl)) pe_int) pe_int (nomark _))) (fun _ _ _ _ _ => (pv 9)))
      (pss_one (ps_ret (pe_lst (pa_cons (pv 3) (pa_cons (pv 5) (pa_cons (pv 6) (pa_cons (pv 17) pa_nil))))))))), ?_⟩
  intro D H0 k H1 aD a head d7 d9 l n e0 e1 e4 e7 e8 e9 e10 e11 e12 e13 e14 e15 e16 e17 e18 e19 hD ed7 ed9 al l3 n1 n5 na hR
  have rowAt : ∀ {j : Nat} {d : Nat}, head[j]? = some (d : Int) → atI (head.map V.int) (j : Int) = some (V.int d) := fun {j d} e => atI_nat (by rw [List.getElem?_map, e]; rfl)
  refine ⟨fun σ' H' => ∃ a' : Addr, σ' = [e0, e1, some (.ref aD), some (.str l), e4, some (.int n), some (.ref a'), e7, e8, e9, e10, e11, e12, e13, e14, e15, e16, e17, e18, e19] ∧ Same H1 H' ∧ H0 a' = none ∧ Rs H0 H' a' l n 400, ?_, ?_⟩
  · refine ⟨_, rfl, aD, _, _, _, rfl, rfl, SqL.of hD, rowAt (j := 9) ed9, rfl, _, rfl, ite2 (fun _ => ?_) (fun _ => ⟨a, rfl, Same.refl _, na, hR⟩)⟩
    obtain ⟨B, R⟩ := hR
    refine ⟨_, rfl, _, rfl, aD, _, _, _, rfl, rfl, SqL.of hD, rowAt (j := 7) ed7, _, _, rfl, rfl, ⟨by decide, by decide⟩, _, rfl, a, _, rfl, SqL.of R.at_, fun q nq => ?_⟩
    have ev : (d7 : Int) / 4 = ((d7 / 4 : Nat) : Int) := by omega
    have t := same_new (o := HO.lst (cutV (refsK B) none (some ((d7 : Int) / 4)))) nq
    refine ⟨q, rfl, t, R.same.free nq, B.take (d7 / 4), R.same.trans t, ?_, fun p m => t _ _ (R.kept p (List.mem_of_mem_take m)), fun p m => R.ok p (List.mem_of_mem_take m), ?_⟩
    · show (upd H1 q (.lst (cutV (refsK B) none (some ((d7 : Int) / 4))))) q = _
      rw [upd_same, ev, cut_take, refs_take]
    · rw [List.length_take]
      have := R.few
      omega
  rintro _ H2 ⟨a', rfl, s2, na', B, R⟩
  have hD2 := s2 _ _ hD
  -- yes
  refine ⟨_, rfl, n, rfl, by omega, by omega, fun Dy nDy => lc_range (lo := 0) (n := n.toNat) (fun i H' => Same H2 H' ∧ ∃ ys : List Int, H' Dy = some (.lst (ys.map V.int)) ∧ ys.length ≤ i ∧ ∀ y ∈ ys, 0 ≤ y ∧ y ≤ n - 1) ⟨same_new nDy, [], upd_same, Nat.zero_le _, fun y m => absurd m List.not_mem_nil⟩ ?_ ?_⟩
  · rintro i H3 hi ⟨s3, ys, hy, lys, oky⟩
    obtain ⟨v, ev, v0, v9⟩ := powers_at (i := i) (by omega)
    refine ⟨rfl, ?_⟩
    refine ⟨_, rfl, aD, _, _, _, rfl, rfl, SqL.of (s3 _ _ hD2), rowAt (j := 7) ed7, .inl ⟨_, rfl, show 5 ≤ sizeLine by decide, fun u nu => ?_⟩⟩
    have tu := same_new (o := HO.lst [V.int 1, V.int 2, V.int 4, V.int 8, V.int 3]) nu
    refine ⟨_, rfl, u, _, _, .int v, rfl, rfl, SqL.of upd_same, ev, _, _, rfl, rfl, ⟨v0, by omega⟩, _, _, rfl, rfl, show (0 : Int) < 2 by decide, rfl, _, rfl, ?_⟩
    refine ite2 (fun _ => ?_) (fun _ => ⟨s3.trans tu, ys, tu _ _ hy, by omega, oky⟩)
    refine ⟨_, rfl, _, tu _ _ hy, ?_, same_mut (s3.trans tu) nDy, ys ++ [0 + (i : Int)], ?_, ?_, fun z m => ?_⟩
    · rw [List.length_map]
      exact Nat.lt_of_le_of_lt (show ys.length ≤ 5 by omega) (by decide)
    · rw [upd_same, List.map_append] <;> rfl
    · rw [List.length_append]
      show ys.length + 1 ≤ i + 1
      omega
    · rcases List.mem_append.mp m with m | m
      · exact oky z m
      · rw [List.mem_singleton.mp m]
        omega
  · rintro H3 ⟨s3, ys, hy, lys, oky⟩
    refine ⟨_, rfl, _, rfl, _, rfl, _, rfl, show 4 ≤ sizeLine by decide, fun p np => ?_⟩
    have t := same_new (o := HO.lst [V.str l, V.int n, V.ref a', V.ref Dy]) np
    have R4 := R.mono (s3.trans t)
    exact k p _ ⟨R4.same, l, n, a', Dy, B, ys, upd_same, al, l3, n1, n5, R4.at_, R4.kept, R4.ok, R4.few, t _ _ hy, oky, by omega⟩
end
end Mk

set_option Elab.async false
set_option maxRecDepth 100000
namespace Mk
open PySem L2 Pk
theorem cut_in {row : List Int} {a b : Nat} (h : b ≤ row.length) (ab : a ≤ b) : cutV (row.map V.int) (some (a : Int)) (some (b : Int)) = ((row.drop a).take (b - a)).map V.int := by
  have h0 : HT.sIx (row.map V.int).length 0 (some (a : Int)) = a := by
    rw [List.length_map]
    unfold HT.sIx
    simp only []
    rw [if_neg (by omega)]
    omega
  have h4 : HT.sIx (row.map V.int).length (row.map V.int).length (some (b : Int)) = b := by
    rw [List.length_map]
    unfold HT.sIx
    simp only []
    rw [if_neg (by omega)]
    omega
  unfold cutV
  rw [h0, h4, ← List.map_drop, ← List.map_take]
theorem cut_from {row : List Int} {a : Nat} (h : a ≤ row.length) : cutV (row.map V.int) (some (a : Int)) none = (row.drop a).map V.int := by
  have h0 : HT.sIx (row.map V.int).length 0 (some (a : Int)) = a := by
    rw [List.length_map]
    unfold HT.sIx
    simp only []
    rw [if_neg (by omega)]
    omega
  have h4 : HT.sIx (row.map V.int).length (row.map V.int).length none = row.length := by
    rw [List.length_map]
    rfl
  unfold cutV
  rw [h0, h4, ← List.map_drop, ← List.map_take, List.take_of_length_le (by rw [List.length_drop]; exact Nat.le_refl _)]
end Mk

set_option Elab.async false
set_option maxRecDepth 100000
set_option maxHeartbeats 4000000
namespace Mk
open PySem L2 Pk
def isLst : HO → Bool
  | .lst _ => true
  | _ => false
/-- all but lists stays -/
def Lk (H H' : Hp) : Prop := ∀ b o, isLst o = false → H b = some o → H' b = some o
theorem Lk.of {H H' : Hp} (s : Same H H') : Lk H H' := fun b o _ e => s b o e
theorem Lk.refl (H : Hp) : Lk H H := fun _ _ _ e => e
theorem Lk.trans {H H' H'' : Hp} (a : Lk H H') (b : Lk H' H'') : Lk H H'' := fun c o n e => b c o n (a c o n e)
theorem Lk.put {H : Hp} {q : Addr} {xs : List V} {o' : HO} (h : H q = some (.lst xs)) : Lk H (upd H q o') := fun b o n e => by
  have ne : b ≠ q := fun z => by
    rw [z, h] at e
    cases e
    cases n
  rw [upd_ne ne]
  exact e
theorem Lk.tk {H H' : Hp} (l : Lk H H') : Tk H H' := fun b _ e => l b _ rfl e
theorem MachAt.lk {K : PySem.W.Frag} {H H' : Hp} {C x : Addr} {l : PySem.Str} {n : Int} {rs : List Rl} {ys : List Int} (h : MachAt K H C x l n rs ys) (e : Lk H H') : MachAt K H' C x l n rs ys := by
  obtain ⟨dx, aR, aY, aS, aA, g, R, hx, hR, kR, eR, hY, hS, hA, hg⟩ := h.ex
  refine ⟨dx, aR, aY, aS, aA, g, R, e _ _ rfl hx, e _ _ rfl hR, fun p m => e _ _ rfl (kR p m), eR, e _ _ rfl hY, e _ _ rfl hS, ?_, hg.tk e.tk⟩
  obtain ⟨kvs, h1, h2⟩ := hA
  exact ⟨kvs, e _ _ rfl h1, Paired.mapP h2 fun a b z => z.mono fun c xs y => e _ _ rfl y⟩
theorem ArgsOk.mono {K : PySem.W.Frag} {H H' : Hp} {l : PySem.Str} {n : Int} {aR aY : Addr} {bR bY : Bool} {R : Hand} {ys : List Int} (h : ArgsOk K H l n aR aY bR bY R ys) (e : Same H H') : ArgsOk K H' l n aR aY bR bY R ys :=
  ⟨h.alpha, h.num, h.rs.mono e, h.hand.mono e, h.yes.mono e, h.in_, h.few⟩
theorem Right.mono {K : PySem.W.Frag} {H H' : Hp} {l : PySem.Str} {n : Int} {aR aY : Addr} {bR bY : Bool} {R : Hand} {ys : List Int} (h : Right K H l n aR aY bR bY R ys) (e : Same H H') : Right K H' l n aR aY bR bY R ys :=
  ⟨h.args.mono e, fun p m b => e _ _ (h.raw p m b), h.few, h.fewY⟩
theorem made_same {H H' : Hp} {x dx C : Addr} (nx : H x = none) (nd : H dx = none) (o : Off x (upd (upd H dx (.own x)) x (.ins C dx [])) H') : Same H H' := fun b u e =>
  o b u (ne_of_none e nx) (by rw [upd_ne (ne_of_none e nx), upd_ne (ne_of_none e nd)]; exact e)
theorem made_new {H : Hp} {x dx C : Addr} (nx : H x = none) (nd : H dx = none) : Same H (upd (upd H dx (.own x)) x (.ins C dx [])) := fun b u e => by
  rw [upd_ne (ne_of_none e nx), upd_ne (ne_of_none e nd)]
  exact e
section
variable {P : Program} {w : World} {K : PySem.W.Frag} {mg : PySem.Str → Option Value} {base : Heap}
/-- the class Machine and its ways to be called -/
structure MDef (P : Program) (w : World) (K : PySem.W.Frag) (mg : PySem.Str → Option Value) (base : Heap) (C fI e0 : Addr) (fd : FuncData) : Prop where
  cls : MCls K C
  maker : L2.Mk K C fI
  name : mg "Machine" = some (.ref C)
  init : FnOk P w K mg base CX0 6 fI fd ["self", "letters", "states", "rules", "yes"] (spInit K C)
  b4 : Binds K fd ["self", "letters", "states", "rules", "yes"] []
  b3 : ∃ ds, Vals [V.ref e0] ds ∧ Binds K fd ["self", "letters", "states", "rules", "yes"] ds
  kw : KBn K fd ["self", "letters", "states", "rules", "yes"] 4 ["yes"] (fun us ws => us ++ ws) (fun vs zs => vs ++ zs)
  empty : ∀ H : Hp, SqT K H e0 []
/-- a right call makes a machine -/
theorem made_of {H : Hp} {C x dx : Addr} {l : PySem.Str} {n : Int} {aR aY : Addr} {bR bY : Bool} {R : Hand} {ys : List Int} {Q : VK} {E : XK} (nx : H x = none) (nd : H dx = none) (r : Right K H l n aR aY bR bY R ys)
    (k : ∀ H', Same H H' → MachAt K H' C x l n (rsOf R) ys → Q (.ref x) H') :
    spInit K C [.ref x, .str l, .int n, .ref aR, .ref aY] (upd (upd H dx (.own x)) x (.ins C dx [])) (fun v H2 => v = .non ∧ Q (.ref x) H2) E :=
  ⟨x, dx, l, n, aR, aY, bR, bY, R, ys, rfl, upd_same, r.mono (made_new nx nd), fun H' o m => ⟨rfl, k H' (made_same nx nd o) m⟩⟩
theorem made_as {H : Hp} {C x dx : Addr} {l : PySem.Str} {n : Int} {aR aY : Addr} {bR bY : Bool} {R : Hand} {ys : List Int} {vs : List V} {Q : VK} {E : XK} (nx : H x = none) (nd : H dx = none) (hv : vs = [.ref x, .str l, .int n, .ref aR, .ref aY]) (r : Right K H l n aR aY bR bY R ys)
    (k : ∀ H', Same H H' → MachAt K H' C x l n (rsOf R) ys → Q .non H') : spInit K C vs (upd (upd H dx (.own x)) x (.ins C dx [])) Q E := by
  subst hv
  exact ⟨x, dx, l, n, aR, aY, bR, bY, R, ys, rfl, upd_same, r.mono (made_new nx nd), fun H' o m => k H' (made_same nx nd o) m⟩
end
theorem alpha_ok {l : PySem.Str} (al : Alpha l) : ∀ c ∈ l.cps.toList, c < 1114112 := fun c m => by
  have z := al.low
  unfold lowB at z
  have y := List.all_eq_true.mp z c m
  unfold lowC at y
  rw [Bool.and_eq_true, decide_eq_true_eq, decide_eq_true_eq] at y
  omega
theorem sym_ok {x : PySem.Str} (h : symB x = true) : ∀ c ∈ x.cps.toList, c < 1114112 := fun c m => by
  unfold symB at h
  rw [Bool.and_eq_true] at h
  have y := List.all_eq_true.mp h.2 c m
  unfold markC at y
  simp only [Bool.or_eq_true, Bool.and_eq_true, decide_eq_true_eq] at y
  omega
theorem top_ok {x : PySem.Str} (h : Top x) : ∀ c ∈ x.cps.toList, c < 1114112 := by
  rcases h with h | h
  · exact sym_ok h
  · rw [h]
    intro c m
    exact absurd m List.not_mem_nil
theorem sgn_ok {l x : PySem.Str} (al : Alpha l) (h : Sgn l x) : ∀ c ∈ x.cps.toList, c < 1114112 := by
  obtain ⟨c, rfl, h⟩ := h
  intro d m
  have e : d = c := List.mem_singleton.mp m
  rw [e]
  rcases h with h | h | h
  · omega
  · omega
  · exact alpha_ok al c h
theorem low_ok {x : PySem.Str} (h : lowB x = true) : ∀ c ∈ x.cps.toList, c < 1114112 := fun c m => by
  unfold lowB at h
  have y := List.all_eq_true.mp h c m
  unfold lowC at y
  rw [Bool.and_eq_true, decide_eq_true_eq, decide_eq_true_eq] at y
  omega

theorem deed_ok {t d x : PySem.Str} (h : Deed t d x) : (∀ c ∈ d.cps.toList, c < 1114112) ∧ ∀ c ∈ x.cps.toList, c < 1114112 := by
  have k1 : ∀ c ∈ (keep0).cps.toList, c < 1114112 := by decide +kernel
  have k2 : ∀ c ∈ (pop0).cps.toList, c < 1114112 := by decide +kernel
  have k3 : ∀ c ∈ (push0).cps.toList, c < 1114112 := by decide +kernel
  have k4 : ∀ c ∈ (swap0).cps.toList, c < 1114112 := by decide +kernel
  have k0 : ∀ c ∈ (nil0).cps.toList, c < 1114112 := by decide +kernel
  rcases h.one with e | e | e | e
  · exact ⟨by rw [e]; exact k1, by rw [h.no (.inl e)]; exact k0⟩
  · exact ⟨by rw [e]; exact k2, by rw [h.no (.inr e)]; exact k0⟩
  · exact ⟨by rw [e]; exact k3, sym_ok (h.sym (.inl e))⟩
  · exact ⟨by rw [e]; exact k4, sym_ok (h.sym (.inr e))⟩
theorem rl_ok {l : PySem.Str} {n : Int} {r : Rl} (al : Alpha l) (h : RlOk l n r) : ∀ x ∈ r.key, KeyOk x := by
  intro x m
  have m' : x ∈ [Sum.inl r.st, Sum.inr r.sg, Sum.inr r.tp, Sum.inl r.af, Sum.inl r.mv, Sum.inr r.de, Sum.inr r.sy, Sum.inr r.sa] := m
  simp only [List.mem_cons, List.not_mem_nil, or_false] at m'
  rcases m' with rfl | rfl | rfl | rfl | rfl | rfl | rfl | rfl
  · exact trivial
  · exact sgn_ok al h.sg
  · exact top_ok h.tp
  · exact trivial
  · exact trivial
  · exact (deed_ok h.de).1
  · exact (deed_ok h.de).2
  · exact low_ok h.sa.1
theorem k3_sub {r : Rl} (h : ∀ x ∈ r.key, KeyOk x) : ∀ x ∈ r.k3, KeyOk x := fun x m => h x (by
  have e : r.key = r.k3 ++ r.a5 := rfl
  rw [e]
  exact List.mem_append_left _ m)
end Mk

set_option Elab.async false
set_option linter.unusedVariables false
set_option maxRecDepth 100000
set_option maxHeartbeats 16000000
namespace Mk
open PySem L2 Pk
theorem iteNo17 {c : Bool} {A B : Prop} (e : c = false) (h : B) : if c = true then A else B := by
  rw [e, if_neg Bool.false_ne_true]
  exact h
def headSizes : List Int := [12, 8, 12, 13, 6, 8, 5, 16, 4, 24, 997, 13, 6, 8, 6, 12, 997, 13, 6, 8, 6, 12, 997, 13, 6, 8, 6, 12, 9, 9, 9, 9, 9, 9, 9, 9, 9]
section
variable {P : Program} {w : World} {K : PySem.W.Frag} {mg : PySem.Str → Option Value} {base : Heap}
structure GenDefs (P : Program) (w : World) (K : PySem.W.Frag) (mg : PySem.Str → Option Value) (base : Heap) : Prop where
  cell : Got P w K mg base "_law_cell" 1 ["script", "k"] (spCellA K)
  digits : Got P w K mg base "_law_digits" 1 ["cell", "sizes"] (spDigits K)
  alpha : Got P w K mg base "_law_alphabet" 1 ["row"] (spAlpha K)
  syms : Got P w K mg base "_law_symbols" 1 ["digit"] spSyms
  act : Got P w K mg base "_law_act" 1 ["row", "states", "symbols", "sign", "top"] (spAct K)
  caller : Got P w K mg base "_law_caller" 1 ["letters", "one", "two", "modes"] (spCaller K)
  restorer : Got P w K mg base "_law_restorer" 1 ["letters", "one", "two"] spSkel5
  scanner : Got P w K mg base "_law_scanner" 1 ["letters", "one", "two"] spSkel
  climber : Got P w K mg base "_law_climber" 1 ["letters", "one", "two"] spSkel
/-! _law_machine, the rules drawn anew -/
theorem mach_Y {f : Addr} (T : TM mg) (G : GenDefs P w K mg base) (cdv : Value) (A : Around) (outer : List Env) (s : Shared) (H : Hp) (E : XK)
    (h1 : Room 1 (A.deeper (PyProof.Rows.envOfC "_law_machine" (defScope sMachine) s.heap.objs.size f cdv))) :
    ∃ t : TS, PSs (cxOf CX0 P w K mg base nMachine "_law_machine" (defScope sMachine) f cdv A outer s H E).nox ((defBody sMachine).drop 9) t ∧
      ∀ (D : Ends) (H0 : Hp) (k : ∀ p H', MachD H0 p H' → D.rt (.ref p) H') (H1 : Hp) (aD aS aG a : Addr) (head : List Int) (l x y z : PySem.Str) (n : Int) (SL : List PySem.Str) (e0 e1 e8 e9 e10 e11 e12 e13 e14 e15 e16 e17 e18 e19 : Option V),
        H1 aD = some (.lst (head.map V.int)) → Digs headSizes head → H1 aS = some (.lst [.str x, .str y, .str z]) → symB x = true → symB y = true → symB z = true → H1 aG = some (.lst (SL.map V.str)) → SL ≠ [] → SL.length ≤ 100 → (∀ s ∈ SL, Sgn l s) →
        Alpha l → l.length ≤ 3 → 1 ≤ n → n ≤ 5 → H0 a = none → Rs H0 H1 a l n 300 →
        t D [e0, e1, some (.ref aD), some (.str l), some (.ref aS), some (.int n), some (.ref a), some (.ref aG), e8, e9, e10, e11, e12, e13, e14, e15, e16, e17, e18, e19] H1 := by
  have nd := scMachine.nd
  have hu64 := h1.units
  obtain ⟨tZ, hZ, kZ⟩ := mach_Z (P := P) (w := w) (K := K) (base := base) (f := f) T cdv A outer s H E
  refine ⟨_, pss_cons (ps_for PassesOwn.never rfl (pi_range1 (by rfl) T.range (pa_cons (pe_ix ix_list (pe_lst (pa_cons pe_int (pa_cons pe_int (pa_cons pe_int (pa_cons pe_int (pa_cons pe_int pa_nil)))))) (pe_ix ix_list (pv 2) pe_int fun _ _ => rfl) fun _ _ => rfl) pa_nil)) (pg_name (i := 15) nd rfl (Or.inl rfl))
        (pss_cons (ps_set (i := 13) nd rfl (Or.inl rfl) (pe_slice sl_list (pv 2) (po_some (pe_op op_add pe_int (pe_op op_mul pe_int (pv 15)))) (po_some (pe_op op_add pe_int (pe_op op_mul pe_int (pv 15))))))
        (pss_cons (ps_set (i := 16) nd rfl (Or.inr rfl) (pe_tup (pa_cons (pe_op op_mod (pe_callTy call_int1 (by rfl) T.int PyProof.Rows.Boot.int (pa_cons (pe_ix ix_list (pv 13) pe_int fun _ _ => rfl) pa_nil)) (pv 5)) (pa_cons (pe_ix ix_list (pv 7) (pe_op op_mod (pe_op op_fdiv (pe_callTy call_int1 (by rfl) T.int PyProof.Rows.Boot.int (pa_cons (pe_ix ix_list (pv 13) pe_int fun _ _ => rfl) pa_nil)) pe_int) (pe_callB call_len_seq (by rfl) T.len PySem.boot_len (pa_cons (pv 7) pa_nil))) fun _ _ => rfl) (pa_cons (pe_ix ix_list (pe_op op_cat (pe_lst (pa_cons pe_str pa_nil)) (pv 4)) (pe_op op_mod (pe_op op_fdiv (pe_callTy call_int1 (by rfl) T.int PyProof.Rows.Boot.int (pa_cons (pe_ix ix_list (pv 13) pe_int fun _ _ => rfl) pa_nil)) pe_int) pe_int) fun _ _ => rfl) pa_nil)))))
        (pss_cons (ps_setLc (i := 6) (own := [("rule", 19)]) (g := gName 19) (by rfl) nd rfl rfl (sw_true rfl rfl rfl (by decide +kernel)) (pi_list (pv 6)) (blkOk_by (own := [("rule", 19)]) (N := nMachine) (sc := defScope sMachine) (by decide +kernel)) (fun _ _ _ _ _ => pg_name (i := 19) nd rfl (Or.inl rfl)) (fun _ _ _ _ _ => pts_one (pt_cmpR (r := rNeD K) (op_neD hu64) (pe_slice (r := rSlT K) sl_tup (pv 19) po_none (po_some pe_int)) (pv 16) (nomark _))) (fun _ _ _ _ _ => (pv 19)))
        (pss_cons (ps_set (i := 14) nd rfl (Or.inl rfl) (pe_got G.act h1 (by rfl) (pa_cons (pe_slice sl_list (pv 13) (po_some pe_int) po_none) (pa_cons (pv 5) (pa_cons (pv 4) (pa_cons (pe_ix ix_tup (pv 16) pe_int fun _ _ => rfl) (pa_cons (pe_ix ix_tup (pv 16) pe_int fun _ _ => rfl) pa_nil)))))))
        (pss_one (ps_if (pt_cmp (pc_notN (pv 14)))
          (pss_one (ps_expr (pe_bm PySem.F.plainAttrs_list PySem.F.slot_list_append PySem.F.type_list_append mt_append (pv 6) (pa_cons (pe_op op_catT (pv 16) (pv 14)) pa_nil))))
          pss_nil)))))))
      hZ, ?_⟩
  intro D H0 k H1 aD aS aG a head l x y z n SL e0 e1 e8 e9 e10 e11 e12 e13 e14 e15 e16 e17 e18 e19 hD dg hS ox oy oz hG neG mG okG al l3 n1 n5 na hR
  have rowAt : ∀ {j : Nat} {d : Nat}, head[j]? = some (d : Int) → atI (head.map V.int) (j : Int) = some (V.int d) := fun {j d} e => atI_nat (by rw [List.getElem?_map, e]; rfl)
  have dig : ∀ (j : Nat) (t : Int), headSizes[j]? = some t → ∃ d : Nat, head[j]? = some (d : Int) ∧ (d : Int) < t := fun j t e => by
    obtain ⟨d, e1, e2, e3⟩ := dg.2 j t e
    exact ⟨d.toNat, by rw [e1, Int.toNat_of_nonneg e2], by rw [Int.toNat_of_nonneg e2]; exact e3⟩
  have lenH : head.length = 37 := dg.1
  obtain ⟨d6, e6', b6⟩ := dig 6 5 rfl
  obtain ⟨d7, e7', b7⟩ := dig 7 16 rfl
  obtain ⟨d9, e9', b9⟩ := dig 9 24 rfl
  obtain ⟨m, em, m3⟩ : ∃ m : Nat, atI [V.int 0, V.int 0, V.int 1, V.int 0, V.int 3] (d6 : Int) = some (.int (m : Int)) ∧ m ≤ 3 := by
    have c : d6 = 0 ∨ d6 = 1 ∨ d6 = 2 ∨ d6 = 3 ∨ d6 = 4 := by omega
    rcases c with rfl | rfl | rfl | rfl | rfl
    · exact ⟨0, rfl, by decide⟩
    · exact ⟨0, rfl, by decide⟩
    · exact ⟨1, rfl, by decide⟩
    · exact ⟨0, rfl, by decide⟩
    · exact ⟨3, rfl, by decide⟩
  refine ⟨show 5 ≤ sizeLine by decide, fun q0 nq0 => ?_⟩
  have t0 := same_new (o := HO.lst [V.int 0, V.int 0, V.int 1, V.int 0, V.int 3]) nq0
  refine ⟨_, rfl, aD, _, _, _, rfl, rfl, SqL.of (t0 _ _ hD), rowAt (j := 6) e6', q0, _, _, .int (m : Int), rfl, rfl, SqL.of upd_same, em, _, rfl, by omega, by omega, for_range (lo := 0) (n := ((m : Nat) : Int).toNat) (fun i σ H' => Same H1 H' ∧ ∃ (a : Addr) (v13 v14 v15 v16 : Option V), σ = [e0, e1, some (.ref aD), some (.str l), some (.ref aS), some (.int n), some (.ref a), some (.ref aG), e8, e9, e10, e11, e12, v13, v14, v15, v16, e17, e18, e19] ∧ H0 a = none ∧ Rs H0 H' a l n (300 + i))
    ⟨t0, a, _, _, _, _, rfl, na, hR.mono t0⟩ ?_ ?_⟩
  · rintro i σ H2 hi ⟨s2, a, v13, v14, v15, v16, rfl, na, B, R⟩
    have i3 : i < 3 := by omega
    have sizes : ∀ j, j < 6 → headSizes[10 + 6 * i + j]? = ([997, 13, 6, 8, 6, 12] : List Int)[j]? := by
      have c : i = 0 ∨ i = 1 ∨ i = 2 := by omega
      rcases c with rfl | rfl | rfl <;> decide
    obtain ⟨p0, ep0, bp0⟩ := dig (10 + 6 * i + 0) 997 (sizes 0 (by decide))
    obtain ⟨p1, ep1, bp1⟩ := dig (10 + 6 * i + 1) 13 (sizes 1 (by decide))
    obtain ⟨p2, ep2, bp2⟩ := dig (10 + 6 * i + 2) 6 (sizes 2 (by decide))
    obtain ⟨p3, ep3, bp3⟩ := dig (10 + 6 * i + 3) 8 (sizes 3 (by decide))
    obtain ⟨p4, ep4, bp4⟩ := dig (10 + 6 * i + 4) 6 (sizes 4 (by decide))
    obtain ⟨p5, ep5, bp5⟩ := dig (10 + 6 * i + 5) 12 (sizes 5 (by decide))
    have hD2 := s2 _ _ hD
    refine ⟨_, rfl, _, rfl, _, _, rfl, rfl, .inl ⟨by decide, by decide⟩, _, _, rfl, rfl, _, rfl, _, rfl, _, _, rfl, rfl, .inl ⟨by decide, by decide⟩, _, _, rfl, rfl, _, rfl, aD, _, rfl, SqL.of hD2, fun q nq => ?_⟩
    have cutE : cutV (head.map V.int) (some (10 + 6 * (0 + (i : Int)))) (some (16 + 6 * (0 + (i : Int)))) = ((head.drop (10 + 6 * i)).take 6).map V.int := by
      have c := cut_in (row := head) (a := 10 + 6 * i) (b := 16 + 6 * i) (by omega) (by omega)
      rw [show 16 + 6 * i - (10 + 6 * i) = 6 by omega] at c
      rw [show (10 : Int) + 6 * (0 + (i : Int)) = ((10 + 6 * i : Nat) : Int) by omega, show (16 : Int) + 6 * (0 + (i : Int)) = ((16 + 6 * i : Nat) : Int) by omega]
      exact c
    rw [cutE]
    generalize hpart : (head.drop (10 + 6 * i)).take 6 = part
    have partAt : ∀ {j d : Nat}, j < 6 → head[10 + 6 * i + j]? = some (d : Int) → part[j]? = some (d : Int) := fun {j d} lj e => by
      rw [← hpart, List.getElem?_take_of_lt lj, List.getElem?_drop]
      exact e
    have partI : ∀ {j d : Nat}, j < 6 → head[10 + 6 * i + j]? = some (d : Int) → atI (part.map V.int) (j : Int) = some (V.int d) := fun {j d} lj e => atI_nat (by rw [List.getElem?_map, partAt lj e]; rfl)
    have tq := s2.trans (same_new (o := HO.lst (part.map V.int)) nq)
    have Rq := R.mono (same_new (o := HO.lst (part.map V.int)) nq)
    have hq : (upd H2 q (.lst (part.map V.int))) q = some (.lst (part.map V.int)) := upd_same
    dsimp only [gName]
    show (tSeq _ _) _ _ (upd H2 q (.lst (part.map V.int)))
    generalize upd H2 q (.lst (part.map V.int)) = H3 at tq Rq hq ⊢
    clear nq hpart cutE
    -- the key
    have at0 := partI (j := 0) (by decide) ep0
    have hG3 := tq _ _ hG
    have hS3 := tq _ _ hS
    have lenG : 0 < SL.length := List.length_pos_iff.mpr neG
    have posG : (0 : Int) < (((SL.map V.str).length : Nat) : Int) := by rw [List.length_map]; omega
    obtain ⟨sg, esg⟩ : ∃ x, SL[p0 / 5 % SL.length]? = some x := ⟨_, List.getElem?_eq_getElem (Nat.mod_lt _ lenG)⟩
    have osg := okG sg (List.mem_of_getElem? esg)
    have ei : (p0 : Int) / 5 % (((SL.map V.str).length : Nat) : Int) = ((p0 / 5 % SL.length : Nat) : Int) := by
      rw [List.length_map, Int.natCast_emod, Int.natCast_ediv] <;> rfl
    obtain ⟨tp, etp, otp⟩ : ∃ t, atI [V.str nil0, V.str x, V.str y, V.str z] ((p0 : Int) / 25 % 4) = some (.str t) ∧ Top t := by
      have c : (p0 : Int) / 25 % 4 = 0 ∨ (p0 : Int) / 25 % 4 = 1 ∨ (p0 : Int) / 25 % 4 = 2 ∨ (p0 : Int) / 25 % 4 = 3 := by omega
      rcases c with e | e | e | e <;> rw [e]
      · exact ⟨nil0, rfl, .inr rfl⟩
      · exact ⟨x, rfl, .inl ox⟩
      · exact ⟨y, rfl, .inl oy⟩
      · exact ⟨z, rfl, .inl oz⟩
    have st : 0 ≤ (p0 : Int) % n ∧ (p0 : Int) % n ≤ n - 1 := ⟨Int.emod_nonneg _ (by omega), by have := Int.emod_lt_of_pos (p0 : Int) (show 0 < n by omega); omega⟩
    refine ⟨_, rfl, q, _, _, _, rfl, rfl, SqL.of hq, at0, .inl ⟨_, rfl, _, rfl, _, _, rfl, rfl, by omega, _, rfl, _, rfl, q, _, _, _, rfl, rfl, SqL.of hq, at0, .inl ⟨_, rfl, _, _, rfl, rfl, ⟨by decide, by decide⟩, _, rfl, aG, _, rfl, .inl (SqL.of hG3), _, _, rfl, rfl, posG, aG, _, _, .str sg, rfl, rfl, SqL.of hG3, by rw [ei]; exact atI_nat (by rw [List.getElem?_map, esg] <;> rfl), show 1 ≤ sizeLine by decide, fun u nu => ?_⟩⟩⟩
    have tu := same_new (o := HO.lst [V.str nil0]) nu
    refine ⟨_, rfl, u, aS, _, _, rfl, rfl, upd_same, tu _ _ hS3, show 4 ≤ sizeLine by decide, fun v nv => ?_⟩
    have tv := tu.trans (same_new (o := HO.lst [V.str nil0, V.str x, V.str y, V.str z]) nv)
    refine ⟨_, rfl, q, _, _, _, rfl, rfl, SqL.of (tv _ _ hq), at0, .inl ⟨_, rfl, _, _, rfl, rfl, ⟨by decide, by decide⟩, _, _, rfl, rfl, show (0 : Int) < 4 by decide, v, _, _, .str tp, rfl, rfl, SqL.of upd_same, etp, show 3 ≤ sizeLine by decide, fun kq nk => ?_⟩⟩
    have tk := tv.trans (same_new (o := HO.tup [V.int ((p0 : Int) % n), V.str sg, V.str tp]) nk)
    have Rk := Rq.mono tk
    have hkq : (upd (upd (upd H3 u (.lst [V.str nil0])) v (.lst [V.str nil0, V.str x, V.str y, V.str z])) kq (.tup [V.int ((p0 : Int) % n), V.str sg, V.str tp])) kq = some (.tup [V.int ((p0 : Int) % n), V.str sg, V.str tp]) := upd_same
    have sk := tq.trans tk
    have hqk := tk _ _ hq
    dsimp only [gName]
    show (tSeq _ _) _ _ (upd (upd (upd H3 u (.lst [V.str nil0])) v (.lst [V.str nil0, V.str x, V.str y, V.str z])) kq (.tup [V.int ((p0 : Int) % n), V.str sg, V.str tp]))
    generalize upd (upd (upd H3 u (.lst [V.str nil0])) v (.lst [V.str nil0, V.str x, V.str y, V.str z])) kq (.tup [V.int ((p0 : Int) % n), V.str sg, V.str tp]) = H4 at sk Rk hkq hqk ⊢
    clear tq Rq R nu nv nk tu tv tk hG3 hS3 hq
    -- the rules of other keys
    have c3 : ¬ (HT.sIx 8 0 none = 0 ∧ HT.sIx 8 8 (some 3) = 8) := by decide
    have okK : ∀ p ∈ B, ∀ x ∈ p.2.k3, KeyOk x := fun p m => k3_sub (rl_ok al (Rk.ok p m))
    have okKey : ∀ x ∈ ([.inl ((p0 : Int) % n), .inr sg, .inr tp] : List Key), KeyOk x := fun x m => by
      simp only [List.mem_cons, List.not_mem_nil, or_false] at m
      rcases m with rfl | rfl | rfl
      · exact trivial
      · exact sgn_ok al osg
      · exact top_ok otp
    refine ⟨_, rfl, a, rfl, ⟨_, SqL.of Rk.at_⟩, fun Dn nDn => lc_list (K := K) (a := a) (xs := refsK B) (fun i' H' => Same H4 H' ∧ ∃ B' : Kept, H' Dn = some (.lst (refsK B')) ∧ (∀ p ∈ B', p ∈ B) ∧ B'.length ≤ i') ⟨same_new nDn, [], upd_same, fun p m => absurd m List.not_mem_nil, Nat.zero_le _⟩ (fun i' H' _ h => SqL.of (h.1 _ _ Rk.at_)) ?_ ?_⟩
    · rintro i' v H5 hi' ⟨s5, B', hB', sub, lb⟩
      obtain ⟨p, ep, rfl⟩ := at_refs hi'
      have mp := List.mem_of_getElem? ep
      have li : i' < B.length := (List.getElem?_eq_some_iff.mp ep).1
      have few := Rk.few
      refine ⟨rfl, ?_⟩
      refine ⟨_, rfl, 3, rfl, p.1, p.2.vs, rfl, .inl (.inl (s5 _ _ (Rk.kept p mp))), c3, fun q3 n3 => ?_⟩
      have t3 := same_new (o := HO.tup (cutV p.2.vs none (some 3))) n3
      have hq3 : (upd H5 q3 (.tup (cutV p.2.vs none (some 3)))) q3 = some (.tup (p.2.k3.map kV)) := upd_same
      have hk3 : (upd H5 q3 (.tup (cutV p.2.vs none (some 3)))) kq = some (.tup (([.inl ((p0 : Int) % n), .inr sg, .inr tp] : List Key).map kV)) := t3 _ _ (s5 _ _ hkq)
      refine ⟨_, rfl, _, _, dp_keys hq3, dp_keys hk3, shaped_keys (okK p mp), shaped_keys okKey, _, rfl, ite2 (fun _ => ?_) (fun _ => ⟨s5.trans t3, B', t3 _ _ hB', sub, by omega⟩)⟩
      refine ⟨_, rfl, _, t3 _ _ hB', ?_, same_mut (s5.trans t3) nDn, B' ++ [p], ?_, fun z m => ?_, ?_⟩
      · unfold refsK
        rw [List.length_map]
        exact Nat.lt_of_le_of_lt (show B'.length ≤ 1000 by omega) (by decide)
      · rw [upd_same]
        unfold refsK
        rw [List.map_append] <;> rfl
      · rcases List.mem_append.mp m with m | m
        · exact sub z m
        · rw [List.mem_singleton.mp m]; exact mp
      · rw [List.length_append]
        show B'.length + 1 ≤ i' + 1
        omega
    rintro H5 ⟨s5, B', hB', sub, lb⟩
    have lB : (refsK B).length = B.length := List.length_map ..
    have few := Rk.few
    have naD : H0 Dn = none := Rk.same.free nDn
    have hDn1 : H1 Dn = none := sk.free nDn
    have RD : RsAt H0 H5 Dn l n (300 + i) B' := ⟨Rk.same.trans s5, hB', fun p m => s5 _ _ (Rk.kept p (sub p m)), fun p m => Rk.ok p (sub p m), by omega⟩
    have s15 := sk.trans s5
    have hq5 := s5 _ _ hqk
    have hk5 := s5 _ _ hkq
    clear s5 hB' Rk sk hqk hkq s2
    -- the act
    have len1 : 1 ≤ part.length := (List.getElem?_eq_some_iff.mp (partAt (j := 0) (by decide) ep0)).1
    have cut1' : cutV (part.map V.int) (some 1) none = (part.drop 1).map V.int := cut_from (row := part) (a := 1) len1
    have ar : ActRow (part.drop 1) p1 p2 p3 p4 p5 := ⟨by rw [List.getElem?_drop]; exact partAt (j := 1) (by decide) ep1, by rw [List.getElem?_drop]; exact partAt (j := 2) (by decide) ep2, by rw [List.getElem?_drop]; exact partAt (j := 3) (by decide) ep3, by rw [List.getElem?_drop]; exact partAt (j := 4) (by decide) ep4,
      by rw [List.getElem?_drop]; exact partAt (j := 5) (by decide) ep5, by omega, by omega, by omega⟩
    refine ⟨_, rfl, 1, rfl, q, _, rfl, SqL.of hq5, fun r nr => ?_⟩
    rw [cut1']
    have tr := same_new (o := HO.lst ((part.drop 1).map V.int)) nr
    refine ⟨_, rfl, _, rfl, _, rfl, kq, _, 1, .str sg, rfl, rfl, .inl (.inl (tr _ _ hk5)), rfl, _, rfl, kq, _, 2, .str tp, rfl, rfl, .inl (.inl (tr _ _ hk5)), rfl, ?_⟩
    refine ⟨r, aS, part.drop 1, p1, p2, p3, p4, p5, n, l, sg, tp, [x, y, z], rfl, SqL.of upd_same, ar, SqL.of ((s15.trans tr) _ _ hS), n1, List.cons_ne_nil _ _, ?_, osg, otp, ?_, fun t rr Ht st5 eg ep okr ht => ?_⟩
    · intro s m
      simp only [List.mem_cons, List.not_mem_nil, or_false] at m
      rcases m with rfl | rfl | rfl
      · exact ox
      · exact oy
      · exact oz
    · refine ⟨_, rfl, _, rfl, iteNo17 (by rw [decide_eq_true rfl] <;> rfl) ?_⟩
      exact ⟨s15.trans tr, Dn, _, _, _, _, rfl, naD, Rs.le ⟨_, RD.mono tr⟩ (by omega)⟩
    · have RT := RD.mono (tr.trans st5)
      have hkt := st5 _ _ (tr _ _ hk5)
      refine ⟨_, rfl, _, rfl, ite2 (fun _ => ?_) (fun c => absurd (by rw [decide_eq_false (fun z => nomatch z)] <;> rfl) c)⟩
      refine ⟨_, rfl, .inl ⟨rfl, _, SqL.of RT.at_⟩, _, rfl, _, rfl, kq, t, [.int ((p0 : Int) % n), .str sg, .str tp], _, rfl, rfl, .inl (.inl hkt), .inl (.inl ht), (fun z => nomatch z), show 3 + 5 ≤ sizeLine by decide, (fun z => nomatch z), fun _ w2 nw => ⟨Dn, _, _, rfl, rfl, RT.look nw, RT.sz (by omega), ?_⟩⟩
      have RA := RT.add naD nw (r := ⟨(p0 : Int) % n, sg, tp, rr.af, rr.mv, rr.de, rr.sy, rr.sa⟩) (mkRl st osg otp okr.af (by rw [← eg]; exact okr.mv) (by rw [← ep]; exact okr.de) okr.sa)
      have sD : Same H1 _ := same_mut (o := HO.lst (refsK B' ++ [V.ref w2])) (((s15.trans tr).trans st5).trans (same_new (o := HO.tup (⟨(p0 : Int) % n, sg, tp, rr.af, rr.mv, rr.de, rr.sy, rr.sa⟩ : Rl).vs) nw)) (show H1 Dn = none from hDn1)
      exact ⟨sD, Dn, _, _, _, _, rfl, naD, Rs.le ⟨_, RA⟩ (by omega)⟩
  · rintro σ H2 ⟨s2, a, v13, v14, v15, v16, rfl, na, R⟩
    exact kZ D H0 k H2 aD a head d7 d9 l n _ _ _ _ _ _ _ _ _ _ _ _ _ _ _ _ (s2 _ _ hD) e7' e9' al l3 n1 n5 na (R.le (by omega))
end
end Mk

set_option Elab.async false
set_option linter.unusedVariables false
set_option maxRecDepth 100000
set_option maxHeartbeats 16000000
namespace Mk
open PySem L2 Pk
section
variable {P : Program} {w : World} {K : PySem.W.Frag} {mg : PySem.Str → Option Value} {base : Heap}
/-! _law_machine, the signs, the tops, the rules of all keys -/
theorem mach_X {f : Addr} (T : TM mg) (G : GenDefs P w K mg base) (cdv : Value) (A : Around) (outer : List Env) (s : Shared) (H : Hp) (E : XK)
    (h1 : Room 1 (A.deeper (PyProof.Rows.envOfC "_law_machine" (defScope sMachine) s.heap.objs.size f cdv))) :
    ∃ t : TS, PSs (cxOf CX0 P w K mg base nMachine "_law_machine" (defScope sMachine) f cdv A outer s H E).nox ((defBody sMachine).drop 6) t ∧
      ∀ (D : Ends) (H0 : Hp) (k : ∀ p H', MachD H0 p H' → D.rt (.ref p) H') (H1 : Hp) (sc aD aS a : Addr) (ns head : List Int) (at_ : Nat) (l x y z : PySem.Str) (n : Int) (e7 e8 e9 e10 e11 e12 e13 e14 e15 e16 e17 e18 e19 : Option V),
        SqL K H0 sc (ns.map V.int) → H1 aD = some (.lst (head.map V.int)) → Digs headSizes head → H1 aS = some (.lst [.str x, .str y, .str z]) → symB x = true → symB y = true → symB z = true →
        Alpha l → l.length ≤ 3 → 1 ≤ n → n ≤ 5 → H0 a = none → Rs H0 H1 a l n 100 →
        t D [some (.ref sc), some (.int (at_ : Int)), some (.ref aD), some (.str l), some (.ref aS), some (.int n), some (.ref a), e7, e8, e9, e10, e11, e12, e13, e14, e15, e16, e17, e18, e19] H1 := by
  have nd := scMachine.nd
  obtain ⟨tY, hY, kY⟩ := mach_Y (f := f) T G cdv A outer s H E h1
  refine ⟨_, pss_cons (ps_set (i := 7) nd rfl (Or.inl rfl) (pe_op op_cat (pe_lst (pa_cons pe_str (pa_cons pe_str pa_nil))) (pe_lc (own := [("letter", 18)]) (g := gName 18) (tt := tYes) (by rfl) nd (pi_str (pv 3)) (blkOk_by (own := [("letter", 18)]) (N := nMachine) (sc := defScope sMachine) (by decide +kernel)) (fun _ _ _ _ _ => pg_name (i := 18) nd rfl (Or.inl rfl)) (fun _ _ _ _ _ => pts_nil) (fun _ _ _ _ _ => (pv 18)))))
      (pss_cons (ps_set (i := 8) nd rfl (Or.inl rfl) (pe_op op_cat (pe_lst (pa_cons pe_str pa_nil)) (pe_slice sl_list (pv 4) po_none (po_some (pe_ix ix_list (pe_lst (pa_cons pe_int (pa_cons pe_int (pa_cons pe_int (pa_cons pe_int pa_nil))))) (pe_ix ix_list (pv 2) pe_int fun _ _ => rfl) fun _ _ => rfl)))))
      (C8.pss_cut (ps_if (pt_cmpR op_lt (pe_ix ix_list (pv 2) pe_int fun _ _ => rfl) pe_int (nomark _))
        (pss_one (ps_for PassesOwn.never rfl (pi_range1 (by rfl) T.range (pa_cons (pv 5) pa_nil)) (pg_name (i := 9) nd rfl (Or.inl rfl))
          (pss_cons (ps_set (i := 10) nd rfl (Or.inl rfl) (pe_got G.digits h1 (by rfl) (pa_cons (pe_got G.cell h1 (by rfl) (pa_cons (pv 0) (pa_cons (pe_op op_add (pe_op op_add (pe_op op_add (pv 1) pe_int) (pv 9)) (pe_op op_mul pe_int (pe_callTy call_int1 (by rfl) T.int PyProof.Rows.Boot.int (pa_cons (pe_cmpR op_gt (pv 9) pe_int (nomark _)) pa_nil)))) pa_nil))) (pa_cons (pe_op op_rep (pe_lst (pa_cons pe_int (pa_cons pe_int (pa_cons pe_int (pa_cons pe_int (pa_cons pe_int pa_nil)))))) pe_int) pa_nil))))
          (pss_one (ps_for PassesOwn.never rfl (pi_range1 (by rfl) T.range (pa_cons (pe_callB call_len_seq (by rfl) T.len PySem.boot_len (pa_cons (pv 7) pa_nil)) pa_nil)) (pg_name (i := 11) nd rfl (Or.inl rfl))
            (pss_one (ps_for PassesOwn.never rfl (pi_range1 (by rfl) T.range (pa_cons (pe_callB call_len_seq (by rfl) T.len PySem.boot_len (pa_cons (pv 8) pa_nil)) pa_nil)) (pg_name (i := 12) nd rfl (Or.inl rfl))
              (pss_cons (ps_set (i := 13) nd rfl (Or.inl rfl) (pe_slice sl_list (pv 10) (po_some (pe_op op_mul pe_int (pe_op op_add (pe_op op_mul pe_int (pv 11)) (pv 12)))) (po_some (pe_op op_add (pe_op op_mul pe_int (pe_op op_add (pe_op op_mul pe_int (pv 11)) (pv 12))) pe_int))))
              (pss_cons (ps_set (i := 14) nd rfl (Or.inl rfl) (pe_got G.act h1 (by rfl) (pa_cons (pv 13) (pa_cons (pv 5) (pa_cons (pe_slice sl_list (pv 8) (po_some pe_int) po_none) (pa_cons (pe_ix ix_list (pv 7) (pv 11) fun _ _ => rfl) (pa_cons (pe_ix ix_list (pv 8) (pv 12) fun _ _ => rfl) pa_nil)))))))
              (C8.pss_cut (ps_if (pt_cmpR op_eq (pe_op op_add (pe_op op_add (pv 11) (pv 12)) (pv 9)) pe_int (nomark _))
                (pss_one (ps_set (i := 14) nd rfl (Or.inl rfl) (pe_tup (pa_cons (pe_op op_sub (pv 5) pe_int) (pa_cons pe_int (pa_cons pe_str (pa_cons pe_str (pa_cons pe_str pa_nil))))))))
                pss_nil)
              (pss_one (ps_if (pt_cmp (pc_notN (pv 14)))
                (pss_one (ps_expr (pe_bm PySem.F.plainAttrs_list PySem.F.slot_list_append PySem.F.type_list_append mt_append (pv 6) (pa_cons (pe_op op_catT (pe_tup (pa_cons (pv 9) (pa_cons (pe_ix ix_list (pv 7) (pv 11) fun _ _ => rfl) (pa_cons (pe_ix ix_list (pv 8) (pv 12) fun _ _ => rfl) pa_nil)))) (pv 14)) pa_nil))))
                pss_nil))))))))))))
        pss_nil)
      hY)), ?_⟩
  intro D H0 k H1 sc aD aS a ns head at_ l x y z n e7 e8 e9 e10 e11 e12 e13 e14 e15 e16 e17 e18 e19 hSc hD dg hS ox oy oz al l3 n1 n5 na hR
  have rowAt : ∀ {j : Nat} {d : Nat}, head[j]? = some (d : Int) → atI (head.map V.int) (j : Int) = some (V.int d) := fun {j d} e => atI_nat (by rw [List.getElem?_map, e]; rfl)
  have dig : ∀ (j : Nat) (t : Int), headSizes[j]? = some t → ∃ d : Nat, head[j]? = some (d : Int) ∧ (d : Int) < t := fun j t e => by
    obtain ⟨d, e1, e2, e3⟩ := dg.2 j t e
    exact ⟨d.toNat, by rw [e1, Int.toNat_of_nonneg e2], by rw [Int.toNat_of_nonneg e2]; exact e3⟩
  obtain ⟨d0, ed0, b0⟩ := dig 0 12 rfl
  obtain ⟨d8, ed8, b8⟩ := dig 8 4 rfl
  have l3' : l.cps.size ≤ 3 := l3
  -- signs
  refine ⟨show 2 ≤ sizeLine by decide, fun la ha => ?_⟩
  refine ⟨_, rfl, l, rfl, fun Dl hDl => lc_it walk_str (fun i H' => Same (upd H1 la (.lst [.str lt0, .str gt0])) H' ∧ H' Dl = some (.lst (((l.cps.toList.take i).map sgn1).map V.str)))
      ⟨same_new hDl, upd_same⟩ (fun _ _ _ _ => trivial) ?_ ?_⟩
  · rintro i v H2 H3 hi ⟨s2, hD2⟩ ⟨rfl, c0, hc0, rfl⟩
    have hc1 : l.cps.toList[i]? = some c0 := by rw [Array.getElem?_toList]; exact hc0
    refine ⟨rfl, ?_⟩
    refine ⟨_, rfl, _, hD2, ?_, same_mut s2 hDl, ?_⟩
    · rw [List.length_map, List.length_map, List.length_take, Array.length_toList]
      exact Nat.lt_of_le_of_lt (Nat.le_trans (Nat.min_le_right _ _) l3') (by decide)
    · rw [upd_same, take_at hc1, List.map_append, List.map_append]
      rfl
  rintro H2 ⟨s2, hD2⟩
  have full : l.cps.toList.take l.cps.size = l.cps.toList := List.take_of_length_le (by rw [Array.length_toList]; exact Nat.le_refl _)
  rw [full] at hD2
  refine ⟨la, Dl, _, _, rfl, rfl, s2 _ _ upd_same, hD2, ?_, fun aG nG => ?_⟩
  · rw [List.length_map, List.length_map, Array.length_toList]
    exact Nat.le_trans (Nat.add_le_add_left l3' _) (by decide)
  have s12 : Same H1 (upd H2 aG (.lst (([lt0, gt0] ++ l.cps.toList.map sgn1).map V.str))) := ((same_new ha).trans s2).trans (same_new nG)
  have hG : (upd H2 aG (.lst (([lt0, gt0] ++ l.cps.toList.map sgn1).map V.str))) aG = some (.lst (([lt0, gt0] ++ l.cps.toList.map sgn1).map V.str)) := upd_same
  have eSL : ([V.str lt0, V.str gt0] ++ (l.cps.toList.map sgn1).map V.str) = ([lt0, gt0] ++ l.cps.toList.map sgn1).map V.str := by rw [List.map_append] <;> rfl
  rw [show ([V.str (PySem.Str.ofString "<"), V.str (PySem.Str.ofString ">")] ++ (l.cps.toList.map sgn1).map V.str) = ([lt0, gt0] ++ l.cps.toList.map sgn1).map V.str from eSL]
  dsimp only [gName]
  show (tSeq _ _) _ _ (upd H2 aG (.lst (([lt0, gt0] ++ l.cps.toList.map sgn1).map V.str)))
  generalize upd H2 aG (.lst (([lt0, gt0] ++ l.cps.toList.map sgn1).map V.str)) = H3 at s12 hG ⊢
  have okSL : ∀ x ∈ ([lt0, gt0] ++ l.cps.toList.map sgn1), Sgn l x := by
    intro x m
    rcases List.mem_append.mp m with m | m
    · rcases List.mem_cons.mp m with e | m
      · rw [e]; exact sgnLt l
      · rw [List.mem_singleton.mp m]; exact sgnGt l
    · obtain ⟨c0, m0, rfl⟩ := List.mem_map.mp m
      exact sgnIn m0
  have lSL : ([lt0, gt0] ++ l.cps.toList.map sgn1).length ≤ 5 := by
    rw [List.length_append, List.length_map, Array.length_toList]
    show 2 + l.cps.size ≤ 5
    omega
  have neSL : ([lt0, gt0] ++ l.cps.toList.map sgn1) ≠ [] := by simp
  have atSL : ([lt0, gt0] ++ l.cps.toList.map sgn1)[0]? = some lt0 := rfl
  generalize [lt0, gt0] ++ l.cps.toList.map sgn1 = SL at hG okSL lSL neSL atSL
  clear s2 hD2 ha hDl nG full eSL
  -- tops
  obtain ⟨c, ec, hc⟩ : ∃ c : Nat, atI [V.int 1, V.int 2, V.int 2, V.int 3] (d8 : Int) = some (.int (c : Int)) ∧ 1 ≤ c ∧ c ≤ 3 := by
    have h : d8 = 0 ∨ d8 = 1 ∨ d8 = 2 ∨ d8 = 3 := by omega
    rcases h with rfl | rfl | rfl | rfl
    · exact ⟨1, rfl, by decide, by decide⟩
    · exact ⟨2, rfl, by decide, by decide⟩
    · exact ⟨2, rfl, by decide, by decide⟩
    · exact ⟨3, rfl, by decide, by decide⟩
  refine ⟨show 1 ≤ sizeLine by decide, fun q1 n1' => ?_⟩
  have t1 := same_new (o := HO.lst [V.str nil0]) n1'
  refine ⟨_, rfl, show 4 ≤ sizeLine by decide, fun q2 n2' => ?_⟩
  have t2 := t1.trans (same_new (o := HO.lst [V.int 1, V.int 2, V.int 2, V.int 3]) n2')
  refine ⟨_, rfl, aD, _, _, _, rfl, rfl, SqL.of (t2 _ _ (s12 _ _ hD)), rowAt (j := 8) ed8, q2, _, _, .int (c : Int), rfl, rfl, SqL.of upd_same, ec, _, rfl, aS, _, rfl, SqL.of (t2 _ _ (s12 _ _ hS)), fun q3 n3' => ?_⟩
  have ecut : cutV [V.str x, V.str y, V.str z] none (some (c : Int)) = (([x, y, z] : List PySem.Str).take c).map V.str := by
    rw [cut_take, List.map_take] <;> rfl
  rw [ecut]
  have t3 := t2.trans (same_new (o := HO.lst ((([x, y, z] : List PySem.Str).take c).map V.str)) n3')
  refine ⟨q1, q3, _, _, rfl, rfl, same_new n3' _ _ (same_new n2' _ _ upd_same), upd_same, ?_, fun aT nT => ?_⟩
  · rw [List.length_map, List.length_take]
    exact Nat.le_trans (show 1 + min c 3 ≤ 10 by omega) (by decide)
  have t4 := t3.trans (same_new (o := HO.lst ([V.str nil0] ++ (([x, y, z] : List PySem.Str).take c).map V.str)) nT)
  have hT : (upd (upd (upd (upd H3 q1 (.lst [V.str nil0])) q2 (.lst [V.int 1, V.int 2, V.int 2, V.int 3])) q3 (.lst ((([x, y, z] : List PySem.Str).take c).map V.str))) aT (.lst ([V.str nil0] ++ (([x, y, z] : List PySem.Str).take c).map V.str))) aT = some (.lst ((nil0 :: ([x, y, z] : List PySem.Str).take c).map V.str)) := upd_same
  dsimp only [gName]
  show (C8.tCut _ _) _ _ (upd (upd (upd (upd H3 q1 (.lst [V.str nil0])) q2 (.lst [V.int 1, V.int 2, V.int 2, V.int 3])) q3 (.lst ((([x, y, z] : List PySem.Str).take c).map V.str))) aT (.lst ([V.str nil0] ++ (([x, y, z] : List PySem.Str).take c).map V.str)))
  generalize upd (upd (upd (upd H3 q1 (.lst [V.str nil0])) q2 (.lst [V.int 1, V.int 2, V.int 2, V.int 3])) q3 (.lst ((([x, y, z] : List PySem.Str).take c).map V.str))) aT (.lst ([V.str nil0] ++ (([x, y, z] : List PySem.Str).take c).map V.str)) = H4 at t4 hT ⊢
  have okss : ∀ s ∈ ([x, y, z] : List PySem.Str).take c, symB s = true := fun s m => by
    have m' := List.mem_of_mem_take m
    simp only [List.mem_cons, List.not_mem_nil, or_false] at m'
    rcases m' with rfl | rfl | rfl
    · exact ox
    · exact oy
    · exact oz
  have less : (([x, y, z] : List PySem.Str).take c).length ≤ 3 := by rw [List.length_take]; exact Nat.min_le_right _ _
  have ness : ([x, y, z] : List PySem.Str).take c ≠ [] := fun z => by
    have y := congrArg List.length z
    rw [List.length_take] at y
    have e : min c 3 = 0 := y
    omega
  generalize ([x, y, z] : List PySem.Str).take c = ss at hT okss less ness
  have s14 := s12.trans t4
  have hG4 := t4 _ _ hG
  have hD4 := s14 _ _ hD
  have hS4 := s14 _ _ hS
  have R4 := hR.mono s14
  clear ecut t1 t2 t3 nT n1' n2' n3' hG
  -- what is not the rules' list stays
  obtain ⟨B0, RB⟩ := R4
  have ne : ∀ {b : Addr} {v : V} {vs : List V}, H4 b = some (.lst (v :: vs)) → (∀ q, v ≠ .ref q) → b ≠ a := fun {b v vs} e nv z => by
    rw [z, RB.at_] at e
    have e' := HO.lst.inj (Option.some.inj e)
    cases B0 with
    | nil => cases e'
    | cons p B =>
      have e2 : V.ref p.1 = v := (List.cons.inj e').1
      exact nv _ e2.symm
  have aDn : aD ≠ a := by
    have h0 : head = (d0 : Int) :: head.drop 1 := by
      cases hh : head with
      | nil => rw [hh] at ed0; cases ed0
      | cons u r => rw [hh] at ed0; rw [show (u :: r).drop 1 = r from rfl, ← Option.some.inj ed0]
    rw [h0] at hD4
    exact ne hD4 fun q => nofun
  have aSn : aS ≠ a := ne hS4 fun q => nofun
  have aTn : aT ≠ a := ne hT fun q => nofun
  have aGn : aG ≠ a := by
    cases hs : SL with
    | nil => exact absurd hs neSL
    | cons u r => rw [hs] at hG4; exact ne hG4 fun q => nofun
  have fin : ∀ (H' : Hp) (v9 v10 v11 v12 v13 v14 : Option V), (∀ b o, b ≠ a → H4 b = some o → H' b = some o) → Rs H0 H' a l n 300 → tY D [some (.ref sc), some (.int (at_ : Int)), some (.ref aD), some (.str l), some (.ref aS), some (.int n), some (.ref a), some (.ref aG), some (.ref aT), v9, v10, v11, v12, v13, v14, e15, e16, e17, e18, e19] H' := fun H' v9 v10 v11 v12 v13 v14 kp R =>
    kY D H0 k H' aD aS aG a head l x y z n SL _ _ _ _ _ _ _ _ _ _ _ _ _ _ (kp _ _ aDn hD4) dg (kp _ _ aSn hS4) ox oy oz (kp _ _ aGn hG4) neSL (by omega) okSL al l3 n1 n5 na R
  refine ⟨fun σ' H' => (∀ b o, b ≠ a → H4 b = some o → H' b = some o) ∧ Rs H0 H' a l n 300 ∧ ∃ v9 v10 v11 v12 v13 v14 : Option V, σ' = [some (.ref sc), some (.int (at_ : Int)), some (.ref aD), some (.str l), some (.ref aS), some (.int n), some (.ref a), some (.ref aG), some (.ref aT), v9, v10, v11, v12, v13, v14, e15, e16, e17, e18, e19], ?_, ?_⟩
  rotate_left
  · rintro _ H' ⟨kp, R, v9, v10, v11, v12, v13, v14, rfl⟩
    exact fin H' _ _ _ _ _ _ kp R
  refine ⟨_, rfl, aD, _, _, _, rfl, rfl, SqL.of hD4, rowAt (j := 0) ed0, _, _, rfl, rfl, _, rfl, ite2 (fun _ => ?_) (fun _ => ⟨fun b o _ e => e, Rs.le ⟨_, RB⟩ (by omega), _, _, _, _, _, _, rfl⟩)⟩
  refine ⟨_, rfl, n, rfl, by omega, by omega, for_range (lo := 0) (n := n.toNat) (fun i σ H' => (∀ b o, b ≠ a → H4 b = some o → H' b = some o) ∧ Rs H0 H' a l n (100 + 20 * i) ∧ ∃ v9 v10 v11 v12 v13 v14 : Option V, σ = [some (.ref sc), some (.int (at_ : Int)), some (.ref aD), some (.str l), some (.ref aS), some (.int n), some (.ref a), some (.ref aG), some (.ref aT), v9, v10, v11, v12, v13, v14, e15, e16, e17, e18, e19])
    ⟨fun b o _ e => e, Rs.le ⟨_, RB⟩ (by omega), _, _, _, _, _, _, rfl⟩ ?_ ?_⟩
  · rintro i σ H5 hi ⟨kp, ⟨B5, R5⟩, v9, v10, v11, v12, v13, v14, rfl⟩
    have i5 : i < 5 := by omega
    obtain ⟨jn, ej⟩ : ∃ j : Nat, (at_ : Int) + 1 + (0 + (i : Int)) + 7 * (if decide (0 + (i : Int) > 3) = true then 1 else 0) = (j : Int) := by
      by_cases h : decide (0 + (i : Int) > 3) = true
      · exact ⟨at_ + 1 + i + 7, by rw [if_pos h]; omega⟩
      · exact ⟨at_ + 1 + i, by rw [if_neg h]; omega⟩
    refine ⟨_, rfl, _, rfl, _, _, rfl, rfl, _, rfl, _, _, rfl, rfl, _, rfl, _, _, rfl, rfl, .inr ⟨_, rfl, _, _, rfl, rfl, .inl ⟨by decide, by decide⟩, _, _, rfl, rfl, sc, ns, jn, by rw [← ej] <;> rfl, R5.same.seq hSc, fun z0 => ⟨show 5 ≤ sizeLine by decide, fun l2 hl2 => ?_⟩⟩⟩
    refine ⟨l2, 20, _, rfl, rfl, upd_same, by decide, by decide, by decide, fun l4 hl4 => ?_⟩
    refine ⟨z0, l4, (List.replicate 20 ([13, 6, 8, 6, 12] : List Int)).flatten, rfl, SqL.of upd_same, by decide, by decide, fun row aRow H6 dg2 np s6 hrow => ?_⟩
    have s56 : Same H5 H6 := ((same_new hl2).trans (same_new hl4)).trans s6
    have R6 := R5.mono s56
    have kp6 : ∀ b o, b ≠ a → H4 b = some o → H6 b = some o := fun b o nb e => s56 _ _ (kp b o nb e)
    have aRn : aRow ≠ a := fun z => by
      rw [z] at np
      have e := (((same_new hl2).trans (same_new hl4)) _ _ R5.at_).symm.trans np
      cases e
    have hD6 := kp6 _ _ aDn hD4
    have hG6 := kp6 _ _ aGn hG4
    have hT6 := kp6 _ _ aTn hT
    have lG6 : (SL.map V.str).length = SL.length := List.length_map ..
    have lT6 : ((nil0 :: ss).map V.str).length = ss.length + 1 := by rw [List.length_map] <;> rfl
    refine ⟨_, rfl, aG, _, rfl, .inl (SqL.of hG6), _, rfl, by omega, by omega, for_range (lo := 0) (n := (((SL.map V.str).length : Nat) : Int).toNat) (fun u σ H' => (∀ b o, b ≠ a → H6 b = some o → H' b = some o) ∧ Rs H0 H' a l n (100 + 20 * i + 4 * u) ∧ ∃ v11 v12 v13 v14 : Option V, σ = [some (.ref sc), some (.int (at_ : Int)), some (.ref aD), some (.str l), some (.ref aS), some (.int n), some (.ref a), some (.ref aG), some (.ref aT), some (.int (0 + (i : Int))), some (.ref aRow), v11, v12, v13, v14, e15, e16, e17, e18, e19])
      ⟨fun b o _ e => e, Rs.le ⟨_, R6⟩ (by omega), _, _, _, _, rfl⟩ ?_ ?_⟩
    rotate_left
    · rintro σ H' ⟨kp', R, v11, v12, v13, v14, rfl⟩
      exact ⟨fun b o nb e => kp' b o nb (kp6 b o nb e), R.le (by omega), _, _, _, _, _, _, rfl⟩
    rintro u σ H7 hu ⟨kp7, R7, v11, v12, v13, v14, rfl⟩
    have hT7 := kp7 _ _ aTn hT6
    refine ⟨_, rfl, aT, _, rfl, .inl (SqL.of hT7), _, rfl, by omega, by omega, for_range (lo := 0) (n := ((((nil0 :: ss).map V.str).length : Nat) : Int).toNat) (fun j σ H' => (∀ b o, b ≠ a → H6 b = some o → H' b = some o) ∧ Rs H0 H' a l n (100 + 20 * i + 4 * u + j) ∧ ∃ v12 v13 v14 : Option V, σ = [some (.ref sc), some (.int (at_ : Int)), some (.ref aD), some (.str l), some (.ref aS), some (.int n), some (.ref a), some (.ref aG), some (.ref aT), some (.int (0 + (i : Int))), some (.ref aRow), some (.int (0 + (u : Int))), v12, v13, v14, e15, e16, e17, e18, e19])
      ⟨kp7, R7.le (by omega), _, _, _, rfl⟩ ?_ ?_⟩
    rotate_left
    · rintro σ H' ⟨kp', R, v12, v13, v14, rfl⟩
      exact ⟨kp', R.le (by omega), _, _, _, _, rfl⟩
    rintro j σ H8 hj ⟨kp8, ⟨B8, R8⟩, v12, v13, v14, rfl⟩
    have u5 : u < 5 := by omega
    have j4 : j < 4 := by omega
    have hRow8 := kp8 _ _ aRn hrow
    have hT8 := kp8 _ _ aTn hT6
    have hG8 := kp8 _ _ aGn hG6
    have sizes : ∀ q, q < 20 → ∀ t, t < 5 → (List.replicate 20 ([13, 6, 8, 6, 12] : List Int)).flatten[5 * q + t]? = ([13, 6, 8, 6, 12] : List Int)[t]? := by decide +kernel
    have lenR : row.length = 100 := dg2.1
    have digR : ∀ (t : Nat) (b : Int), t < 5 → ([13, 6, 8, 6, 12] : List Int)[t]? = some b → ∃ d : Nat, row[5 * (4 * u + j) + t]? = some (d : Int) ∧ (d : Int) < b := fun t b lt e => by
      obtain ⟨d, e1, e2, e3⟩ := dg2.2 (5 * (4 * u + j) + t) b (by rw [sizes (4 * u + j) (by omega) t lt]; exact e)
      exact ⟨d.toNat, by rw [e1, Int.toNat_of_nonneg e2], by rw [Int.toNat_of_nonneg e2]; exact e3⟩
    obtain ⟨p0, ep0, bp0⟩ := digR 0 13 (by decide) rfl
    obtain ⟨p1, ep1, bp1⟩ := digR 1 6 (by decide) rfl
    obtain ⟨p2, ep2, bp2⟩ := digR 2 8 (by decide) rfl
    obtain ⟨p3, ep3, bp3⟩ := digR 3 6 (by decide) rfl
    obtain ⟨p4, ep4, bp4⟩ := digR 4 12 (by decide) rfl
    refine ⟨_, rfl, _, rfl, _, _, rfl, rfl, .inl ⟨by decide, by decide⟩, _, rfl, _, _, rfl, rfl, _, _, rfl, rfl, .inl ⟨by decide, by decide⟩, _, rfl, _, rfl, _, _, rfl, rfl, .inl ⟨by decide, by decide⟩, _, rfl, _, _, rfl, rfl, _, _, rfl, rfl, .inl ⟨by decide, by decide⟩, _, _, rfl, rfl, _, rfl, aRow, _, rfl, SqL.of hRow8, fun q nq => ?_⟩
    have cutE : cutV (row.map V.int) (some (5 * (4 * (0 + (u : Int)) + (0 + (j : Int))))) (some (5 * (4 * (0 + (u : Int)) + (0 + (j : Int))) + 5)) = ((row.drop (5 * (4 * u + j))).take 5).map V.int := by
      have c := cut_in (row := row) (a := 5 * (4 * u + j)) (b := 5 * (4 * u + j) + 5) (by omega) (by omega)
      rw [show 5 * (4 * u + j) + 5 - 5 * (4 * u + j) = 5 by omega] at c
      rw [show (5 : Int) * (4 * (0 + (u : Int)) + (0 + (j : Int))) + 5 = ((5 * (4 * u + j) + 5 : Nat) : Int) by omega, show (5 : Int) * (4 * (0 + (u : Int)) + (0 + (j : Int))) = ((5 * (4 * u + j) : Nat) : Int) by omega]
      exact c
    rw [cutE]
    have partAt : ∀ {t d : Nat}, t < 5 → row[5 * (4 * u + j) + t]? = some (d : Int) → ((row.drop (5 * (4 * u + j))).take 5)[t]? = some (d : Int) := fun {t d} lt e => by
      rw [List.getElem?_take_of_lt lt, List.getElem?_drop]
      exact e
    have ar : ActRow ((row.drop (5 * (4 * u + j))).take 5) p0 p1 p2 p3 p4 := ⟨partAt (by decide) ep0, partAt (by decide) ep1, partAt (by decide) ep2, partAt (by decide) ep3, partAt (by decide) ep4, by omega, by omega, by omega⟩
    generalize (row.drop (5 * (4 * u + j))).take 5 = part at ar ⊢
    have tq := same_new (o := HO.lst (part.map V.int)) nq
    obtain ⟨sg, esg⟩ : ∃ x, SL[u]? = some x := ⟨_, List.getElem?_eq_getElem (show u < SL.length by omega)⟩
    have osg := okSL sg (List.mem_of_getElem? esg)
    obtain ⟨tp, etp⟩ : ∃ x, (nil0 :: ss)[j]? = some x := ⟨_, List.getElem?_eq_getElem (show j < (nil0 :: ss).length by rw [List.length_cons]; omega)⟩
    have otp : Top tp := by
      rcases List.mem_cons.mp (List.mem_of_getElem? etp) with e | m
      · exact .inr e
      · exact .inl (okss tp m)
    have atG : atI (SL.map V.str) (0 + (u : Int)) = some (.str sg) := by
      rw [show (0 : Int) + (u : Int) = ((u : Nat) : Int) by omega]
      exact atI_nat (by rw [List.getElem?_map, esg] <;> rfl)
    have atT : atI ((nil0 :: ss).map V.str) (0 + (j : Int)) = some (.str tp) := by
      rw [show (0 : Int) + (j : Int) = ((j : Nat) : Int) by omega]
      exact atI_nat (by rw [List.getElem?_map, etp] <;> rfl)
    refine ⟨_, rfl, _, rfl, _, rfl, 1, rfl, aT, _, rfl, SqL.of (tq _ _ hT8), fun r nr => ?_⟩
    have cutT : cutV ((nil0 :: ss).map V.str) (some 1) none = ss.map V.str := by
      have z : cutV ((nil0 :: ss).map V.str) (some ((1 : Nat) : Int)) none = ((nil0 :: ss).map V.str).drop 1 := by
        unfold cutV
        rw [HT.sIx_none, HT.sIx_nat, Nat.min_eq_left (by rw [lT6]; omega)]
        exact List.take_of_length_le (by rw [List.length_drop]; exact Nat.le_refl _)
      exact z
    rw [cutT]
    have tr := tq.trans (same_new (o := HO.lst (ss.map V.str)) nr)
    refine ⟨_, rfl, _, rfl, aG, _, _, .str sg, rfl, rfl, SqL.of (tr _ _ hG8), atG, _, rfl, _, rfl, aT, _, _, .str tp, rfl, rfl, SqL.of (tr _ _ hT8), atT, ?_⟩
    refine ⟨q, r, part, p0, p1, p2, p3, p4, n, l, sg, tp, ss, rfl, SqL.of (same_new nr _ _ upd_same), ar, SqL.of upd_same, n1, ness, okss, osg, otp, ?_, fun t rr Ht stx eg ep okr ht => ?_⟩
    · dsimp only [gName]
      refine ⟨fun σ' H' => ∃ v' : V, σ' = [some (.ref sc), some (.int (at_ : Int)), some (.ref aD), some (.str l), some (.ref aS), some (.int n), some (.ref a), some (.ref aG), some (.ref aT), some (.int (0 + (i : Int))), some (.ref aRow), some (.int (0 + (u : Int))), some (.int (0 + (j : Int))), some (.ref q), some v', e15, e16, e17, e18, e19] ∧ Same H8 H' ∧ (v' = .non ∨ ∃ (t : Addr) (rr : Rl), v' = .ref t ∧ rr.sg = sg ∧ rr.tp = tp ∧ RlOk l n rr ∧ H' t = some (.tup (rr.a5.map kV))), ?_, ?_⟩
      · refine ⟨_, rfl, _, rfl, _, _, rfl, rfl, _, rfl, _, _, rfl, rfl, rfl, _, rfl, ite2 (fun e => ?_) (fun _ => ⟨.non, rfl, tr, .inl rfl⟩)⟩
        have e0 := V.int.inj (of_decide_eq_true e)
        have u0 : u = 0 := by omega
        have sl : sg = lt0 := by
          rw [u0, atSL] at esg
          exact (Option.some.inj esg).symm
        refine ⟨_, rfl, _, _, rfl, rfl, show 5 ≤ sizeLine by decide, fun t2 nt2 => ?_⟩
        exact ⟨.ref t2, rfl, (tr).trans (same_new nt2), .inr ⟨t2, ⟨0, sg, tp, n - 1, 1, keep0, nil0, nil0⟩, rfl, rfl, rfl, mkRl (by omega) osg otp (by omega) (mvR (by rw [sl]; exact lt_gt)) (keepD _) said0, upd_same⟩⟩
      rintro _ Hy ⟨v', rfl, sy, hv⟩
      rcases hv with rfl | ⟨t, rr, rfl, eg, ep, okr, ht⟩
      · exact ⟨_, rfl, _, rfl, iteNo17 (by rw [decide_eq_true rfl] <;> rfl) ⟨fun b o nb e => sy _ _ (kp8 b o nb e), Rs.le ⟨_, R8.mono sy⟩ (by omega), _, _, _, rfl⟩⟩
      · have RT := R8.mono sy
        refine ⟨_, rfl, _, rfl, ite2 (fun _ => ?_) (fun c => absurd (by rw [decide_eq_false (fun z => nomatch z)] <;> rfl) c)⟩
        refine ⟨_, rfl, .inl ⟨rfl, _, SqL.of RT.at_⟩, _, rfl, _, rfl, _, rfl, aG, _, _, .str sg, rfl, rfl, SqL.of (sy _ _ hG8), atG, _, rfl, _, rfl, aT, _, _, .str tp, rfl, rfl, SqL.of (sy _ _ hT8), atT, show 3 ≤ sizeLine by decide, fun kq nk => ?_⟩
        have RT' := RT.mono (same_new (o := HO.tup [V.int (0 + (i : Int)), V.str sg, V.str tp]) nk)
        refine ⟨_, rfl, kq, t, [.int (0 + (i : Int)), .str sg, .str tp], _, rfl, rfl, .inl (.inl upd_same), .inl (.inl (same_new nk _ _ ht)), (fun z => nomatch z), show 3 + 5 ≤ sizeLine by decide, (fun z => nomatch z), fun _ w2 nw => ⟨a, _, _, rfl, rfl, RT'.look nw, RT'.sz (by omega), ?_⟩⟩
        have RA := RT'.add na nw (r := ⟨0 + (i : Int), sg, tp, rr.af, rr.mv, rr.de, rr.sy, rr.sa⟩) (mkRl (by omega) osg otp okr.af (by rw [← eg]; exact okr.mv) (by rw [← ep]; exact okr.de) okr.sa)
        exact ⟨fun b o nb e => by rw [upd_ne nb]; exact same_new nw _ _ (same_new nk _ _ (sy _ _ (kp8 b o nb e))), Rs.le ⟨_, RA⟩ (by omega), _, _, _, rfl⟩
    · dsimp only [gName]
      refine ⟨fun σ' H' => ∃ v' : V, σ' = [some (.ref sc), some (.int (at_ : Int)), some (.ref aD), some (.str l), some (.ref aS), some (.int n), some (.ref a), some (.ref aG), some (.ref aT), some (.int (0 + (i : Int))), some (.ref aRow), some (.int (0 + (u : Int))), some (.int (0 + (j : Int))), some (.ref q), some v', e15, e16, e17, e18, e19] ∧ Same H8 H' ∧ (v' = .non ∨ ∃ (t : Addr) (rr : Rl), v' = .ref t ∧ rr.sg = sg ∧ rr.tp = tp ∧ RlOk l n rr ∧ H' t = some (.tup (rr.a5.map kV))), ?_, ?_⟩
      · refine ⟨_, rfl, _, rfl, _, _, rfl, rfl, _, rfl, _, _, rfl, rfl, rfl, _, rfl, ite2 (fun e => ?_) (fun _ => ⟨.ref t, rfl, tr.trans stx, .inr ⟨t, rr, rfl, eg, ep, okr, ht⟩⟩)⟩
        have e0 := V.int.inj (of_decide_eq_true e)
        have u0 : u = 0 := by omega
        have sl : sg = lt0 := by
          rw [u0, atSL] at esg
          exact (Option.some.inj esg).symm
        refine ⟨_, rfl, _, _, rfl, rfl, show 5 ≤ sizeLine by decide, fun t2 nt2 => ?_⟩
        exact ⟨.ref t2, rfl, (tr.trans stx).trans (same_new nt2), .inr ⟨t2, ⟨0, sg, tp, n - 1, 1, keep0, nil0, nil0⟩, rfl, rfl, rfl, mkRl (by omega) osg otp (by omega) (mvR (by rw [sl]; exact lt_gt)) (keepD _) said0, upd_same⟩⟩
      rintro _ Hy ⟨v', rfl, sy, hv⟩
      rcases hv with rfl | ⟨t, rr, rfl, eg, ep, okr, ht⟩
      · exact ⟨_, rfl, _, rfl, iteNo17 (by rw [decide_eq_true rfl] <;> rfl) ⟨fun b o nb e => sy _ _ (kp8 b o nb e), Rs.le ⟨_, R8.mono sy⟩ (by omega), _, _, _, rfl⟩⟩
      · have RT := R8.mono sy
        refine ⟨_, rfl, _, rfl, ite2 (fun _ => ?_) (fun c => absurd (by rw [decide_eq_false (fun z => nomatch z)] <;> rfl) c)⟩
        refine ⟨_, rfl, .inl ⟨rfl, _, SqL.of RT.at_⟩, _, rfl, _, rfl, _, rfl, aG, _, _, .str sg, rfl, rfl, SqL.of (sy _ _ hG8), atG, _, rfl, _, rfl, aT, _, _, .str tp, rfl, rfl, SqL.of (sy _ _ hT8), atT, show 3 ≤ sizeLine by decide, fun kq nk => ?_⟩
        have RT' := RT.mono (same_new (o := HO.tup [V.int (0 + (i : Int)), V.str sg, V.str tp]) nk)
        refine ⟨_, rfl, kq, t, [.int (0 + (i : Int)), .str sg, .str tp], _, rfl, rfl, .inl (.inl upd_same), .inl (.inl (same_new nk _ _ ht)), (fun z => nomatch z), show 3 + 5 ≤ sizeLine by decide, (fun z => nomatch z), fun _ w2 nw => ⟨a, _, _, rfl, rfl, RT'.look nw, RT'.sz (by omega), ?_⟩⟩
        have RA := RT'.add na nw (r := ⟨0 + (i : Int), sg, tp, rr.af, rr.mv, rr.de, rr.sy, rr.sa⟩) (mkRl (by omega) osg otp okr.af (by rw [← eg]; exact okr.mv) (by rw [← ep]; exact okr.de) okr.sa)
        exact ⟨fun b o nb e => by rw [upd_ne nb]; exact same_new nw _ _ (same_new nk _ _ (sy _ _ (kp8 b o nb e))), Rs.le ⟨_, RA⟩ (by omega), _, _, _, rfl⟩
  · rintro σ H' ⟨kp, R, v9, v10, v11, v12, v13, v14, rfl⟩
    exact ⟨kp, R.le (by omega), _, _, _, _, _, _, rfl⟩
end
end Mk

set_option Elab.async false
set_option linter.unusedVariables false
set_option maxRecDepth 100000
set_option maxHeartbeats 16000000
namespace Mk
open PySem L2 Pk
theorem Rs.base {H0 H1 H' : Hp} {a : Addr} {l : PySem.Str} {n : Int} {m : Nat} (h : Rs H1 H' a l n m) (s : Same H0 H1) : Rs H0 H' a l n m := by
  obtain ⟨B, R⟩ := h
  exact ⟨B, s.trans R.same, R.at_, R.kept, R.ok, R.few⟩
theorem menu_st {d : Nat} (h : d < 8) : ∃ n : Int, atI [V.int 4, V.int 2, V.int 3, V.int 3, V.int 1, V.int 4, V.int 5, V.int 2] (d : Int) = some (.int n) ∧ 1 ≤ n ∧ n ≤ 5 := by
  have c : d = 0 ∨ d = 1 ∨ d = 2 ∨ d = 3 ∨ d = 4 ∨ d = 5 ∨ d = 6 ∨ d = 7 := by omega
  rcases c with rfl | rfl | rfl | rfl | rfl | rfl | rfl | rfl
  · exact ⟨4, rfl, by omega, by omega⟩
  · exact ⟨2, rfl, by omega, by omega⟩
  · exact ⟨3, rfl, by omega, by omega⟩
  · exact ⟨3, rfl, by omega, by omega⟩
  · exact ⟨1, rfl, by omega, by omega⟩
  · exact ⟨4, rfl, by omega, by omega⟩
  · exact ⟨5, rfl, by omega, by omega⟩
  · exact ⟨2, rfl, by omega, by omega⟩
section
variable {P : Program} {w : World} {K : PySem.W.Frag} {mg : PySem.Str → Option Value} {base : Heap}
def spMach (K : PySem.W.Frag) : Sp := fun vs H Q _ => ∃ (sc : Addr) (ns : List Int) (at_ : Nat), vs = [.ref sc, .int (at_ : Int)] ∧ SqL K H sc (ns.map V.int) ∧ ∀ (p : Addr) (H' : Hp), MachD H p H' → Q (.ref p) H'
theorem ok_machine {f : Addr} {fd : FuncData} (F : Fun K "_law_machine" "_law_machine" sMachine f fd) (T : TM mg) (G : GenDefs P w K mg base) : FnOk P w K mg base CX0 2 f fd ["script", "at"] (spMach K) := by
  refine F.ok scMachine (fun vs H Q E h => ?_) (fun cdv A outer s H vs Q E hr h => ?_)
  · obtain ⟨sc, ns, at_, rfl, _⟩ := h
    rfl
  · obtain ⟨sc, ns, at_, rfl, hSc, k⟩ := h
    have nd := scMachine.nd
    have h1 := hr
    obtain ⟨tX, hX, kX⟩ := mach_X (f := f) T G cdv A outer s H E hr
    refine ⟨_, pss_cons (ps_set (i := 2) nd rfl (Or.inr rfl) (pe_got G.digits h1 (by rfl) (pa_cons (pe_got G.cell h1 (by rfl) (pa_cons (pv 0) (pa_cons (pv 1) pa_nil))) (pa_cons (pe_op op_cat (pe_op op_cat (pe_lst (pa_cons pe_int (pa_cons pe_int (pa_cons pe_int (pa_cons pe_int (pa_cons pe_int (pa_cons pe_int (pa_cons pe_int (pa_cons pe_int (pa_cons pe_int (pa_cons pe_int pa_nil))))))))))) (pe_op op_rep (pe_lst (pa_cons pe_int (pa_cons pe_int (pa_cons pe_int (pa_cons pe_int (pa_cons pe_int (pa_cons pe_int pa_nil))))))) pe_int)) (pe_op op_rep (pe_lst (pa_cons pe_int pa_nil)) pe_int)) pa_nil))))
      (pss_cons (ps_set (i := 3) nd rfl (Or.inl rfl) (pe_got G.alpha h1 (by rfl) (pa_cons (pe_slice sl_list (pv 2) (po_some pe_int) (po_some pe_int)) pa_nil)))
      (pss_cons (ps_set (i := 4) nd rfl (Or.inl rfl) (pe_got G.syms h1 (by rfl) (pa_cons (pe_ix ix_list (pv 2) pe_int fun _ _ => rfl) pa_nil)))
      (pss_cons (ps_set (i := 5) nd rfl (Or.inl rfl) (pe_ix ix_list (pe_lst (pa_cons pe_int (pa_cons pe_int (pa_cons pe_int (pa_cons pe_int (pa_cons pe_int (pa_cons pe_int (pa_cons pe_int (pa_cons pe_int pa_nil))))))))) (pe_ix ix_list (pv 2) pe_int fun _ _ => rfl) fun _ _ => rfl))
      (pss_cons (ps_set (i := 6) nd rfl (Or.inl rfl) (pe_lst pa_nil))
      (C8.pss_cut (ps_if (pt_cmpR op_ge (pe_ix ix_list (pv 2) pe_int fun _ _ => rfl) pe_int (nomark _))
        (pss_cons (ps_set (i := 5) nd rfl (Or.inl rfl) pe_int)
        (pss_one (ps_if (pt_cmpR op_lt (pe_ix ix_list (pv 2) pe_int fun _ _ => rfl) pe_int (nomark _))
          (pss_one (ps_set (i := 6) nd rfl (Or.inl rfl) (pe_got G.caller h1 (by rfl) (pa_cons (pv 3) (pa_cons (pe_ix ix_list (pv 4) pe_int fun _ _ => rfl) (pa_cons (pe_ix ix_list (pv 4) pe_int fun _ _ => rfl) (pa_cons (pe_slice sl_list (pv 2) (po_some pe_int) po_none) pa_nil)))))))
          (pss_one (ps_if (pt_cmpR op_lt (pe_ix ix_list (pv 2) pe_int fun _ _ => rfl) pe_int (nomark _))
            (pss_cons (ps_set (i := 5) nd rfl (Or.inl rfl) pe_int)
            (pss_one (ps_set (i := 6) nd rfl (Or.inl rfl) (pe_got G.restorer h1 (by rfl) (pa_cons (pv 3) (pa_cons (pe_ix ix_list (pv 4) pe_int fun _ _ => rfl) (pa_cons (pe_ix ix_list (pv 4) pe_int fun _ _ => rfl) pa_nil)))))))
            (pss_one (ps_if (pt_cmpR op_lt (pe_ix ix_list (pv 2) pe_int fun _ _ => rfl) pe_int (nomark _))
              (pss_one (ps_set (i := 6) nd rfl (Or.inl rfl) (pe_got G.scanner h1 (by rfl) (pa_cons (pv 3) (pa_cons (pe_ix ix_list (pv 4) pe_int fun _ _ => rfl) (pa_cons (pe_ix ix_list (pv 4) pe_int fun _ _ => rfl) pa_nil))))))
              (pss_one (ps_set (i := 6) nd rfl (Or.inl rfl) (pe_got G.climber h1 (by rfl) (pa_cons (pv 3) (pa_cons (pe_ix ix_list (pv 4) pe_int fun _ _ => rfl) (pa_cons (pe_ix ix_list (pv 4) pe_int fun _ _ => rfl) pa_nil)))))))))))))
        pss_nil)
      hX))))), ?_⟩
    have le : ∀ {a b : Nat}, b = 100 → a ≤ b → a ≤ sizeLine := fun e h => Nat.le_trans h (by rw [e]; decide)
    refine ⟨_, rfl, _, rfl, sc, ns, at_, rfl, hSc, fun z0 => ⟨show 10 ≤ sizeLine by decide, fun q1 m1 => ⟨show 6 ≤ sizeLine by decide, fun q2 m2 => ⟨q2, 3, _, rfl, rfl, upd_same, by decide, by decide, by decide, fun q3 m3 => ?_⟩⟩⟩⟩
    refine ⟨q1, q3, _, _, rfl, rfl, same_new m3 _ _ (same_new m2 _ _ upd_same), upd_same, show 28 ≤ sizeLine by decide, fun q4 m4 => ⟨show 1 ≤ sizeLine by decide, fun q5 m5 => ⟨q5, 9, _, rfl, rfl, upd_same, by decide, by decide, by decide, fun q6 m6 => ?_⟩⟩⟩
    refine ⟨q4, q6, _, _, rfl, rfl, same_new m6 _ _ (same_new m5 _ _ upd_same), upd_same, show 37 ≤ sizeLine by decide, fun q7 m7 => ?_⟩
    refine ⟨z0, q7, headSizes, rfl, SqL.of upd_same, by decide, by decide, fun head aD H1 dg np s1 hhead => ?_⟩
    have sA : Same H H1 := (((((((same_new m1).trans (same_new m2)).trans (same_new m3)).trans (same_new m4)).trans (same_new m5)).trans (same_new m6)).trans (same_new m7)).trans s1
    clear s1 np m1 m2 m3 m4 m5 m6 m7
    have rowAt : ∀ {j : Nat} {d : Nat}, head[j]? = some (d : Int) → atI (head.map V.int) (j : Int) = some (V.int d) := fun {j d} e => atI_nat (by rw [List.getElem?_map, e]; rfl)
    have dig : ∀ (j : Nat) (t : Int), headSizes[j]? = some t → ∃ d : Nat, head[j]? = some (d : Int) ∧ (d : Int) < t := fun j t e => by
      obtain ⟨d, e1, e2, e3⟩ := dg.2 j t e
      exact ⟨d.toNat, by rw [e1, Int.toNat_of_nonneg e2], by rw [Int.toNat_of_nonneg e2]; exact e3⟩
    have lenH : head.length = 37 := dg.1
    obtain ⟨d0, e0, b0⟩ := dig 0 12 rfl
    obtain ⟨d1, e1, b1⟩ := dig 1 8 rfl
    obtain ⟨d2, e2, b2⟩ := dig 2 12 rfl
    obtain ⟨d3, e3, b3⟩ := dig 3 13 rfl
    obtain ⟨d4, e4, b4⟩ := dig 4 6 rfl
    obtain ⟨d5, e5, b5⟩ := dig 5 8 rfl
    -- the alphabet
    refine ⟨_, rfl, 1, rfl, 4, rfl, aD, _, rfl, SqL.of hhead, fun q nq => ?_⟩
    have cutA : cutV (head.map V.int) (some 1) (some 4) = ((head.drop 1).take 3).map V.int := cut_in (row := head) (a := 1) (b := 4) (by omega) (by omega)
    rw [cutA]
    have tq := same_new (o := HO.lst (((head.drop 1).take 3).map V.int)) nq
    refine ⟨q, (head.drop 1).take 3, d1, d2, d3, rfl, SqL.of upd_same, ?_, ?_, ?_, by omega, by omega, fun l al l3 _ => ?_⟩
    · rw [List.getElem?_take_of_lt (by decide), List.getElem?_drop]; exact e1
    · rw [List.getElem?_take_of_lt (by decide), List.getElem?_drop]; exact e2
    · rw [List.getElem?_take_of_lt (by decide), List.getElem?_drop]; exact e3
    -- the symbols
    refine ⟨_, rfl, aD, _, _, _, rfl, rfl, SqL.of (tq _ _ hhead), rowAt (j := 4) e4, d4, rfl, by omega, fun aS x y z H2 s2 ox oy oz hS => ?_⟩
    have s12 := tq.trans s2
    -- the states
    obtain ⟨n, en, n1, n5⟩ := menu_st (d := d5) (by omega)
    refine ⟨show 8 ≤ sizeLine by decide, fun q3 nq3 => ?_⟩
    have t3 := same_new (o := HO.lst [V.int 4, V.int 2, V.int 3, V.int 3, V.int 1, V.int 4, V.int 5, V.int 2]) nq3
    refine ⟨_, rfl, aD, _, _, _, rfl, rfl, SqL.of (t3 _ _ (s12 _ _ hhead)), rowAt (j := 5) e5, q3, _, _, .int n, rfl, rfl, SqL.of upd_same, en, ?_⟩
    have s13 := s12.trans t3
    have hS3 := t3 _ _ hS
    have hD3 := s13 _ _ hhead
    have sB := sA.trans s13
    dsimp only [gName]
    show (tSeq _ _) _ _ (upd H2 q3 (.lst [V.int 4, V.int 2, V.int 3, V.int 3, V.int 1, V.int 4, V.int 5, V.int 2]))
    generalize upd H2 q3 (.lst [V.int 4, V.int 2, V.int 3, V.int 3, V.int 1, V.int 4, V.int 5, V.int 2]) = H3 at hS3 hD3 sB ⊢
    clear t3 s13 s12 tq nq nq3 en cutA
    -- the rules
    refine ⟨Nat.zero_le _, fun a na => ?_⟩
    have ta := same_new (o := HO.lst []) na
    have hS4 := ta _ _ hS3
    have hD4 := ta _ _ hD3
    have R0 : Rs H3 (upd H3 a (.lst [])) a l n 100 := ⟨[], ta, upd_same, fun p m => absurd m List.not_mem_nil, fun p m => absurd m List.not_mem_nil, Nat.zero_le _⟩
    have s4 := sB.trans ta
    dsimp only [gName]
    show (C8.tCut _ _) _ _ (upd H3 a (.lst []))
    generalize upd H3 a (.lst []) = H4 at hS4 hD4 R0 s4 ⊢
    refine ⟨fun σ' H' => ∃ (n : Int) (a : Addr), σ' = [some (.ref sc), some (.int (at_ : Int)), some (.ref aD), some (.str l), some (.ref aS), some (.int n), some (.ref a), none, none, none, none, none, none, none, none, none, none, none, none, none] ∧ 1 ≤ n ∧ n ≤ 5 ∧ H' aD = some (.lst (head.map V.int)) ∧ H' aS = some (.lst [.str x, .str y, .str z]) ∧ H a = none ∧ Rs H H' a l n 100, ?_, ?_⟩
    rotate_left
    · rintro _ H' ⟨n, a, rfl, n1, n5, hD', hS', na', R⟩
      exact kX _ H k H' sc aD aS a ns head at_ l x y z n _ _ _ _ _ _ _ _ _ _ _ _ _ hSc hD' dg hS' ox oy oz al l3 n1 n5 na' R
    have other : ∀ {n : Int} {H0 H' : Hp} {p : Addr}, Same H4 H0 → H0 p = none → Rs H0 H' p l n 100 → H' aD = some (.lst (head.map V.int)) ∧ H' aS = some (.lst [.str x, .str y, .str z]) ∧ H p = none ∧ Rs H H' p l n 100 := fun s np R =>
      ⟨R.same _ _ (s _ _ hD4), R.same _ _ (s _ _ hS4), (s4.trans s).free np, R.base (s4.trans s)⟩
    refine ⟨_, rfl, aD, _, _, _, rfl, rfl, SqL.of hD4, rowAt (j := 0) e0, _, _, rfl, rfl, _, rfl, ite2 (fun _ => ?_) (fun _ => ⟨n, a, rfl, n1, n5, hD4, hS4, sB.free na, R0.base sB⟩)⟩
    refine ⟨_, rfl, aD, _, _, _, rfl, rfl, SqL.of hD4, rowAt (j := 0) e0, _, _, rfl, rfl, _, rfl, ite2 (fun _ => ?_) (fun _ => ?_)⟩
    · refine ⟨_, rfl, _, rfl, aS, _, 0, .str x, rfl, rfl, SqL.of hS4, rfl, _, rfl, aS, _, 1, .str y, rfl, rfl, SqL.of hS4, rfl, _, rfl, 28, rfl, aD, _, rfl, SqL.of hD4, fun q nq => ?_⟩
      have cutM : cutV (head.map V.int) (some 28) none = (head.drop 28).map V.int := cut_from (row := head) (a := 28) (by omega)
      rw [cutM]
      have tq := same_new (o := HO.lst ((head.drop 28).map V.int)) nq
      exact ⟨l, x, y, q, head.drop 28, rfl, al, l3, ox, oy, SqL.of upd_same, by rw [List.length_drop]; omega, fun p H' np R => ⟨4, p, rfl, by decide, by decide, other tq np R⟩⟩
    refine ⟨_, rfl, aD, _, _, _, rfl, rfl, SqL.of hD4, rowAt (j := 0) e0, _, _, rfl, rfl, _, rfl, ite2 (fun _ => ?_) (fun _ => ?_)⟩
    · exact ⟨_, rfl, _, rfl, aS, _, 0, .str x, rfl, rfl, SqL.of hS4, rfl, _, rfl, aS, _, 1, .str y, rfl, rfl, SqL.of hS4, rfl, l, x, y, rfl, al, l3, ox, oy, fun p H' np R => ⟨5, p, rfl, by decide, by decide, other (Same.refl _) np R⟩⟩
    refine ⟨_, rfl, aD, _, _, _, rfl, rfl, SqL.of hD4, rowAt (j := 0) e0, _, _, rfl, rfl, _, rfl, ite2 (fun _ => ?_) (fun _ => ?_)⟩
    · exact ⟨_, rfl, _, rfl, aS, _, 0, .str x, rfl, rfl, SqL.of hS4, rfl, _, rfl, aS, _, 1, .str y, rfl, rfl, SqL.of hS4, rfl, l, x, y, rfl, al, l3, ox, oy, fun p H' np R => ⟨4, p, rfl, by decide, by decide, other (Same.refl _) np R⟩⟩
    · exact ⟨_, rfl, _, rfl, aS, _, 0, .str x, rfl, rfl, SqL.of hS4, rfl, _, rfl, aS, _, 1, .str y, rfl, rfl, SqL.of hS4, rfl, l, x, y, rfl, al, l3, ox, oy, fun p H' np R => ⟨4, p, rfl, by decide, by decide, other (Same.refl _) np R⟩⟩
end
end Mk

set_option Elab.async false
set_option linter.all false
set_option maxRecDepth 100000
/-! ** of great ints -/
namespace Sx
open PySem PySem.Spec PyProof.Rows L2
def CPowG (i j : Int) : Prop := 0 ≤ j ∧ (Builtin.Int.intBits i : Int) * j ≤ 2 ^ 27
section
variable {X : Cx}
theorem op_powG : OpR X (binaryOp .Pow) (rI CPowG fun i j => .int (i ^ j.toNat)) := opI fun _ _ _ _ _ _ _ hc q => pow_int hc.1 hc.2 q
end
theorem powG_of {i : Int} {a k : Nat} (h : i.natAbs < 2 ^ a) (hk : a * k ≤ 100000000) : CPowG i (k : Int) := by
  have b := intBits_le h
  refine ⟨by omega, ?_⟩
  have z : Builtin.Int.intBits i * k ≤ a * k := Nat.mul_le_mul_right k b
  have e : ((Builtin.Int.intBits i * k : Nat) : Int) = (Builtin.Int.intBits i : Int) * (k : Int) := Int.natCast_mul _ _
  rw [← e]
  have : (2 : Int) ^ 27 = 134217728 := by decide
  omega
end Sx

set_option Elab.async false
set_option linter.unusedVariables false
set_option maxRecDepth 100000
set_option maxHeartbeats 8000000
namespace Mk
open PySem L2 Pk
abbrev sSurf : Stmt := top 1
abbrev sMeet : Stmt := top 2
abbrev sEdges : Stmt := top 3
abbrev sWith : Stmt := top 4
abbrev sJoin : Stmt := top 5
section
variable {P : Program} {w : World} {K : PySem.W.Frag} {mg : PySem.Str → Option Value} {base : Heap}
def symN (rs : List Rl) : Nat := (symsOf (rulesOf rs)).length
def surfN (n : Int) (rs : List Rl) (m : Int) : Int := n * ((symN rs : Int) + 1) * (m + 2)
/-- a machine and a size that a bill is asked for -/
def BillOf (K : PySem.W.Frag) (H : Hp) (x : Addr) (n m : Int) (rs : List Rl) : Prop := ∃ (C : Addr) (l : PySem.Str) (ys : List Int), MCls K C ∧ MachAt K H C x l n rs ys ∧ 0 ≤ n ∧ n ≤ 2000 ∧ rs.length ≤ 1000 ∧ symN rs ≤ 1000 ∧ 0 ≤ m ∧ m.natAbs < 2 ^ 110
theorem bill_parts {K : PySem.W.Frag} {H : Hp} {x : Addr} {n m : Int} {rs : List Rl} (h : BillOf K H x n m rs) : n.natAbs < 2 ^ 11 ∧ ((symN rs : Int) + 1).natAbs < 2 ^ 10 ∧ (m + 2).natAbs < 2 ^ 111 := by
  obtain ⟨C, l, ys, _, _, n0, n2, _, s1, m0, m1⟩ := h
  refine ⟨?_, ?_, ?_⟩
  · have : (2 : Nat) ^ 11 = 2048 := by decide
    omega
  · have : (2 : Nat) ^ 10 = 1024 := by decide
    omega
  · have e : (2 : Nat) ^ 111 = 2 ^ 110 + 2 ^ 110 := by decide
    have f : (4 : Nat) < 2 ^ 110 := by decide
    generalize (2 : Nat) ^ 110 = z at *
    omega
theorem surf_small {K : PySem.W.Frag} {H : Hp} {x : Addr} {n m : Int} {rs : List Rl} (h : BillOf K H x n m rs) : (surfN n rs m).natAbs < 2 ^ 132 := by
  obtain ⟨a, b, c⟩ := bill_parts h
  exact wide_lt (wide_lt a b) c
def spSurf (K : PySem.W.Frag) : Sp := fun vs H Q _ => ∃ (x : Addr) (n m : Int) (rs : List Rl), vs = [.ref x, .int m] ∧ BillOf K H x n m rs ∧ Q (.int (surfN n rs m)) H
theorem scSurf : FnScope ["machine", "length"] ["machine", "length"] (defScope sSurf) := ⟨rfl, rfl, rfl, by decide +kernel, rfl, by decide +kernel, by decide +kernel⟩
theorem ok_surf {f : Addr} {fd : FuncData} (F : Fun K "surfaces_at_most" "surfaces_at_most" sSurf f fd) (T : TM mg) : FnOk P w K mg base CX0 1 f fd ["machine", "length"] (spSurf K) := by
  refine F.ok scSurf (fun vs H Q E h => ?_) (fun cdv A outer s H vs Q E hr h => ?_)
  · obtain ⟨x, n, m, rs, rfl, _⟩ := h
    rfl
  · obtain ⟨x, n, m, rs, rfl, hb, k⟩ := h
    obtain ⟨a, b, c⟩ := bill_parts hb
    obtain ⟨C, l, ys, M, hm, n0, n2, _, s1, m0, m1⟩ := hb
    obtain ⟨dx, aR, aY, aS, aA, g, R, hx, hR, kR, eR, hY, hS, _, hg⟩ := hm.ex
    refine ⟨_, pss_one (ps_ret (pe_op op_mulW (pe_op op_mulW (pe_fld (pv 0) rfl) (pe_op op_add (pe_callB call_len_seq (by rfl) T.len PySem.boot_len (pa_cons (pe_fld (pv 0) rfl) pa_nil)) pe_int)) (pe_op op_add (pv 1) pe_int))), ?_⟩
    refine ⟨_, rfl, x, C, dx, _, .int n, rfl, hx, M.cls, M.states, rfl, _, rfl, x, C, dx, _, .ref aS, rfl, hx, M.cls, M.symbols, rfl, aS, _, rfl, .inr (.inl (.inl hS)), _, _, rfl, rfl, _, _, rfl, rfl, ?_, _, rfl, _, _, rfl, rfl, _, _, rfl, rfl, ?_, ?_⟩
    · rw [List.length_map]
      exact wide_mul a b (by decide) (by decide) (by decide)
    · rw [List.length_map]
      exact wide_mul (wide_lt a b) c (by decide) (by decide) (by decide)
    · rw [List.length_map]
      exact k
theorem scMeet : FnScope ["machine", "length"] ["machine", "length"] (defScope sMeet) := ⟨rfl, rfl, rfl, by decide +kernel, rfl, by decide +kernel, by decide +kernel⟩
def spMeet (K : PySem.W.Frag) : Sp := fun vs H Q _ => ∃ (x : Addr) (n m : Int) (rs : List Rl), vs = [.ref x, .int m] ∧ BillOf K H x n m rs ∧ Q (.int (2 * surfN n rs m)) H
theorem ok_meet {f : Addr} {fd : FuncData} (F : Fun K "meetings_at_most" "meetings_at_most" sMeet f fd) (G : Got P w K mg base "surfaces_at_most" 1 ["machine", "length"] (spSurf K)) : FnOk P w K mg base CX0 2 f fd ["machine", "length"] (spMeet K) := by
  refine F.ok scMeet (fun vs H Q E h => ?_) (fun cdv A outer s H vs Q E hr h => ?_)
  · obtain ⟨x, n, m, rs, rfl, _⟩ := h
    rfl
  · obtain ⟨x, n, m, rs, rfl, hb, k⟩ := h
    refine ⟨_, pss_one (ps_ret (pe_op op_mulW pe_int (pe_got G hr (by rfl) (pa_cons (pv 0) (pa_cons (pv 1) pa_nil))))), ?_⟩
    exact ⟨_, rfl, _, rfl, x, n, m, rs, rfl, hb, _, _, rfl, rfl, wide_mul (a := 2) (by decide) (surf_small hb) (by decide) (by decide) (by decide), k⟩
theorem scEdges : FnScope ["machine", "length"] ["machine", "length"] (defScope sEdges) := ⟨rfl, rfl, rfl, by decide +kernel, rfl, by decide +kernel, by decide +kernel⟩
def spEdges (K : PySem.W.Frag) : Sp := fun vs H Q _ => ∃ (x : Addr) (n m : Int) (rs : List Rl), vs = [.ref x, .int m] ∧ BillOf K H x n m rs ∧ Q (.int (surfN n rs m ^ 2)) H
theorem ok_edges {f : Addr} {fd : FuncData} (F : Fun K "edges_at_most" "edges_at_most" sEdges f fd) (G : Got P w K mg base "surfaces_at_most" 1 ["machine", "length"] (spSurf K)) : FnOk P w K mg base CX0 2 f fd ["machine", "length"] (spEdges K) := by
  refine F.ok scEdges (fun vs H Q E h => ?_) (fun cdv A outer s H vs Q E hr h => ?_)
  · obtain ⟨x, n, m, rs, rfl, _⟩ := h
    rfl
  · obtain ⟨x, n, m, rs, rfl, hb, k⟩ := h
    refine ⟨_, pss_one (ps_ret (pe_op Sx.op_powG (pe_got G hr (by rfl) (pa_cons (pv 0) (pa_cons (pv 1) pa_nil))) pe_int)), ?_⟩
    exact ⟨_, rfl, _, rfl, x, n, m, rs, rfl, hb, _, _, rfl, rfl, Sx.powG_of (k := 2) (surf_small hb) (by decide), k⟩
end
end Mk

set_option Elab.async false
set_option linter.unusedVariables false
set_option maxRecDepth 100000
set_option maxHeartbeats 8000000
namespace Mk
open PySem L2 Pk
section
variable {P : Program} {w : World} {K : PySem.W.Frag} {mg : PySem.Str → Option Value} {base : Heap}
def deedN (rs : List Rl) (d : PySem.Str) : Nat := (rs.filter fun r => decide (r.de = d)).length
def spWith (K : PySem.W.Frag) : Sp := fun vs H Q _ => ∃ (x : Addr) (n m : Int) (rs : List Rl) (d : PySem.Str), vs = [.ref x, .str d] ∧ BillOf K H x n m rs ∧ ∀ H', Same H H' → Q (.int (deedN (rulesOf rs) d : Int)) H'
theorem scWith : FnScope ["machine", "deed", "rule"] ["machine", "deed"] (defScope sWith) := ⟨rfl, rfl, rfl, by decide +kernel, rfl, by decide +kernel, by decide +kernel⟩
theorem ok_with {f : Addr} {fd : FuncData} (F : Fun K "rules_with" "rules_with" sWith f fd) (T : TM mg) : FnOk P w K mg base CX0 1 f fd ["machine", "deed"] (spWith K) := by
  refine F.ok scWith (fun vs H Q E h => ?_) (fun cdv A outer s H vs Q E hr h => ?_)
  · obtain ⟨x, n, m, rs, d, rfl, _⟩ := h
    rfl
  · obtain ⟨x, n, m, rs, d, rfl, hb, k⟩ := h
    obtain ⟨C, l, ys, M, hm, n0, n2, fw, s1, m0, m1⟩ := hb
    obtain ⟨dx, aR, aY, aS, aA, g, R, hx, hR, kR, eR, hY, hS, _, hg⟩ := hm.ex
    have lR : (refsK R).length = R.length := List.length_map ..
    have fewR : R.length ≤ 1000 := by
      have z := congrArg List.length eR
      rw [List.length_map] at z
      have y := rulesOf_len rs
      omega
    refine ⟨_, pss_one (ps_ret (pe_callB call_len_seq (by rfl) T.len PySem.boot_len (pa_cons (pe_lc (own := [("rule", 2)]) (g := gName 2) (by rfl) scWith.nd (pi_tup (pe_fld (pv 0) rfl))
      (blkOk_by (own := [("rule", 2)]) (N := ["machine", "deed", "rule"]) (sc := defScope sWith) (by decide +kernel)) (fun _ _ _ _ _ => pg_name (i := 2) scWith.nd rfl (Or.inl rfl)) (fun _ _ _ _ _ => pts_one (pt_cmpR op_eq (pe_ix (r := rIxT K) ix_tup (pv 2) pe_int fun _ _ => rfl) (pv 1) (nomark _)))
      (fun _ _ _ _ _ => pv 2)) pa_nil))), ?_⟩
    refine ⟨_, rfl, x, C, dx, _, .ref aR, rfl, hx, M.cls, M.rules, rfl, aR, rfl, ⟨_, .inl (.inl hR)⟩, fun D nD => lc_it (walk_tup (K := K) (a := aR) (xs := refsK R)) (fun i H' => Same H H' ∧ H' D = some (.lst (((R.take i).filter fun p => decide (p.2.de = d)).map fun p => V.ref p.1))) ⟨same_new nD, upd_same⟩ (fun i H' _ h => .inl (.inl (h.1 _ _ hR))) ?_ ?_⟩
    · rintro i v H5 _ hi ⟨s5, hD⟩ ⟨rfl, ev⟩
      obtain ⟨p, ep, rfl⟩ := at_refs ev
      have hp := s5 _ _ (kR p (List.mem_of_getElem? ep))
      refine ⟨rfl, ?_⟩
      refine ⟨_, rfl, p.1, p.2.vs, 5, .str p.2.de, rfl, rfl, .inl (.inl hp), rfl, _, rfl, rfl, _, rfl, ?_⟩
      rw [dec_str]
      refine ite2 (fun c => ?_) (fun c => ?_)
      · refine ⟨_, rfl, _, hD, ?_, same_mut s5 nD, ?_⟩
        · rw [List.length_map]
          have z := List.length_filter_le (fun p : Addr × Rl => decide (p.2.de = d)) (R.take i)
          rw [List.length_take] at z
          exact Nat.lt_of_le_of_lt (show _ ≤ 1000 by omega) (by decide)
        · have c' : p.2.de = d := of_decide_eq_true c
          rw [upd_same, take_at ep, List.filter_append, List.map_append]
          have e1 : [p].filter (fun p : Addr × Rl => decide (p.2.de = d)) = [p] := by
            rw [List.filter_cons, if_pos (decide_eq_true c')] <;> rfl
          rw [e1] <;> rfl
      · refine ⟨s5, ?_⟩
        have c' : ¬ p.2.de = d := fun z => c (decide_eq_true z)
        have e1 : [p].filter (fun p : Addr × Rl => decide (p.2.de = d)) = [] := by
          rw [List.filter_cons, if_neg (fun z => c' (of_decide_eq_true z))] <;> rfl
        rw [hD, take_at ep, List.filter_append, e1, List.append_nil]
    rintro H5 ⟨s5, hD⟩
    rw [lR, List.take_of_length_le (Nat.le_refl _)] at hD
    refine ⟨D, _, rfl, .inl (SqL.of hD), ?_⟩
    have e : ((R.filter fun p => decide (p.2.de = d)).map fun p => V.ref p.1).length = deedN (rulesOf rs) d := by
      unfold deedN
      rw [List.length_map, ← eR]
      have gen : ∀ R : Kept, (R.filter fun p => decide (p.2.de = d)).length = ((R.map (·.2)).filter fun r => decide (r.de = d)).length := by
        intro R
        induction R with
        | nil => rfl
        | cons p R ih =>
          rw [List.map_cons, List.filter_cons, List.filter_cons]
          by_cases c : decide (p.2.de = d) = true
          · rw [if_pos c, if_pos c, List.length_cons, List.length_cons, ih]
          · rw [if_neg c, if_neg c, ih]
      exact gen R
    rw [e]
    exact k H5 s5
def spJoin (K : PySem.W.Frag) : Sp := fun vs H Q _ => ∃ (x : Addr) (n m : Int) (rs : List Rl), vs = [.ref x, .int m] ∧ BillOf K H x n m rs ∧ ∀ H', Same H H' → Q (.int ((deedN (rulesOf rs) push0 : Int) * (deedN (rulesOf rs) pop0 : Int) * n * ((symN rs : Int) + 1) * (m + 2) ^ 3)) H'
theorem scJoin : FnScope ["machine", "length", "pairs"] ["machine", "length"] (defScope sJoin) := ⟨rfl, rfl, rfl, by decide +kernel, rfl, by decide +kernel, by decide +kernel⟩
theorem BillOf.mono {H H' : Hp} {x : Addr} {n m : Int} {rs : List Rl} (h : BillOf K H x n m rs) (s : Same H H') : BillOf K H' x n m rs := by
  obtain ⟨C, l, ys, M, hm, r⟩ := h
  exact ⟨C, l, ys, M, hm.lk (Lk.of s), r⟩
theorem deed_small {H : Hp} {x : Addr} {n m : Int} {rs : List Rl} (h : BillOf K H x n m rs) (d : PySem.Str) : (deedN (rulesOf rs) d : Int).natAbs < 2 ^ 10 := by
  obtain ⟨C, l, ys, M, hm, n0, n2, fw, _⟩ := h
  have a := List.length_filter_le (fun r : Rl => decide (r.de = d)) (rulesOf rs)
  have b := rulesOf_len rs
  have : (2 : Nat) ^ 10 = 1024 := by decide
  unfold deedN
  omega
theorem ok_join {f : Addr} {fd : FuncData} (F : Fun K "joinings_at_most" "joinings_at_most" sJoin f fd) (T : TM mg) (G : Got P w K mg base "rules_with" 1 ["machine", "deed"] (spWith K)) : FnOk P w K mg base CX0 2 f fd ["machine", "length"] (spJoin K) := by
  refine F.ok scJoin (fun vs H Q E h => ?_) (fun cdv A outer s H vs Q E hr h => ?_)
  · obtain ⟨x, n, m, rs, rfl, _⟩ := h
    rfl
  · obtain ⟨x, n, m, rs, rfl, hb, k⟩ := h
    refine ⟨_, pss_cons (ps_set (i := 2) scJoin.nd rfl (Or.inl rfl) (pe_op op_mulW (pe_got G hr (by rfl) (pa_cons (pv 0) (pa_cons pe_str pa_nil))) (pe_got G hr (by rfl) (pa_cons (pv 0) (pa_cons pe_str pa_nil)))))
      (pss_one (ps_ret (pe_op op_mulW (pe_op op_mulW (pe_op op_mulW (pv 2) (pe_fld (pv 0) rfl)) (pe_op op_add (pe_callB call_len_seq (by rfl) T.len PySem.boot_len (pa_cons (pe_fld (pv 0) rfl) pa_nil)) pe_int)) (pe_op Sx.op_powG (pe_op op_add (pv 1) pe_int) pe_int)))), ?_⟩
    obtain ⟨a, b, c⟩ := bill_parts hb
    have dp := deed_small hb push0
    have dq := deed_small hb pop0
    refine ⟨_, rfl, x, n, m, rs, push0, rfl, hb, fun H1 s1 => ⟨_, rfl, x, n, m, rs, pop0, rfl, hb.mono s1, fun H2 s2 => ⟨_, _, rfl, rfl, wide_mul dp dq (by decide) (by decide) (by decide), ?_⟩⟩⟩
    have s12 := s1.trans s2
    obtain ⟨C, l, ys, M, hm, n0, n2, _, s1', m0, m1⟩ := hb.mono s12
    obtain ⟨dx, aR, aY, aS, aA, g, R, hx, hR, kR, eR, hY, hS, _, hg⟩ := hm.ex
    have pq := wide_lt dp dq
    have cube : ((m + 2) ^ 3).natAbs < 2 ^ 333 := by
      have e : (m + 2) ^ 3 = (m + 2) * (m + 2) * (m + 2) := by
        rw [show (3 : Nat) = 0 + 1 + 1 + 1 from rfl, Int.pow_succ, Int.pow_succ, Int.pow_succ, Int.pow_zero, Int.one_mul]
      rw [e]
      exact wide_lt (wide_lt c c) c
    refine ⟨_, rfl, _, rfl, x, C, dx, _, .int n, rfl, hx, M.cls, M.states, rfl, _, _, rfl, rfl, wide_mul pq a (by decide) (by decide) (by decide), _, rfl, x, C, dx, _, .ref aS, rfl, hx, M.cls, M.symbols, rfl, aS, _, rfl, .inr (.inl (.inl hS)), _, _, rfl, rfl, _, _, rfl, rfl, ?_, _, rfl, _, _, rfl, rfl, _, _, rfl, rfl, Sx.powG_of (k := 3) c (by decide), _, _, rfl, rfl, ?_, ?_⟩
    · rw [List.length_map]
      exact wide_mul (wide_lt pq a) b (by decide) (by decide) (by decide)
    · rw [List.length_map]
      exact wide_mul (wide_lt (wide_lt pq a) b) cube (by decide) (by decide) (by decide)
    · rw [List.length_map]
      exact k H2 s12
end
end Mk

set_option Elab.async false
set_option linter.unusedVariables false
set_option maxRecDepth 100000
set_option maxHeartbeats 16000000
namespace Mk
open PySem L2 Pk
abbrev nGuesser : List PySem.Str := ["script", "at", "head", "letters", "symbols", "signs", "states", "rules", "state", "row", "k", "j", "part", "acts", "act", "top", "mine", "turn", "key", "yes", "letter"]
theorem scGuesser : FnScope nGuesser ["script", "at"] (defScope sGuesser) := ⟨rfl, rfl, rfl, by decide +kernel, rfl, by decide +kernel, by decide +kernel⟩
def guessSizes : List Int := [8, 8, 12, 13, 6, 3, 5, 8, 2, 997, 13, 6, 8, 2, 12, 997, 13, 6, 8, 2, 12, 997, 13, 6, 8, 2, 12, 997, 13, 6, 8, 2, 12]
section
variable {P : Program} {w : World} {K : PySem.W.Frag} {mg : PySem.Str → Option Value} {base : Heap}
/-! _law_guesser, its end -/
theorem guess_Y {f : Addr} (T : TM mg) (G : GenDefs P w K mg base) (cdv : Value) (A : Around) (outer : List Env) (s : Shared) (H : Hp) (E : XK)
    (h1 : Room 1 (A.deeper (PyProof.Rows.envOfC "_law_guesser" (defScope sGuesser) s.heap.objs.size f cdv))) :
    ∃ t : TS, PSs (cxOf CX0 P w K mg base nGuesser "_law_guesser" (defScope sGuesser) f cdv A outer s H E).nox ((defBody sGuesser).drop 7) t ∧
      ∀ (D : Ends) (H0 : Hp) (k : ∀ p H', MachD H0 p H' → D.rt (.ref p) H') (H1 : Hp) (aD aS aG a : Addr) (head : List Int) (l x y z : PySem.Str) (SL : List PySem.Str) (e0 e1 e8 e9 e10 e11 e12 e13 e14 e15 e16 e17 e18 e19 e20 : Option V),
        H1 aD = some (.lst (head.map V.int)) → Digs guessSizes head → H1 aS = some (.lst [.str x, .str y, .str z]) → symB x = true → symB y = true → symB z = true → H1 aG = some (.lst (SL.map V.str)) → SL ≠ [] → SL.length ≤ 100 → (∀ s ∈ SL, Sgn l s) →
        Alpha l → l.length ≤ 3 → H0 a = none → Rs H0 H1 a l 3 300 →
        t D [e0, e1, some (.ref aD), some (.str l), some (.ref aS), some (.ref aG), some (.int 3), some (.ref a), e8, e9, e10, e11, e12, e13, e14, e15, e16, e17, e18, e19, e20] H1 := by
  have nd := scGuesser.nd
  refine ⟨_, pss_cons (ps_for PassesOwn.never rfl (pi_range1 (by rfl) T.range (pa_cons (pe_ix ix_list (pe_lst (pa_cons pe_int (pa_cons pe_int (pa_cons pe_int (pa_cons pe_int (pa_cons pe_int pa_nil)))))) (pe_ix ix_list (pv 2) pe_int fun _ _ => rfl) fun _ _ => rfl) pa_nil)) (pg_name (i := 17) nd rfl (Or.inl rfl))
        (pss_cons (ps_set (i := 12) nd rfl (Or.inl rfl) (pe_slice sl_list (pv 2) (po_some (pe_op op_add pe_int (pe_op op_mul pe_int (pv 17)))) (po_some (pe_op op_add pe_int (pe_op op_mul pe_int (pv 17))))))
        (pss_cons (ps_set (i := 18) nd rfl (Or.inl rfl) (pe_tup (pa_cons (pe_op op_mod (pe_callTy call_int1 (by rfl) T.int PyProof.Rows.Boot.int (pa_cons (pe_ix ix_list (pv 12) pe_int fun _ _ => rfl) pa_nil)) (pv 6)) (pa_cons (pe_ix ix_list (pv 5) (pe_op op_mod (pe_op op_fdiv (pe_callTy call_int1 (by rfl) T.int PyProof.Rows.Boot.int (pa_cons (pe_ix ix_list (pv 12) pe_int fun _ _ => rfl) pa_nil)) pe_int) (pe_callB call_len_seq (by rfl) T.len PySem.boot_len (pa_cons (pv 5) pa_nil))) fun _ _ => rfl) (pa_cons (pe_ix ix_list (pe_op op_cat (pe_lst (pa_cons pe_str pa_nil)) (pv 4)) (pe_op op_mod (pe_op op_fdiv (pe_callTy call_int1 (by rfl) T.int PyProof.Rows.Boot.int (pa_cons (pe_ix ix_list (pv 12) pe_int fun _ _ => rfl) pa_nil)) pe_int) pe_int) fun _ _ => rfl) pa_nil)))))
        (pss_cons (ps_set (i := 14) nd rfl (Or.inl rfl) (pe_got G.act h1 (by rfl) (pa_cons (pe_slice sl_list (pv 12) (po_some pe_int) po_none) (pa_cons (pv 6) (pa_cons (pv 4) (pa_cons (pe_ix ix_tup (pv 18) pe_int fun _ _ => rfl) (pa_cons (pe_ix ix_tup (pv 18) pe_int fun _ _ => rfl) pa_nil)))))))
        (pss_one (ps_if (pt_cmp (pc_notN (pv 14)))
          (pss_one (ps_expr (pe_bm PySem.F.plainAttrs_list PySem.F.slot_list_append PySem.F.type_list_append mt_append (pv 7) (pa_cons (pe_op op_catT (pv 18) (pv 14)) pa_nil))))
          pss_nil))))))
      (pss_cons (ps_setLc (i := 19) (own := [("state", 8)]) (g := gName 8) (by rfl) nd rfl rfl (sw_true rfl rfl rfl (by decide +kernel)) (pi_range1 (by rfl) T.range (pa_cons (pv 6) pa_nil)) (blkOk_by (own := [("state", 8)]) (N := nGuesser) (sc := defScope sGuesser) (by decide +kernel)) (fun _ _ _ _ _ => pg_name (i := 8) nd rfl (Or.inl rfl)) (fun _ _ _ _ _ => pts_one (pt_cmpR op_eq (pe_op op_mod (pe_op op_fdiv (pe_op op_add pe_int (pe_op op_mod (pe_callTy call_int1 (by rfl) T.int PyProof.Rows.Boot.int (pa_cons (pe_ix (r := rIxL K) ix_list (pv 2) pe_int fun _ _ => rfl) pa_nil)) pe_int)) (pe_ix (r := rIxL K) ix_list (pe_lst (pa_cons pe_int (pa_cons pe_int (pa_cons pe_int pa_nil)))) (pv 8) fun _ _ => rfl)) pe_int) pe_int (nomark _))) (fun _ _ _ _ _ => (pv 8)))
      (pss_one (ps_ret (pe_lst (pa_cons (pv 3) (pa_cons (pv 6) (pa_cons (pv 7) (pa_cons (pv 19) pa_nil)))))))), ?_⟩
  intro D H0 k H1 aD aS aG a head l x y z SL e0 e1 e8 e9 e10 e11 e12 e13 e14 e15 e16 e17 e18 e19 e20 hD dg hS ox oy oz hG neG mG okG al l3 na hR
  have rowAt : ∀ {j : Nat} {d : Nat}, head[j]? = some (d : Int) → atI (head.map V.int) (j : Int) = some (V.int d) := fun {j d} e => atI_nat (by rw [List.getElem?_map, e]; rfl)
  have dig : ∀ (j : Nat) (t : Int), guessSizes[j]? = some t → ∃ d : Nat, head[j]? = some (d : Int) ∧ (d : Int) < t := fun j t e => by
    obtain ⟨d, e1, e2, e3⟩ := dg.2 j t e
    exact ⟨d.toNat, by rw [e1, Int.toNat_of_nonneg e2], by rw [Int.toNat_of_nonneg e2]; exact e3⟩
  have lenH : head.length = 33 := dg.1
  obtain ⟨d0, ed0, b0⟩ := dig 0 8 rfl
  obtain ⟨d6, ed6, b6⟩ := dig 6 5 rfl
  obtain ⟨d7, ed7, b7⟩ := dig 7 8 rfl
  obtain ⟨m, em, m4⟩ : ∃ m : Nat, atI [V.int 0, V.int 1, V.int 2, V.int 3, V.int 4] (d6 : Int) = some (.int (m : Int)) ∧ m ≤ 4 := by
    have c : d6 = 0 ∨ d6 = 1 ∨ d6 = 2 ∨ d6 = 3 ∨ d6 = 4 := by omega
    rcases c with rfl | rfl | rfl | rfl | rfl
    · exact ⟨0, rfl, by decide⟩
    · exact ⟨1, rfl, by decide⟩
    · exact ⟨2, rfl, by decide⟩
    · exact ⟨3, rfl, by decide⟩
    · exact ⟨4, rfl, by decide⟩
  obtain ⟨B0, RB⟩ := hR
  have ne : ∀ {b : Addr} {v : V} {vs : List V}, H1 b = some (.lst (v :: vs)) → (∀ q, v ≠ .ref q) → b ≠ a := fun {b v vs} e nv z => by
    rw [z, RB.at_] at e
    have e' := HO.lst.inj (Option.some.inj e)
    cases B0 with
    | nil => cases e'
    | cons p B =>
      have e2 : V.ref p.1 = v := (List.cons.inj e').1
      exact nv _ e2.symm
  have aDn : aD ≠ a := by
    have h0 : head = (d0 : Int) :: head.drop 1 := by
      cases hh : head with
      | nil => rw [hh] at ed0; cases ed0
      | cons u r => rw [hh] at ed0; rw [show (u :: r).drop 1 = r from rfl, ← Option.some.inj ed0]
    have hD' := hD
    rw [h0] at hD'
    exact ne hD' fun q => nofun
  have aSn : aS ≠ a := ne hS fun q => nofun
  have aGn : aG ≠ a := by
    cases hs : SL with
    | nil => exact absurd hs neG
    | cons u r => have hG' := hG; rw [hs] at hG'; exact ne hG' fun q => nofun
  refine ⟨show 5 ≤ sizeLine by decide, fun q0 nq0 => ?_⟩
  have t0 := same_new (o := HO.lst [V.int 0, V.int 1, V.int 2, V.int 3, V.int 4]) nq0
  refine ⟨_, rfl, aD, _, _, _, rfl, rfl, SqL.of (t0 _ _ hD), rowAt (j := 6) ed6, q0, _, _, .int (m : Int), rfl, rfl, SqL.of upd_same, em, _, rfl, by omega, by omega, for_range (lo := 0) (n := ((m : Nat) : Int).toNat) (fun i σ H' => (∀ b o, b ≠ a → H1 b = some o → H' b = some o) ∧ ∃ (v12 v14 v17 v18 : Option V), σ = [e0, e1, some (.ref aD), some (.str l), some (.ref aS), some (.ref aG), some (.int 3), some (.ref a), e8, e9, e10, e11, v12, e13, v14, e15, e16, v17, v18, e19, e20] ∧ Rs H0 H' a l 3 (300 + i))
    ⟨fun b o _ e => t0 _ _ e, _, _, _, _, rfl, Rs.mono ⟨_, RB⟩ t0⟩ ?_ ?_⟩
  · rintro i σ H2 hi ⟨kp, v12, v14, v17, v18, rfl, B, R⟩
    have i4 : i < 4 := by omega
    have sizes : ∀ j, j < 6 → guessSizes[9 + 6 * i + j]? = ([997, 13, 6, 8, 2, 12] : List Int)[j]? := by
      have c : i = 0 ∨ i = 1 ∨ i = 2 ∨ i = 3 := by omega
      rcases c with rfl | rfl | rfl | rfl <;> decide
    obtain ⟨p0, ep0, bp0⟩ := dig (9 + 6 * i + 0) 997 (sizes 0 (by decide))
    obtain ⟨p1, ep1, bp1⟩ := dig (9 + 6 * i + 1) 13 (sizes 1 (by decide))
    obtain ⟨p2, ep2, bp2⟩ := dig (9 + 6 * i + 2) 6 (sizes 2 (by decide))
    obtain ⟨p3, ep3, bp3⟩ := dig (9 + 6 * i + 3) 8 (sizes 3 (by decide))
    obtain ⟨p4, ep4, bp4⟩ := dig (9 + 6 * i + 4) 2 (sizes 4 (by decide))
    obtain ⟨p5, ep5, bp5⟩ := dig (9 + 6 * i + 5) 12 (sizes 5 (by decide))
    have hD2 := kp _ _ aDn hD
    have hG2 := kp _ _ aGn hG
    have hS2 := kp _ _ aSn hS
    refine ⟨_, rfl, _, rfl, _, _, rfl, rfl, .inl ⟨by decide, by decide⟩, _, _, rfl, rfl, _, rfl, _, rfl, _, _, rfl, rfl, .inl ⟨by decide, by decide⟩, _, _, rfl, rfl, _, rfl, aD, _, rfl, SqL.of hD2, fun q nq => ?_⟩
    have cutE : cutV (head.map V.int) (some (9 + 6 * (0 + (i : Int)))) (some (15 + 6 * (0 + (i : Int)))) = ((head.drop (9 + 6 * i)).take 6).map V.int := by
      have c := cut_in (row := head) (a := 9 + 6 * i) (b := 15 + 6 * i) (by omega) (by omega)
      rw [show 15 + 6 * i - (9 + 6 * i) = 6 by omega] at c
      rw [show (9 : Int) + 6 * (0 + (i : Int)) = ((9 + 6 * i : Nat) : Int) by omega, show (15 : Int) + 6 * (0 + (i : Int)) = ((15 + 6 * i : Nat) : Int) by omega]
      exact c
    rw [cutE]
    generalize hpart : (head.drop (9 + 6 * i)).take 6 = part
    have partAt : ∀ {j d : Nat}, j < 6 → head[9 + 6 * i + j]? = some (d : Int) → part[j]? = some (d : Int) := fun {j d} lj e => by
      rw [← hpart, List.getElem?_take_of_lt lj, List.getElem?_drop]
      exact e
    have partI : ∀ {j d : Nat}, j < 6 → head[9 + 6 * i + j]? = some (d : Int) → atI (part.map V.int) (j : Int) = some (V.int d) := fun {j d} lj e => atI_nat (by rw [List.getElem?_map, partAt lj e]; rfl)
    have tq := same_new (o := HO.lst (part.map V.int)) nq
    have Rq := R.mono (same_new (o := HO.lst (part.map V.int)) nq)
    have hq : (upd H2 q (.lst (part.map V.int))) q = some (.lst (part.map V.int)) := upd_same
    dsimp only [gName]
    show (tSeq _ _) _ _ (upd H2 q (.lst (part.map V.int)))
    generalize upd H2 q (.lst (part.map V.int)) = H3 at tq Rq hq ⊢
    clear nq hpart cutE
    -- the key
    have at0 := partI (j := 0) (by decide) ep0
    have hG3 := tq _ _ hG2
    have hS3 := tq _ _ hS2
    have lenG : 0 < SL.length := List.length_pos_iff.mpr neG
    have posG : (0 : Int) < (((SL.map V.str).length : Nat) : Int) := by rw [List.length_map]; omega
    obtain ⟨sg, esg⟩ : ∃ x, SL[p0 / 3 % SL.length]? = some x := ⟨_, List.getElem?_eq_getElem (Nat.mod_lt _ lenG)⟩
    have osg := okG sg (List.mem_of_getElem? esg)
    have ei : (p0 : Int) / 3 % (((SL.map V.str).length : Nat) : Int) = ((p0 / 3 % SL.length : Nat) : Int) := by
      rw [List.length_map, Int.natCast_emod, Int.natCast_ediv] <;> rfl
    obtain ⟨tp, etp, otp⟩ : ∃ t, atI [V.str nil0, V.str x, V.str y, V.str z] ((p0 : Int) / 15 % 3) = some (.str t) ∧ Top t := by
      have c : (p0 : Int) / 15 % 3 = 0 ∨ (p0 : Int) / 15 % 3 = 1 ∨ (p0 : Int) / 15 % 3 = 2 := by omega
      rcases c with e | e | e <;> rw [e]
      · exact ⟨nil0, rfl, .inr rfl⟩
      · exact ⟨x, rfl, .inl ox⟩
      · exact ⟨y, rfl, .inl oy⟩
    have st : 0 ≤ (p0 : Int) % 3 ∧ (p0 : Int) % 3 ≤ 3 - 1 := ⟨Int.emod_nonneg _ (by omega), by have := Int.emod_lt_of_pos (p0 : Int) (show (0 : Int) < 3 by decide); omega⟩
    refine ⟨_, rfl, q, _, _, _, rfl, rfl, SqL.of hq, at0, .inl ⟨_, rfl, _, rfl, _, _, rfl, rfl, show (0 : Int) < 3 by decide, _, rfl, _, rfl, q, _, _, _, rfl, rfl, SqL.of hq, at0, .inl ⟨_, rfl, _, _, rfl, rfl, ⟨by decide, by decide⟩, _, rfl, aG, _, rfl, .inl (SqL.of hG3), _, _, rfl, rfl, posG, aG, _, _, .str sg, rfl, rfl, SqL.of hG3, by rw [ei]; exact atI_nat (by rw [List.getElem?_map, esg] <;> rfl), show 1 ≤ sizeLine by decide, fun u nu => ?_⟩⟩⟩
    have tu := same_new (o := HO.lst [V.str nil0]) nu
    refine ⟨_, rfl, u, aS, _, _, rfl, rfl, upd_same, tu _ _ hS3, show 4 ≤ sizeLine by decide, fun v nv => ?_⟩
    have tv := tu.trans (same_new (o := HO.lst [V.str nil0, V.str x, V.str y, V.str z]) nv)
    refine ⟨_, rfl, q, _, _, _, rfl, rfl, SqL.of (tv _ _ hq), at0, .inl ⟨_, rfl, _, _, rfl, rfl, ⟨by decide, by decide⟩, _, _, rfl, rfl, show (0 : Int) < 3 by decide, v, _, _, .str tp, rfl, rfl, SqL.of upd_same, etp, show 3 ≤ sizeLine by decide, fun kq nk => ?_⟩⟩
    have tk := tv.trans (same_new (o := HO.tup [V.int ((p0 : Int) % 3), V.str sg, V.str tp]) nk)
    have Rk := Rq.mono tk
    have hkq : (upd (upd (upd H3 u (.lst [V.str nil0])) v (.lst [V.str nil0, V.str x, V.str y, V.str z])) kq (.tup [V.int ((p0 : Int) % 3), V.str sg, V.str tp])) kq = some (.tup [V.int ((p0 : Int) % 3), V.str sg, V.str tp]) := upd_same
    have sk := tq.trans tk
    have hqk := tk _ _ hq
    dsimp only [gName]
    show (tSeq _ _) _ _ (upd (upd (upd H3 u (.lst [V.str nil0])) v (.lst [V.str nil0, V.str x, V.str y, V.str z])) kq (.tup [V.int ((p0 : Int) % 3), V.str sg, V.str tp]))
    generalize upd (upd (upd H3 u (.lst [V.str nil0])) v (.lst [V.str nil0, V.str x, V.str y, V.str z])) kq (.tup [V.int ((p0 : Int) % 3), V.str sg, V.str tp]) = H4 at sk Rk hkq hqk ⊢
    clear Rq R nu nv nk tu tv tk hG3 hS3 hq
    -- the act
    have hq5 := hqk
    have hk5 := hkq
    have len1 : 1 ≤ part.length := (List.getElem?_eq_some_iff.mp (partAt (j := 0) (by decide) ep0)).1
    have cut1' : cutV (part.map V.int) (some 1) none = (part.drop 1).map V.int := cut_from (row := part) (a := 1) len1
    have ar : ActRow (part.drop 1) p1 p2 p3 p4 p5 := ⟨by rw [List.getElem?_drop]; exact partAt (j := 1) (by decide) ep1, by rw [List.getElem?_drop]; exact partAt (j := 2) (by decide) ep2, by rw [List.getElem?_drop]; exact partAt (j := 3) (by decide) ep3, by rw [List.getElem?_drop]; exact partAt (j := 4) (by decide) ep4,
      by rw [List.getElem?_drop]; exact partAt (j := 5) (by decide) ep5, by omega, by omega, by omega⟩
    refine ⟨_, rfl, 1, rfl, q, _, rfl, SqL.of hq5, fun r nr => ?_⟩
    rw [cut1']
    have tr := same_new (o := HO.lst ((part.drop 1).map V.int)) nr
    refine ⟨_, rfl, _, rfl, _, rfl, kq, _, 1, .str sg, rfl, rfl, .inl (.inl (tr _ _ hk5)), rfl, _, rfl, kq, _, 2, .str tp, rfl, rfl, .inl (.inl (tr _ _ hk5)), rfl, ?_⟩
    refine ⟨r, aS, part.drop 1, p1, p2, p3, p4, p5, 3, l, sg, tp, [x, y, z], rfl, SqL.of upd_same, ar, SqL.of ((sk.trans tr) _ _ hS2), by decide, List.cons_ne_nil _ _, ?_, osg, otp, ?_, fun t rr Ht st5 eg ep okr ht => ?_⟩
    · intro s m
      simp only [List.mem_cons, List.not_mem_nil, or_false] at m
      rcases m with rfl | rfl | rfl
      · exact ox
      · exact oy
      · exact oz
    · exact ⟨_, rfl, _, rfl, iteNo17 (by rw [decide_eq_true rfl] <;> rfl) ⟨fun b o nb e => tr _ _ (sk _ _ (kp b o nb e)), _, _, _, _, rfl, Rs.le ⟨_, Rk.mono tr⟩ (by omega)⟩⟩
    · have RT := Rk.mono (tr.trans st5)
      have hkt := st5 _ _ (tr _ _ hk5)
      refine ⟨_, rfl, _, rfl, ite2 (fun _ => ?_) (fun c => absurd (by rw [decide_eq_false (fun z => nomatch z)] <;> rfl) c)⟩
      refine ⟨_, rfl, .inl ⟨rfl, _, SqL.of RT.at_⟩, _, rfl, _, rfl, kq, t, [.int ((p0 : Int) % 3), .str sg, .str tp], _, rfl, rfl, .inl (.inl hkt), .inl (.inl ht), (fun z => nomatch z), show 3 + 5 ≤ sizeLine by decide, (fun z => nomatch z), fun _ w2 nw => ⟨a, _, _, rfl, rfl, RT.look nw, RT.sz (by omega), ?_⟩⟩
      have RA := RT.add na nw (r := ⟨(p0 : Int) % 3, sg, tp, rr.af, rr.mv, rr.de, rr.sy, rr.sa⟩) (mkRl st osg otp okr.af (by rw [← eg]; exact okr.mv) (by rw [← ep]; exact okr.de) okr.sa)
      exact ⟨fun b o nb e => by rw [upd_ne nb]; exact same_new nw _ _ (st5 _ _ (tr _ _ (sk _ _ (kp b o nb e)))), _, _, _, _, rfl, Rs.le ⟨_, RA⟩ (by omega)⟩
  · rintro σ H2 ⟨kp, v12, v14, v17, v18, rfl, B, R⟩
    have hD2 := kp _ _ aDn hD
    refine ⟨_, rfl, 3, rfl, by decide, by decide, fun Dy nDy => lc_range (lo := 0) (n := (3 : Int).toNat) (fun i H' => Same H2 H' ∧ ∃ ys : List Int, H' Dy = some (.lst (ys.map V.int)) ∧ ys.length ≤ i ∧ ∀ y ∈ ys, 0 ≤ y ∧ y ≤ 3 - 1) ⟨same_new nDy, [], upd_same, Nat.zero_le _, fun y m => absurd m List.not_mem_nil⟩ ?_ ?_⟩
    · rintro i H3 hi ⟨s3, ys, hy, lys, oky⟩
      have i3 : i < 3 := hi
      obtain ⟨v, ev, v0, v9⟩ : ∃ v : Int, atI [V.int 4, V.int 2, V.int 1] (0 + (i : Int)) = some (.int v) ∧ 0 < v ∧ v < 9 := by
        have c : i = 0 ∨ i = 1 ∨ i = 2 := by omega
        rcases c with rfl | rfl | rfl
        · exact ⟨4, rfl, by decide, by decide⟩
        · exact ⟨2, rfl, by decide, by decide⟩
        · exact ⟨1, rfl, by decide, by decide⟩
      refine ⟨rfl, ?_⟩
      refine ⟨_, rfl, aD, _, _, _, rfl, rfl, SqL.of (s3 _ _ hD2), rowAt (j := 7) ed7, .inl ⟨_, rfl, _, _, rfl, rfl, show (0 : Int) < 7 by decide, _, _, rfl, rfl, show 3 ≤ sizeLine by decide, fun u nu => ?_⟩⟩
      have tu := same_new (o := HO.lst [V.int 4, V.int 2, V.int 1]) nu
      refine ⟨_, rfl, u, _, _, .int v, rfl, rfl, SqL.of upd_same, ev, _, _, rfl, rfl, ⟨v0, by omega⟩, _, _, rfl, rfl, show (0 : Int) < 2 by decide, rfl, _, rfl, ?_⟩
      refine ite2 (fun _ => ?_) (fun _ => ⟨s3.trans tu, ys, tu _ _ hy, by omega, oky⟩)
      refine ⟨_, rfl, _, tu _ _ hy, ?_, same_mut (s3.trans tu) nDy, ys ++ [0 + (i : Int)], ?_, ?_, fun z m => ?_⟩
      · rw [List.length_map]
        exact Nat.lt_of_le_of_lt (show ys.length ≤ 5 by omega) (by decide)
      · rw [upd_same, List.map_append] <;> rfl
      · rw [List.length_append]
        show ys.length + 1 ≤ i + 1
        omega
      · rcases List.mem_append.mp m with m | m
        · exact oky z m
        · rw [List.mem_singleton.mp m]
          omega
    · rintro H3 ⟨s3, ys, hy, lys, oky⟩
      have l3' : ys.length ≤ 3 := lys
      refine ⟨_, rfl, _, rfl, _, rfl, _, rfl, show 4 ≤ sizeLine by decide, fun p np => ?_⟩
      have t := same_new (o := HO.lst [V.str l, V.int 3, V.ref a, V.ref Dy]) np
      have R4 := R.mono (s3.trans t)
      have few := R4.few
      exact k p _ ⟨R4.same, l, 3, a, Dy, B, ys, upd_same, al, l3, by decide, by decide, R4.at_, R4.kept, R4.ok, by omega, t _ _ hy, oky, by omega⟩
end
end Mk

set_option Elab.async false
set_option linter.unusedVariables false
set_option maxRecDepth 100000
set_option maxHeartbeats 16000000
namespace Mk
open PySem L2 Pk
/-- an act, or None -/
def ActV (l sg tp : PySem.Str) (H : Hp) (v : V) : Prop := v = .non ∨ ∃ (t : Addr) (rr : Rl), v = .ref t ∧ rr.sg = sg ∧ rr.tp = tp ∧ RlOk l 3 rr ∧ H t = some (.tup (rr.a5.map kV))
theorem ActV.mono {l sg tp : PySem.Str} {H H' : Hp} {v : V} (h : ActV l sg tp H v) (s : ∀ t xs, H t = some (.tup xs) → H' t = some (.tup xs)) : ActV l sg tp H' v := by
  rcases h with h | ⟨t, rr, h1, h2, h3, h4, h5⟩
  · exact .inl h
  · exact .inr ⟨t, rr, h1, h2, h3, h4, s _ _ h5⟩
/-- all but one list stays -/
def Kp (a : Addr) (H H' : Hp) : Prop := ∀ b o, b ≠ a → H b = some o → H' b = some o
theorem Kp.add {a q : Addr} {H H' : Hp} {o o' : HO} (h : Kp a H H') (nq : H' q = none) : Kp a H (upd (upd H' q o) a o') := fun b u nb e => by
  rw [upd_ne nb]
  exact same_new nq _ _ (h b u nb e)
theorem Kp.then {a : Addr} {H H' H'' : Hp} (h : Kp a H H') (s : Same H' H'') : Kp a H H'' := fun b u nb e => s _ _ (h b u nb e)
/-- the acts that are drawn for a key -/
structure ActsOn (H0 H6 H' : Hp) (a q c : Addr) (l sg tp : PySem.Str) (part : List Int) (vs : List V) (m k : Nat) : Prop where
  kp : Kp a H6 H'
  qn : H6 q = none
  qa : q ≠ a
  qAt : H' q = some (.lst (part.map V.int))
  cn : H6 c = none
  ca : c ≠ a
  cq : c ≠ q
  cAt : H' c = some (.lst vs)
  few : vs.length ≤ k
  all : ∀ v ∈ vs, ActV l sg tp H' v
  rs : Rs H0 H' a l 3 m
theorem tup_put {H : Hp} {c : Addr} {xs : List V} {o : HO} (h : H c = some (.lst xs)) : ∀ t ys, H t = some (.tup ys) → (upd H c o) t = some (.tup ys) := fun t ys e => by
  have ne : t ≠ c := fun z => by rw [z, h] at e; cases e
  rw [upd_ne ne]
  exact e
theorem Rs.put {H0 H' : Hp} {a c : Addr} {l : PySem.Str} {n : Int} {m : Nat} {xs : List V} {o : HO} (h : Rs H0 H' a l n m) (hc : H' c = some (.lst xs)) (n0 : H0 c = none) (ca : c ≠ a) : Rs H0 (upd H' c o) a l n m := by
  obtain ⟨B, R⟩ := h
  exact ⟨B, same_mut R.same n0, by rw [upd_ne ca.symm]; exact R.at_, fun p m => tup_put hc _ _ (R.kept p m), R.ok, R.few⟩
theorem Kp.fresh {a b : Addr} {H6 H' : Hp} {o : HO} (kp : Kp a H6 H') (ha : H' a = some o) (nb : H' b = none) : H6 b = none ∧ b ≠ a := by
  have ba : b ≠ a := fun z => by rw [z, ha] at nb; cases nb
  refine ⟨?_, ba⟩
  cases h : H6 b with
  | none => rfl
  | some o => have e := (kp b o ba h).symm.trans nb; cases e
theorem ActsOn.le {H0 H6 H' : Hp} {a q c : Addr} {l sg tp : PySem.Str} {part : List Int} {vs : List V} {m k k' : Nat} (A : ActsOn H0 H6 H' a q c l sg tp part vs m k) (h : k ≤ k') : ActsOn H0 H6 H' a q c l sg tp part vs m k' :=
  { A with few := Nat.le_trans A.few h }
theorem ActsOn.push {H0 H6 H' X : Hp} {a q c : Addr} {l sg tp : PySem.Str} {part : List Int} {vs : List V} {m k : Nat} {v : V} (A : ActsOn H0 H6 H' a q c l sg tp part vs m k) (s : Same H' X) (s0 : Same H0 H6) (hv : ActV l sg tp X v) :
    ActsOn H0 H6 (upd X c (.lst (vs ++ [v]))) a q c l sg tp part (vs ++ [v]) m (k + 1) := by
  have hc := s _ _ A.cAt
  refine ⟨fun b o nb e => ?_, A.qn, A.qa, ?_, A.cn, A.ca, A.cq, upd_same, ?_, fun u mu => ?_, (A.rs.mono s).put hc (s0.free A.cn) A.ca⟩
  · rw [upd_ne (fun z => by rw [z, A.cn] at e; cases e)]
    exact s _ _ (A.kp b o nb e)
  · rw [upd_ne A.cq.symm]
    exact s _ _ A.qAt
  · rw [List.length_append]
    have := A.few
    show vs.length + 1 ≤ k + 1
    omega
  · rcases List.mem_append.mp mu with mu | mu
    · exact (A.all u mu).mono fun t xs e => tup_put hc _ _ (s _ _ e)
    · rw [List.mem_singleton.mp mu]
      exact hv.mono fun t xs e => tup_put hc _ _ e
theorem ActsOn.rule {H0 H6 H' X : Hp} {a q c w : Addr} {l sg tp : PySem.Str} {part : List Int} {vs : List V} {m k : Nat} {r : Rl} {B : Kept} (A : ActsOn H0 H6 H' a q c l sg tp part vs m k) (s : Same H' X) (R : RsAt H0 X a l 3 m B) (na : H0 a = none) (nw : X w = none) (ok : RlOk l 3 r) :
    ActsOn H0 H6 (upd (upd X w (.tup r.vs)) a (.lst (refsK B ++ [V.ref w]))) a q c l sg tp part vs (m + 1) k := by
  have RA := R.add na nw ok
  have t := same_new (o := HO.tup r.vs) nw
  refine ⟨(A.kp.then s).add nw, A.qn, A.qa, ?_, A.cn, A.ca, A.cq, ?_, A.few, fun v mv => (A.all v mv).mono fun t' xs e => ?_, ⟨_, RA⟩⟩
  · rw [upd_ne A.qa]
    exact t _ _ (s _ _ A.qAt)
  · rw [upd_ne A.ca]
    exact t _ _ (s _ _ A.cAt)
  · exact tup_put (t _ _ R.at_) _ _ (t _ _ (s _ _ e))
section
variable {P : Program} {w : World} {K : PySem.W.Frag} {mg : PySem.Str → Option Value} {base : Heap}
/-! _law_guesser, the rules of the first kind and of the second -/
theorem guess_X {f : Addr} (T : TM mg) (G : GenDefs P w K mg base) (cdv : Value) (A : Around) (outer : List Env) (s : Shared) (H : Hp) (E : XK)
    (h1 : Room 1 (A.deeper (PyProof.Rows.envOfC "_law_guesser" (defScope sGuesser) s.heap.objs.size f cdv))) :
    ∃ t : TS, PSs (cxOf CX0 P w K mg base nGuesser "_law_guesser" (defScope sGuesser) f cdv A outer s H E).nox ((defBody sGuesser).drop 6) t ∧
      ∀ (D : Ends) (H0 : Hp) (k : ∀ p H', MachD H0 p H' → D.rt (.ref p) H') (H1 : Hp) (sc aD aS aG a : Addr) (ns head : List Int) (at_ : Nat) (l x y z : PySem.Str) (SL : List PySem.Str) (e8 e9 e10 e11 e12 e13 e14 e15 e16 e17 e18 e19 e20 : Option V),
        SqL K H0 sc (ns.map V.int) → H1 aD = some (.lst (head.map V.int)) → Digs guessSizes head → H1 aS = some (.lst [.str x, .str y, .str z]) → symB x = true → symB y = true → symB z = true → H1 aG = some (.lst (SL.map V.str)) → SL ≠ [] → SL.length ≤ 4 → (∀ s ∈ SL, Sgn l s) →
        Alpha l → l.length ≤ 3 → H0 a = none → H1 a = some (.lst []) → aD ≠ a → aS ≠ a → aG ≠ a → Same H0 H1 →
        t D [some (.ref sc), some (.int (at_ : Int)), some (.ref aD), some (.str l), some (.ref aS), some (.ref aG), some (.int 3), some (.ref a), e8, e9, e10, e11, e12, e13, e14, e15, e16, e17, e18, e19, e20] H1 := by
  have nd := scGuesser.nd
  obtain ⟨tY, hY, kY⟩ := guess_Y (f := f) T G cdv A outer s H E h1
  refine ⟨_, (C8.pss_cut (ps_if (pt_cmpR op_lt (pe_ix ix_list (pv 2) pe_int fun _ _ => rfl) pe_int (nomark _))
        (pss_one (ps_for PassesOwn.never rfl (pi_range1 (by rfl) T.range (pa_cons (pv 6) pa_nil)) (pg_name (i := 8) nd rfl (Or.inl rfl))
          (pss_cons (ps_set (i := 9) nd rfl (Or.inl rfl) (pe_got G.digits h1 (by rfl) (pa_cons (pe_got G.cell h1 (by rfl) (pa_cons (pv 0) (pa_cons (pe_op op_add (pe_op op_add (pv 1) pe_int) (pv 8)) pa_nil))) (pa_cons (pe_op op_rep (pe_lst (pa_cons pe_int (pa_cons pe_int (pa_cons pe_int (pa_cons pe_int (pa_cons pe_int (pa_cons pe_int (pa_cons pe_int (pa_cons pe_int (pa_cons pe_int (pa_cons pe_int (pa_cons pe_int pa_nil)))))))))))) pe_int) pa_nil))))
          (pss_one (ps_for PassesOwn.never rfl (pi_range1 (by rfl) T.range (pa_cons (pe_callB call_len_seq (by rfl) T.len PySem.boot_len (pa_cons (pv 5) pa_nil)) pa_nil)) (pg_name (i := 10) nd rfl (Or.inl rfl))
            (pss_one (ps_for PassesOwn.never rfl (pi_range1 (by rfl) T.range (pa_cons pe_int pa_nil)) (pg_name (i := 11) nd rfl (Or.inl rfl))
              (pss_cons (ps_set (i := 12) nd rfl (Or.inl rfl) (pe_slice sl_list (pv 9) (po_some (pe_op op_mul pe_int (pe_op op_add (pe_op op_mul pe_int (pv 10)) (pv 11)))) (po_some (pe_op op_add (pe_op op_mul pe_int (pe_op op_add (pe_op op_mul pe_int (pv 10)) (pv 11))) pe_int))))
              (C8.pss_cut (ps_set (i := 13) nd rfl (Or.inl rfl) (pe_lst (pa_cons (pe_got G.act h1 (by rfl) (pa_cons (pe_slice sl_list (pv 12) po_none (po_some pe_int)) (pa_cons (pv 6) (pa_cons (pv 4) (pa_cons (pe_ix ix_list (pv 5) (pv 10) fun _ _ => rfl) (pa_cons (pe_ix ix_list (pe_op op_cat (pe_lst (pa_cons pe_str pa_nil)) (pv 4)) (pv 11) fun _ _ => rfl) pa_nil)))))) pa_nil)))
              (C8.pss_cut (ps_if (pt_cmpR op_eq (pe_ix ix_list (pv 12) pe_int fun _ _ => rfl) pe_int (nomark _))
                (pss_one (ps_expr (pe_bm PySem.F.plainAttrs_list PySem.F.slot_list_append PySem.F.type_list_append mt_append (pv 13) (pa_cons (pe_got G.act h1 (by rfl) (pa_cons (pe_slice sl_list (pv 12) (po_some pe_int) po_none) (pa_cons (pv 6) (pa_cons (pv 4) (pa_cons (pe_ix ix_list (pv 5) (pv 10) fun _ _ => rfl) (pa_cons (pe_ix ix_list (pe_op op_cat (pe_lst (pa_cons pe_str pa_nil)) (pv 4)) (pv 11) fun _ _ => rfl) pa_nil)))))) pa_nil))))
                pss_nil)
              (C8.pss_cut (ps_if (PW.pt (pw_and (pt_cmpR op_eq (pe_ix ix_list (pv 12) pe_int fun _ _ => rfl) pe_int (nomark _)) (pw_and1 (pt_cmpR op_gt (pe_op op_add (pv 10) (pv 11)) pe_int (nomark _)))))
                (pss_one (ps_set (i := 13) nd rfl (Or.inl rfl) (pe_lst pa_nil)))
                pss_nil)
              (pss_one (ps_for PassesOwn.never rfl (pi_list (pv 13)) (pg_name (i := 14) nd rfl (Or.inl rfl))
                (pss_one (ps_if (pt_cmp (pc_notN (pv 14)))
                  (pss_one (ps_expr (pe_bm PySem.F.plainAttrs_list PySem.F.slot_list_append PySem.F.type_list_append mt_append (pv 7) (pa_cons (pe_op op_catT (pe_tup (pa_cons (pv 8) (pa_cons (pe_ix ix_list (pv 5) (pv 10) fun _ _ => rfl) (pa_cons (pe_ix ix_list (pe_op op_cat (pe_lst (pa_cons pe_str pa_nil)) (pv 4)) (pv 11) fun _ _ => rfl) pa_nil)))) (pv 14)) pa_nil))))
                  pss_nil)))))))))))))))
        (pss_cons (ps_for PassesOwn.never rfl (pi_list (pe_lst (pa_cons pe_str (pa_cons (pe_ix ix_list (pv 4) pe_int fun _ _ => rfl) (pa_cons (pe_ix ix_list (pv 4) pe_int fun _ _ => rfl) pa_nil))))) (pg_name (i := 15) nd rfl (Or.inl rfl))
          (pss_one (ps_for PassesOwn.never rfl (pi_range1 (by rfl) T.range (pa_cons (pe_callB call_len_str (by rfl) T.len PySem.boot_len (pa_cons (pv 3) pa_nil)) pa_nil)) (pg_name (i := 10) nd rfl (Or.inl rfl))
            (pss_cons (ps_set (i := 16) nd rfl (Or.inl rfl) (pe_ix ix_list (pv 4) (pe_op op_mod (pv 10) pe_int) fun _ _ => rfl))
            (pss_cons (ps_expr (pe_bm PySem.F.plainAttrs_list PySem.F.slot_list_append PySem.F.type_list_append mt_append (pv 7) (pa_cons (pe_tup (pa_cons pe_int (pa_cons (pe_ix ix_str (pv 3) (pv 10) fun _ _ => rfl) (pa_cons (pv 15) (pa_cons pe_int (pa_cons pe_int (pa_cons pe_str (pa_cons (pv 16) (pa_cons pe_str pa_nil))))))))) pa_nil)))
            (pss_one (ps_if (pt_cmpR op_lt (pe_ix ix_list (pv 2) pe_int fun _ _ => rfl) pe_int (nomark _))
              (pss_cons (ps_expr (pe_bm PySem.F.plainAttrs_list PySem.F.slot_list_append PySem.F.type_list_append mt_append (pv 7) (pa_cons (pe_tup (pa_cons pe_int (pa_cons (pe_ix ix_str (pv 3) (pv 10) fun _ _ => rfl) (pa_cons (pv 15) (pa_cons pe_int (pa_cons (pe_op op_mod (pe_callTy call_int1 (by rfl) T.int PyProof.Rows.Boot.int (pa_cons (pe_ix ix_list (pv 2) pe_int fun _ _ => rfl) pa_nil)) pe_int) (pa_cons pe_str (pa_cons pe_str (pa_cons (pe_ix ix_list (pe_lst (pa_cons pe_str (pa_cons (pe_ix ix_str (pv 3) (pv 10) fun _ _ => rfl) pa_nil))) (pe_ix ix_list (pv 2) pe_int fun _ _ => rfl) fun _ _ => rfl) pa_nil))))))))) pa_nil)))
              (pss_one (ps_expr (pe_bm PySem.F.plainAttrs_list PySem.F.slot_list_append PySem.F.type_list_append mt_append (pv 7) (pa_cons (pe_tup (pa_cons pe_int (pa_cons (pe_ix ix_str (pv 3) (pv 10) fun _ _ => rfl) (pa_cons (pv 16) (pa_cons pe_int (pa_cons pe_int (pa_cons pe_str (pa_cons pe_str (pa_cons pe_str pa_nil))))))))) pa_nil)))))
              (pss_cons (ps_expr (pe_bm PySem.F.plainAttrs_list PySem.F.slot_list_append PySem.F.type_list_append mt_append (pv 7) (pa_cons (pe_tup (pa_cons pe_int (pa_cons (pe_ix ix_str (pv 3) (pv 10) fun _ _ => rfl) (pa_cons (pv 15) (pa_cons pe_int (pa_cons pe_int (pa_cons pe_str (pa_cons (pv 16) (pa_cons pe_str pa_nil))))))))) pa_nil)))
              (pss_cons (ps_expr (pe_bm PySem.F.plainAttrs_list PySem.F.slot_list_append PySem.F.type_list_append mt_append (pv 7) (pa_cons (pe_tup (pa_cons pe_int (pa_cons (pe_ix ix_str (pv 3) (pv 10) fun _ _ => rfl) (pa_cons (pv 16) (pa_cons pe_int (pa_cons pe_int (pa_cons pe_str (pa_cons pe_str (pa_cons pe_str pa_nil))))))))) pa_nil)))
              (pss_cons (ps_expr (pe_bm PySem.F.plainAttrs_list PySem.F.slot_list_append PySem.F.type_list_append mt_append (pv 7) (pa_cons (pe_tup (pa_cons pe_int (pa_cons (pe_ix ix_str (pv 3) (pv 10) fun _ _ => rfl) (pa_cons (pv 16) (pa_cons pe_int (pa_cons (pe_un un_neg pe_int) (pa_cons pe_str (pa_cons pe_str (pa_cons pe_str pa_nil))))))))) pa_nil)))
              (pss_one (ps_expr (pe_bm PySem.F.plainAttrs_list PySem.F.slot_list_append PySem.F.type_list_append mt_append (pv 7) (pa_cons (pe_tup (pa_cons pe_int (pa_cons (pe_ix ix_str (pv 3) (pv 10) fun _ _ => rfl) (pa_cons (pv 16) (pa_cons pe_int (pa_cons pe_int (pa_cons pe_str (pa_cons (pe_ix ix_list (pv 4) (pe_op op_sub pe_int (pe_op op_mod (pv 10) pe_int)) fun _ _ => rfl) (pa_cons pe_str pa_nil))))))))) pa_nil))))))))))))))
        (pss_one (ps_set (i := 7) nd rfl (Or.inl rfl) (pe_op op_cat (pv 7) (pe_lst (pa_cons (pe_tup (pa_cons pe_int (pa_cons pe_str (pa_cons pe_str (pa_cons pe_int (pa_cons pe_int (pa_cons pe_str (pa_cons pe_str (pa_cons pe_str pa_nil))))))))) (pa_cons (pe_tup (pa_cons pe_int (pa_cons pe_str (pa_cons pe_str (pa_cons pe_int (pa_cons pe_int (pa_cons pe_str (pa_cons pe_str (pa_cons pe_str pa_nil))))))))) pa_nil))))))))
      hY), ?_⟩
  intro D H0 k H1 sc aD aS aG a ns head at_ l x y z SL e8 e9 e10 e11 e12 e13 e14 e15 e16 e17 e18 e19 e20 hSc hD dg hS ox oy oz hG neG mG okG al l3 na hA aDn aSn aGn s01
  have rowAt : ∀ {j : Nat} {d : Nat}, head[j]? = some (d : Int) → atI (head.map V.int) (j : Int) = some (V.int d) := fun {j d} e => atI_nat (by rw [List.getElem?_map, e]; rfl)
  have dig : ∀ (j : Nat) (t : Int), guessSizes[j]? = some t → ∃ d : Nat, head[j]? = some (d : Int) ∧ (d : Int) < t := fun j t e => by
    obtain ⟨d, e1, e2, e3⟩ := dg.2 j t e
    exact ⟨d.toNat, by rw [e1, Int.toNat_of_nonneg e2], by rw [Int.toNat_of_nonneg e2]; exact e3⟩
  obtain ⟨d0, ed0, b0⟩ := dig 0 8 rfl
  obtain ⟨d8, ed8, b8⟩ := dig 8 2 rfl
  have szl : l.length ≤ sizeLine := Nat.le_trans l3 (by decide)
  have R0 : Rs H0 H1 a l 3 0 := ⟨[], s01, hA, fun p m => absurd m List.not_mem_nil, fun p m => absurd m List.not_mem_nil, Nat.le_refl _⟩
  refine ⟨fun σ' H' => ∃ (a' : Addr) (v8 v9 v10 v11 v12 v13 v14 v15 v16 : Option V), σ' = [some (.ref sc), some (.int (at_ : Int)), some (.ref aD), some (.str l), some (.ref aS), some (.ref aG), some (.int 3), some (.ref a'), v8, v9, v10, v11, v12, v13, v14, v15, v16, e17, e18, e19, e20] ∧ H' aD = some (.lst (head.map V.int)) ∧ H' aS = some (.lst [.str x, .str y, .str z]) ∧ H' aG = some (.lst (SL.map V.str)) ∧ H0 a' = none ∧ Rs H0 H' a' l 3 300, ?_, ?_⟩
  rotate_left
  · rintro _ H' ⟨a', v8, v9, v10, v11, v12, v13, v14, v15, v16, rfl, hD', hS', hG', na', R'⟩
    exact kY D H0 k H' aD aS aG a' head l x y z SL _ _ _ _ _ _ _ _ _ _ _ _ _ _ _ hD' dg hS' ox oy oz hG' neG (by omega) okG al l3 na' R'
  refine ⟨_, rfl, aD, _, _, _, rfl, rfl, SqL.of hD, rowAt (j := 0) ed0, _, _, rfl, rfl, _, rfl, ite2 (fun _ => ?_) (fun _ => ?_)⟩
  · refine ⟨_, rfl, 3, rfl, by omega, by omega, for_range (lo := 0) (n := (3 : Int).toNat) (fun i σ H' => Kp a H1 H' ∧ Rs H0 H' a l 3 (30 * i) ∧ ∃ v8 v9 v10 v11 v12 v13 v14 : Option V, σ = [some (.ref sc), some (.int (at_ : Int)), some (.ref aD), some (.str l), some (.ref aS), some (.ref aG), some (.int 3), some (.ref a), v8, v9, v10, v11, v12, v13, v14, e15, e16, e17, e18, e19, e20])
      ⟨fun b o _ e => e, R0, _, _, _, _, _, _, _, rfl⟩ ?_ ?_⟩
    rotate_left
    · rintro σ H' ⟨kp, R, v8, v9, v10, v11, v12, v13, v14, rfl⟩
      exact ⟨a, _, _, _, _, _, _, _, _, _, rfl, kp _ _ aDn hD, kp _ _ aSn hS, kp _ _ aGn hG, na, R.le (by show 30 * 3 ≤ 300; decide)⟩
    rintro i σ H5 hi ⟨kp, ⟨B5, R5⟩, v8, v9, v10, v11, v12, v13, v14, rfl⟩
    have i3 : i < 3 := by omega
    have eI : ([V.ref sc, V.int ((at_ : Int) + 1 + (0 + (i : Int)))] ++ [] : List V) = [V.ref sc, V.int ((at_ + 1 + i : Nat) : Int)] := by rw [show (at_ : Int) + 1 + (0 + (i : Int)) = ((at_ + 1 + i : Nat) : Int) by omega] <;> rfl
    refine ⟨_, rfl, _, rfl, _, _, rfl, rfl, _, rfl, _, _, rfl, rfl, sc, ns, at_ + 1 + i, eI, R5.same.seq hSc, fun z0 => ⟨show 11 ≤ sizeLine by decide, fun l2 hl2 => ?_⟩⟩
    refine ⟨l2, 12, _, rfl, rfl, upd_same, by decide, by decide, by decide, fun l4 hl4 => ?_⟩
    refine ⟨z0, l4, (List.replicate 12 ([13, 6, 8, 2, 12, 5, 13, 6, 8, 2, 12] : List Int)).flatten, rfl, SqL.of upd_same, by decide, by decide, fun row aRow H6 dg2 np s6 hrow => ?_⟩
    have s56 : Same H5 H6 := ((same_new hl2).trans (same_new hl4)).trans s6
    have R6 := R5.mono s56
    have kp6 : Kp a H1 H6 := kp.then s56
    have aRn : aRow ≠ a := fun z => by
      rw [z] at np
      have e := (((same_new hl2).trans (same_new hl4)) _ _ R5.at_).symm.trans np
      cases e
    have hD6 := kp6 _ _ aDn hD
    have hG6 := kp6 _ _ aGn hG
    have hS6 := kp6 _ _ aSn hS
    have lG6 : (SL.map V.str).length = SL.length := List.length_map ..
    refine ⟨_, rfl, aG, _, rfl, .inl (SqL.of hG6), _, rfl, by omega, by omega, for_range (lo := 0) (n := (((SL.map V.str).length : Nat) : Int).toNat) (fun u σ H' => Kp a H6 H' ∧ Rs H0 H' a l 3 (30 * i + 6 * u) ∧ ∃ v10 v11 v12 v13 v14 : Option V, σ = [some (.ref sc), some (.int (at_ : Int)), some (.ref aD), some (.str l), some (.ref aS), some (.ref aG), some (.int 3), some (.ref a), some (.int (0 + (i : Int))), some (.ref aRow), v10, v11, v12, v13, v14, e15, e16, e17, e18, e19, e20])
      ⟨fun b o _ e => e, Rs.le ⟨_, R6⟩ (by omega), _, _, _, _, _, rfl⟩ ?_ ?_⟩
    rotate_left
    · rintro σ H' ⟨kp', R, v10, v11, v12, v13, v14, rfl⟩
      exact ⟨fun b o nb e => kp' b o nb (kp6 b o nb e), R.le (by omega), _, _, _, _, _, _, _, rfl⟩
    rintro u σ H7 hu ⟨kp7, R7, v10, v11, v12, v13, v14, rfl⟩
    refine ⟨_, rfl, by decide, by decide, for_range (lo := 0) (n := (3 : Int).toNat) (fun j σ H' => Kp a H6 H' ∧ Rs H0 H' a l 3 (30 * i + 6 * u + 2 * j) ∧ ∃ v11 v12 v13 v14 : Option V, σ = [some (.ref sc), some (.int (at_ : Int)), some (.ref aD), some (.str l), some (.ref aS), some (.ref aG), some (.int 3), some (.ref a), some (.int (0 + (i : Int))), some (.ref aRow), some (.int (0 + (u : Int))), v11, v12, v13, v14, e15, e16, e17, e18, e19, e20])
      ⟨kp7, R7.le (by omega), _, _, _, _, rfl⟩ ?_ ?_⟩
    rotate_left
    · rintro σ H' ⟨kp', R, v11, v12, v13, v14, rfl⟩
      exact ⟨kp', R.le (show 30 * i + 6 * u + 2 * 3 ≤ 30 * i + 6 * (u + 1) by omega), _, _, _, _, _, rfl⟩
    rintro j σ H8 hj ⟨kp8, ⟨B8, R8⟩, v11, v12, v13, v14, rfl⟩
    have u5 : u < 5 := by omega
    have j3 : j < 3 := by omega
    have hRow8 := kp8 _ _ aRn hrow
    have hS8 := kp8 _ _ aSn hS6
    have hG8 := kp8 _ _ aGn hG6
    have sizes : ∀ q, q < 12 → ∀ t, t < 11 → (List.replicate 12 ([13, 6, 8, 2, 12, 5, 13, 6, 8, 2, 12] : List Int)).flatten[11 * q + t]? = ([13, 6, 8, 2, 12, 5, 13, 6, 8, 2, 12] : List Int)[t]? := by decide +kernel
    have lenR : row.length = 132 := dg2.1
    have digR : ∀ (t : Nat) (b : Int), t < 11 → ([13, 6, 8, 2, 12, 5, 13, 6, 8, 2, 12] : List Int)[t]? = some b → ∃ d : Nat, row[11 * (3 * u + j) + t]? = some (d : Int) ∧ (d : Int) < b := fun t b lt e => by
      obtain ⟨d, e1, e2, e3⟩ := dg2.2 (11 * (3 * u + j) + t) b (by rw [sizes (3 * u + j) (by omega) t lt]; exact e)
      exact ⟨d.toNat, by rw [e1, Int.toNat_of_nonneg e2], by rw [Int.toNat_of_nonneg e2]; exact e3⟩
    obtain ⟨p0, ep0, bp0⟩ := digR 0 13 (by decide) rfl
    obtain ⟨p1, ep1, bp1⟩ := digR 1 6 (by decide) rfl
    obtain ⟨p2, ep2, bp2⟩ := digR 2 8 (by decide) rfl
    obtain ⟨p3, ep3, bp3⟩ := digR 3 2 (by decide) rfl
    obtain ⟨p4, ep4, bp4⟩ := digR 4 12 (by decide) rfl
    obtain ⟨p5, ep5, bp5⟩ := digR 5 5 (by decide) rfl
    obtain ⟨p6, ep6, bp6⟩ := digR 6 13 (by decide) rfl
    obtain ⟨p7, ep7, bp7⟩ := digR 7 6 (by decide) rfl
    obtain ⟨p8, ep8, bp8⟩ := digR 8 8 (by decide) rfl
    obtain ⟨p9, ep9, bp9⟩ := digR 9 2 (by decide) rfl
    obtain ⟨p10, ep10, bp10⟩ := digR 10 12 (by decide) rfl
    refine ⟨_, rfl, _, rfl, _, _, rfl, rfl, .inl ⟨by decide, by decide⟩, _, rfl, _, _, rfl, rfl, _, _, rfl, rfl, .inl ⟨by decide, by decide⟩, _, rfl, _, rfl, _, _, rfl, rfl, .inl ⟨by decide, by decide⟩, _, rfl, _, _, rfl, rfl, _, _, rfl, rfl, .inl ⟨by decide, by decide⟩, _, _, rfl, rfl, _, rfl, aRow, _, rfl, SqL.of hRow8, fun q nq => ?_⟩
    have cutE : cutV (row.map V.int) (some (11 * (3 * (0 + (u : Int)) + (0 + (j : Int))))) (some (11 * (3 * (0 + (u : Int)) + (0 + (j : Int))) + 11)) = ((row.drop (11 * (3 * u + j))).take 11).map V.int := by
      have c := cut_in (row := row) (a := 11 * (3 * u + j)) (b := 11 * (3 * u + j) + 11) (by omega) (by omega)
      rw [show 11 * (3 * u + j) + 11 - 11 * (3 * u + j) = 11 by omega] at c
      rw [show (11 : Int) * (3 * (0 + (u : Int)) + (0 + (j : Int))) + 11 = ((11 * (3 * u + j) + 11 : Nat) : Int) by omega, show (11 : Int) * (3 * (0 + (u : Int)) + (0 + (j : Int))) = ((11 * (3 * u + j) : Nat) : Int) by omega]
      exact c
    rw [cutE]
    have partAt : ∀ {t d : Nat}, t < 11 → row[11 * (3 * u + j) + t]? = some (d : Int) → ((row.drop (11 * (3 * u + j))).take 11)[t]? = some (d : Int) := fun {t d} lt e => by
      rw [List.getElem?_take_of_lt lt, List.getElem?_drop]
      exact e
    have lenP : ((row.drop (11 * (3 * u + j))).take 11).length = 11 := by
      rw [List.length_take, List.length_drop]
      omega
    have f0 := partAt (t := 0) (by decide) ep0
    have f1 := partAt (t := 1) (by decide) ep1
    have f2 := partAt (t := 2) (by decide) ep2
    have f3 := partAt (t := 3) (by decide) ep3
    have f4 := partAt (t := 4) (by decide) ep4
    have f5 := partAt (t := 5) (by decide) ep5
    have f6 := partAt (t := 6) (by decide) ep6
    have f7 := partAt (t := 7) (by decide) ep7
    have f8 := partAt (t := 8) (by decide) ep8
    have f9 := partAt (t := 9) (by decide) ep9
    have f10 := partAt (t := 10) (by decide) ep10
    generalize (row.drop (11 * (3 * u + j))).take 11 = part at lenP f0 f1 f2 f3 f4 f5 f6 f7 f8 f9 f10 ⊢
    clear partAt cutE ep0 ep1 ep2 ep3 ep4 ep5 ep6 ep7 ep8 ep9 ep10 digR sizes
    have at5 : atI (part.map V.int) 5 = some (V.int p5) := atI_nat (j := 5) (by rw [List.getElem?_map, f5]; rfl)
    have tk : ∀ {t d : Nat}, t < 5 → part[t]? = some (d : Int) → (part.take 5)[t]? = some (d : Int) := fun {t d} lt e => by
      rw [List.getElem?_take_of_lt lt]
      exact e
    have ar1 : ActRow (part.take 5) p0 p1 p2 p3 p4 := ⟨tk (by decide) f0, tk (by decide) f1, tk (by decide) f2, tk (by decide) f3, tk (by decide) f4, by omega, by omega, by omega⟩
    have ar2 : ActRow (part.drop 6) p6 p7 p8 p9 p10 := ⟨by rw [List.getElem?_drop]; exact f6, by rw [List.getElem?_drop]; exact f7, by rw [List.getElem?_drop]; exact f8, by rw [List.getElem?_drop]; exact f9, by rw [List.getElem?_drop]; exact f10, by omega, by omega, by omega⟩
    have cutP1 : cutV (part.map V.int) none (some 5) = (part.take 5).map V.int := by
      have c := cut_take (xs := part.map V.int) (b := 5)
      rw [← List.map_take] at c
      exact c
    have cutP2 : cutV (part.map V.int) (some 6) none = (part.drop 6).map V.int := cut_from (row := part) (a := 6) (by omega)
    have tq := same_new (o := HO.lst (part.map V.int)) nq
    obtain ⟨qn, qa⟩ := kp8.fresh R8.at_ nq
    obtain ⟨sg, esg⟩ : ∃ x, SL[u]? = some x := ⟨_, List.getElem?_eq_getElem (show u < SL.length by omega)⟩
    have osg := okG sg (List.mem_of_getElem? esg)
    obtain ⟨tp, etp, otp⟩ : ∃ t, atI ([V.str nil0] ++ [V.str x, V.str y, V.str z]) (0 + (j : Int)) = some (.str t) ∧ Top t := by
      have c : j = 0 ∨ j = 1 ∨ j = 2 := by omega
      rcases c with rfl | rfl | rfl
      · exact ⟨nil0, rfl, .inr rfl⟩
      · exact ⟨x, rfl, .inl ox⟩
      · exact ⟨y, rfl, .inl oy⟩
    have atG : atI (SL.map V.str) (0 + (u : Int)) = some (.str sg) := by
      rw [show (0 : Int) + (u : Int) = ((u : Nat) : Int) by omega]
      exact atI_nat (by rw [List.getElem?_map, esg] <;> rfl)
    have ok3 : ∀ s ∈ [x, y, z], symB s = true := by
      intro s m
      simp only [List.mem_cons, List.not_mem_nil, or_false] at m
      rcases m with rfl | rfl | rfl
      · exact ox
      · exact oy
      · exact oz
    have hq : (upd H8 q (.lst (part.map V.int))) q = some (.lst (part.map V.int)) := upd_same
    have Rq : Rs H0 (upd H8 q (.lst (part.map V.int))) a l 3 (30 * i + 6 * u + 2 * j) := ⟨_, R8.mono tq⟩
    have kq := kp8.then tq
    have s06 : Same H0 H6 := R6.same
    have hGq := tq _ _ hG8
    have hSq := tq _ _ hS8
    dsimp only [gName]
    show (C8.tCut _ _) _ _ (upd H8 q (.lst (part.map V.int)))
    generalize upd H8 q (.lst (part.map V.int)) = H9 at hq Rq kq hGq hSq ⊢
    clear tq nq kp8 R8 hRow8 hS8 hG8
    -- the first act
    refine ⟨fun σ' H' => ∃ (c : Addr) (vs : List V), σ' = [some (.ref sc), some (.int (at_ : Int)), some (.ref aD), some (.str l), some (.ref aS), some (.ref aG), some (.int 3), some (.ref a), some (.int (0 + (i : Int))), some (.ref aRow), some (.int (0 + (u : Int))), some (.int (0 + (j : Int))), some (.ref q), some (.ref c), v14, e15, e16, e17, e18, e19, e20] ∧ ActsOn H0 H6 H' a q c l sg tp part vs (30 * i + 6 * u + 2 * j) 1, ?_, ?_⟩
    · have fin : ∀ {X : Hp} {v : V}, Same H9 X → ActV l sg tp X v → ∀ c, X c = none → ActsOn H0 H6 (upd X c (.lst [v])) a q c l sg tp part [v] (30 * i + 6 * u + 2 * j) 1 := fun {X v} s hv c nc => by
        have t := same_new (o := HO.lst [v]) nc
        have kx := kq.then s
        obtain ⟨B, RB⟩ := Rq
        obtain ⟨cn, ca⟩ := kx.fresh (s _ _ RB.at_) nc
        have cq : c ≠ q := fun z => by rw [z, s _ _ hq] at nc; cases nc
        exact ⟨kx.then t, qn, qa, t _ _ (s _ _ hq), cn, ca, cq, upd_same, Nat.le_refl _, fun u mu => by rw [List.mem_singleton.mp mu]; exact hv.mono fun b xs e => t _ _ e, ⟨B, RB.mono (s.trans t)⟩⟩
      refine ⟨_, rfl, _, rfl, q, _, rfl, SqL.of hq, fun r nr => ?_⟩
      rw [cutP1]
      have tr := same_new (o := HO.lst ((part.take 5).map V.int)) nr
      refine ⟨_, rfl, _, rfl, _, rfl, _, rfl, aG, _, _, .str sg, rfl, rfl, SqL.of (tr _ _ hGq), atG, show 1 ≤ sizeLine by decide, fun u1 nu1 => ?_⟩
      have tu := tr.trans (same_new (o := HO.lst [V.str nil0]) nu1)
      refine ⟨_, rfl, u1, aS, _, _, rfl, rfl, upd_same, tu _ _ hSq, show 4 ≤ sizeLine by decide, fun v1 nv1 => ?_⟩
      have tv := tu.trans (same_new (o := HO.lst ([V.str nil0] ++ [V.str x, V.str y, V.str z])) nv1)
      refine ⟨_, rfl, v1, _, _, .str tp, rfl, rfl, SqL.of upd_same, etp, ?_⟩
      refine ⟨r, aS, part.take 5, p0, p1, p2, p3, p4, 3, l, sg, tp, [x, y, z], rfl, SqL.of (same_new nv1 _ _ (same_new nu1 _ _ upd_same)), ar1, SqL.of (tv _ _ hSq), by decide, List.cons_ne_nil _ _, ok3, osg, otp, ?_, fun t rr Ht stx eg ep okr ht => ?_⟩
      · exact ⟨show 1 ≤ sizeLine by decide, fun c nc => ⟨c, _, rfl, fin tv (.inl rfl) c nc⟩⟩
      · exact ⟨show 1 ≤ sizeLine by decide, fun c nc => ⟨c, _, rfl, fin (tv.trans stx) (.inr ⟨t, rr, rfl, eg, ep, okr, ht⟩) c nc⟩⟩
    rintro _ H10 ⟨c, vs, rfl, AA⟩
    -- the second act
    refine ⟨fun σ' H' => ∃ (c : Addr) (vs : List V), σ' = [some (.ref sc), some (.int (at_ : Int)), some (.ref aD), some (.str l), some (.ref aS), some (.ref aG), some (.int 3), some (.ref a), some (.int (0 + (i : Int))), some (.ref aRow), some (.int (0 + (u : Int))), some (.int (0 + (j : Int))), some (.ref q), some (.ref c), v14, e15, e16, e17, e18, e19, e20] ∧ ActsOn H0 H6 H' a q c l sg tp part vs (30 * i + 6 * u + 2 * j) 2, ?_, ?_⟩
    · refine ⟨_, rfl, q, _, _, _, rfl, rfl, SqL.of AA.qAt, at5, rfl, _, rfl, ite2 (fun _ => ?_) (fun _ => ⟨c, vs, rfl, AA.le (by decide)⟩)⟩
      have hG10 := AA.kp _ _ aGn hG6
      have hS10 := AA.kp _ _ aSn hS6
      have few := AA.few
      refine ⟨_, rfl, .inl ⟨rfl, _, SqL.of AA.cAt⟩, _, rfl, _, rfl, q, _, rfl, SqL.of AA.qAt, fun r nr => ?_⟩
      rw [cutP2]
      have tr := same_new (o := HO.lst ((part.drop 6).map V.int)) nr
      refine ⟨_, rfl, _, rfl, _, rfl, _, rfl, aG, _, _, .str sg, rfl, rfl, SqL.of (tr _ _ hG10), atG, show 1 ≤ sizeLine by decide, fun u1 nu1 => ?_⟩
      have tu := tr.trans (same_new (o := HO.lst [V.str nil0]) nu1)
      refine ⟨_, rfl, u1, aS, _, _, rfl, rfl, upd_same, tu _ _ hS10, show 4 ≤ sizeLine by decide, fun v1 nv1 => ?_⟩
      have tv := tu.trans (same_new (o := HO.lst ([V.str nil0] ++ [V.str x, V.str y, V.str z])) nv1)
      refine ⟨_, rfl, v1, _, _, .str tp, rfl, rfl, SqL.of upd_same, etp, ?_⟩
      refine ⟨r, aS, part.drop 6, p6, p7, p8, p9, p10, 3, l, sg, tp, [x, y, z], rfl, SqL.of (same_new nv1 _ _ (same_new nu1 _ _ upd_same)), ar2, SqL.of (tv _ _ hS10), by decide, List.cons_ne_nil _ _, ok3, osg, otp, ?_, fun t rr Ht stx eg ep okr ht => ?_⟩
      · exact ⟨c, _, _, rfl, rfl, tv _ _ AA.cAt, Nat.lt_of_le_of_lt few (by decide), c, _, rfl, AA.push tv s06 (.inl rfl)⟩
      · exact ⟨c, _, _, rfl, rfl, stx _ _ (tv _ _ AA.cAt), Nat.lt_of_le_of_lt few (by decide), c, _, rfl, AA.push (tv.trans stx) s06 (.inr ⟨t, rr, rfl, eg, ep, okr, ht⟩)⟩
    clear AA
    rintro _ H11 ⟨c, vs, rfl, AA⟩
    -- or none
    refine ⟨fun σ' H' => ∃ (c : Addr) (vs : List V), σ' = [some (.ref sc), some (.int (at_ : Int)), some (.ref aD), some (.str l), some (.ref aS), some (.ref aG), some (.int 3), some (.ref a), some (.int (0 + (i : Int))), some (.ref aRow), some (.int (0 + (u : Int))), some (.int (0 + (j : Int))), some (.ref q), some (.ref c), v14, e15, e16, e17, e18, e19, e20] ∧ ActsOn H0 H6 H' a q c l sg tp part vs (30 * i + 6 * u + 2 * j) 2, ?_, ?_⟩
    · refine ⟨_, rfl, q, _, _, _, rfl, rfl, SqL.of AA.qAt, at5, rfl, _, rfl, ite2 (fun _ => ?_) (fun _ => ⟨c, vs, rfl, AA⟩)⟩
      refine ⟨_, rfl, _, rfl, _, _, rfl, rfl, _, _, rfl, rfl, _, rfl, ite2 (fun _ => ?_) (fun _ => ⟨c, vs, rfl, AA⟩)⟩
      refine ⟨Nat.zero_le _, fun c2 nc => ⟨c2, [], rfl, ?_⟩⟩
      have t := same_new (o := HO.lst []) nc
      obtain ⟨B, RB⟩ := AA.rs
      obtain ⟨cn, ca⟩ := AA.kp.fresh RB.at_ nc
      have cq : c2 ≠ q := fun z => by rw [z, AA.qAt] at nc; cases nc
      exact ⟨AA.kp.then t, qn, qa, t _ _ AA.qAt, cn, ca, cq, upd_same, Nat.zero_le _, fun u mu => absurd mu List.not_mem_nil, ⟨B, RB.mono t⟩⟩
    clear AA
    rintro _ H12 ⟨c, vs, rfl, AA⟩
    -- the rules
    have lv : vs.length ≤ 2 := AA.few
    refine ⟨_, rfl, c, rfl, ⟨_, SqL.of AA.cAt⟩, for_list (K := K) (a := c) (xs := vs) (fun t σ H' => (∃ v14 : Option V, σ = [some (.ref sc), some (.int (at_ : Int)), some (.ref aD), some (.str l), some (.ref aS), some (.ref aG), some (.int 3), some (.ref a), some (.int (0 + (i : Int))), some (.ref aRow), some (.int (0 + (u : Int))), some (.int (0 + (j : Int))), some (.ref q), some (.ref c), v14, e15, e16, e17, e18, e19, e20]) ∧ ActsOn H0 H6 H' a q c l sg tp part vs (30 * i + 6 * u + 2 * j + t) 2)
      ⟨⟨_, rfl⟩, AA⟩ (fun i σ H' _ h => SqL.of h.2.cAt) ?_ ?_⟩
    · rintro t v σ H13 ht ⟨⟨v14, rfl⟩, AB⟩
      have t2 : t < 2 := by
        have := (List.getElem?_eq_some_iff.mp ht).1
        omega
      have hG13 := AB.kp _ _ aGn hG6
      have hS13 := AB.kp _ _ aSn hS6
      rcases AB.all v (List.mem_of_getElem? ht) with rfl | ⟨tt, rr, rfl, eg, ep, okr, htt⟩
      · exact ⟨_, rfl, _, rfl, iteNo17 (by rw [decide_eq_true rfl] <;> rfl) ⟨⟨_, rfl⟩, { AB with rs := AB.rs.le (by omega) }⟩⟩
      · obtain ⟨B, R⟩ := AB.rs
        refine ⟨_, rfl, _, rfl, ite2 (fun _ => ?_) (fun c => absurd (by rw [decide_eq_false (fun z => nomatch z)] <;> rfl) c)⟩
        refine ⟨_, rfl, .inl ⟨rfl, _, SqL.of R.at_⟩, _, rfl, _, rfl, _, rfl, aG, _, _, .str sg, rfl, rfl, SqL.of hG13, atG, show 1 ≤ sizeLine by decide, fun u1 nu1 => ?_⟩
        have tu := same_new (o := HO.lst [V.str nil0]) nu1
        refine ⟨_, rfl, u1, aS, _, _, rfl, rfl, upd_same, tu _ _ hS13, show 4 ≤ sizeLine by decide, fun v1 nv1 => ?_⟩
        have tv := tu.trans (same_new (o := HO.lst ([V.str nil0] ++ [V.str x, V.str y, V.str z])) nv1)
        refine ⟨_, rfl, v1, _, _, .str tp, rfl, rfl, SqL.of upd_same, etp, show 3 ≤ sizeLine by decide, fun kq nk => ?_⟩
        have tw := tv.trans (same_new (o := HO.tup [V.int (0 + (i : Int)), V.str sg, V.str tp]) nk)
        have RT := R.mono tw
        refine ⟨_, rfl, kq, tt, [.int (0 + (i : Int)), .str sg, .str tp], _, rfl, rfl, .inl (.inl upd_same), .inl (.inl (tw _ _ htt)), (fun z => nomatch z), show 3 + 5 ≤ sizeLine by decide, (fun z => nomatch z), fun _ w2 nw => ⟨a, _, _, rfl, rfl, RT.look nw, RT.sz (by omega), ?_⟩⟩
        exact ⟨⟨_, rfl⟩, AB.rule (r := ⟨0 + (i : Int), sg, tp, rr.af, rr.mv, rr.de, rr.sy, rr.sa⟩) tw RT na nw (mkRl (by omega) osg otp okr.af (by rw [← eg]; exact okr.mv) (by rw [← ep]; exact okr.de) okr.sa)⟩
    · rintro σ H13 ⟨⟨v14, rfl⟩, AB⟩
      exact ⟨AB.kp, AB.rs.le (by omega), _, _, _, _, rfl⟩
  · have ab0 : ∀ b, H1 b = none → b ≠ a := fun b nb z => by rw [z, hA] at nb; cases nb
    refine ⟨_, rfl, aS, _, 0, .str x, rfl, rfl, SqL.of hS, rfl, _, rfl, aS, _, 1, .str y, rfl, rfl, SqL.of hS, rfl, show 3 ≤ sizeLine by decide, fun b nb => ?_⟩
    have tb := same_new (o := HO.lst [V.str nil0, V.str x, V.str y]) nb
    have ab := ab0 b nb
    have hb : (upd H1 b (.lst [V.str nil0, V.str x, V.str y])) b = some (.lst [V.str nil0, V.str x, V.str y]) := upd_same
    have Rb := R0.mono tb
    have hDb := tb _ _ hD
    have hSb := tb _ _ hS
    have hGb := tb _ _ hG
    generalize upd H1 b (.lst [V.str nil0, V.str x, V.str y]) = Hb at hb Rb hDb hSb hGb ⊢
    clear tb nb ab0
    obtain ⟨sa0, esa, lsa⟩ : ∃ g : Nat → PySem.Str, (∀ d, atI [V.str nil0, V.str (sgn1 d)] (d8 : Int) = some (.str (g d))) ∧ ∀ d, d ∈ l.cps.toList → lowB (g d) = true ∧ (g d).length ≤ 3 := by
      have c : d8 = 0 ∨ d8 = 1 := by omega
      rcases c with rfl | rfl
      · exact ⟨fun _ => nil0, fun d => rfl, fun d _ => said0⟩
      · exact ⟨fun d => sgn1 d, fun d => rfl, fun d m => said1 al m⟩
    refine ⟨b, rfl, ⟨_, SqL.of hb⟩, for_list (K := K) (a := b) (xs := [V.str nil0, V.str x, V.str y]) (fun i σ H' => Kp a Hb H' ∧ Rs H0 H' a l 3 (15 * i) ∧ ∃ v10 v15 v16 : Option V, σ = [some (.ref sc), some (.int (at_ : Int)), some (.ref aD), some (.str l), some (.ref aS), some (.ref aG), some (.int 3), some (.ref a), e8, e9, v10, e11, e12, e13, e14, v15, v16, e17, e18, e19, e20])
      ⟨fun b o _ e => e, Rb, _, _, _, rfl⟩ (fun i σ H' _ h => SqL.of (h.1 _ _ ab hb)) ?_ ?_⟩
    · rintro i v σ H2 hi ⟨kp, R2, v10, v15, v16, rfl⟩
      have i3 : i < 3 := (List.getElem?_eq_some_iff.mp hi).1
      obtain ⟨t, et, tt, tn, t3⟩ := three_at ox oy i3
      have ev : V.str t = v := Option.some.inj (et.symm.trans hi)
      subst ev
      have lN : l.length ≤ 3 := l3
      refine ⟨_, rfl, l, rfl, szl, _, rfl, by omega, by omega, for_range (lo := 0) (n := ((l.length : Nat) : Int).toNat) (fun j σ H' => Kp a Hb H' ∧ Rs H0 H' a l 3 (15 * i + 5 * j) ∧ ∃ v10 v16 : Option V, σ = [some (.ref sc), some (.int (at_ : Int)), some (.ref aD), some (.str l), some (.ref aS), some (.ref aG), some (.int 3), some (.ref a), e8, e9, v10, e11, e12, e13, e14, some (.str t), v16, e17, e18, e19, e20])
        ⟨kp, R2.le (by omega), _, _, rfl⟩ ?_ ?_⟩
      · rintro j σ H4 hj ⟨kp4, ⟨B4, R4⟩, v10, v16, rfl⟩
        have j3 : j < 3 := by omega
        obtain ⟨d, ed, md⟩ := let_at (l := l) (i := j) (by omega)
        obtain ⟨mine, oth, em, om, eo, oo⟩ : ∃ m o : PySem.Str, atI [V.str x, V.str y, V.str z] ((0 + (j : Int)) % 2) = some (.str m) ∧ symB m = true ∧ atI [V.str x, V.str y, V.str z] (1 - (0 + (j : Int)) % 2) = some (.str o) ∧ symB o = true := by
          have c : (0 + (j : Int)) % 2 = 0 ∨ (0 + (j : Int)) % 2 = 1 := by omega
          rcases c with e | e <;> rw [e]
          · exact ⟨x, y, rfl, ox, rfl, oy⟩
          · exact ⟨y, x, rfl, oy, rfl, ox⟩
        refine ⟨_, rfl, _, rfl, _, _, rfl, rfl, show (0 : Int) < 2 by decide, aS, _, _, .str mine, rfl, rfl, SqL.of (kp4 _ _ aSn hSb), em, ?_⟩
        refine ⟨_, rfl, .inl ⟨rfl, _, SqL.of R4.at_⟩, _, rfl, _, rfl, l, _, d, rfl, rfl, szl, ed, _, rfl, _, rfl, show 8 ≤ sizeLine by decide, fun q nq => ⟨a, _, _, rfl, rfl, R4.look nq, R4.sz (by omega), ?_⟩⟩
        have R5 := R4.add na nq (r := ⟨0, sgn1 d, t, 0, 1, push0, mine, nil0⟩) (mkRl (by decide) (sgnIn md) tt (by decide) (mvR (let_gt al md)) (pushD t om) said0)
        have kp5 : Kp a Hb (upd (upd H4 q (.tup (Rl.vs ⟨0, sgn1 d, t, 0, 1, push0, mine, nil0⟩))) a (.lst (refsK B4 ++ [V.ref q]))) := kp4.add nq
        have hD5 := kp5 _ _ aDn hDb
        refine ⟨_, rfl, aD, _, _, _, rfl, rfl, SqL.of hD5, rowAt (j := 0) ed0, _, _, rfl, rfl, _, rfl, ite2 (fun _ => ?_) (fun _ => ?_)⟩
        · refine ⟨_, rfl, .inl ⟨rfl, _, SqL.of R5.at_⟩, _, rfl, _, rfl, l, _, d, rfl, rfl, szl, ed, _, rfl, _, rfl, aD, _, _, _, rfl, rfl, SqL.of hD5, rowAt (j := 0) ed0, .inl ⟨_, rfl, _, _, rfl, rfl, show (0 : Int) < 2 by decide, _, rfl, _, rfl, l, _, d, rfl, rfl, szl, ed, show 2 ≤ sizeLine by decide, fun u nu => ?_⟩⟩
          have tu := same_new (o := HO.lst [V.str nil0, V.str (sgn1 d)]) nu
          have R5u := R5.mono tu
          refine ⟨_, rfl, aD, _, _, _, rfl, rfl, SqL.of (tu _ _ hD5), rowAt (j := 8) ed8, u, _, _, .str (sa0 d), rfl, rfl, SqL.of upd_same, esa d, show 8 ≤ sizeLine by decide, fun q2 nq2 => ⟨a, _, _, rfl, rfl, R5u.look nq2, R5u.sz (by omega), ?_⟩⟩
          have mvE : Mv (sgn1 d) ((d0 : Int) % 2) := ⟨by omega, by omega, fun _ => by omega, fun z => absurd z (let_gt al md)⟩
          have R6 := R5u.add na nq2 (r := ⟨0, sgn1 d, t, 1, (d0 : Int) % 2, keep0, nil0, sa0 d⟩) (mkRl (by decide) (sgnIn md) tt (by decide) mvE (keepD t) (lsa d md))
          have kp6 := (kp5.then tu).add (o := .tup (Rl.vs ⟨0, sgn1 d, t, 1, (d0 : Int) % 2, keep0, nil0, sa0 d⟩)) (o' := .lst (refsK (B4 ++ [(q, ⟨0, sgn1 d, t, 0, 1, push0, mine, nil0⟩)]) ++ [V.ref q2])) nq2
          refine ⟨_, rfl, .inl ⟨rfl, _, SqL.of R6.at_⟩, _, rfl, _, rfl, l, _, d, rfl, rfl, szl, ed, _, rfl, show 8 ≤ sizeLine by decide, fun q3 nq3 => ⟨a, _, _, rfl, rfl, R6.look nq3, R6.sz (by omega), ?_⟩⟩
          have R7 := R6.add na nq3 (r := ⟨1, sgn1 d, mine, 1, 1, pop0, nil0, nil0⟩) (mkRl (by decide) (sgnIn md) (.inl om) (by decide) (mvR (let_gt al md)) (popD (sym_ne om)) said0)
          exact ⟨kp6.add nq3, Rs.le ⟨_, R7⟩ (by omega), _, _, rfl⟩
        · refine ⟨_, rfl, .inl ⟨rfl, _, SqL.of R5.at_⟩, _, rfl, _, rfl, l, _, d, rfl, rfl, szl, ed, _, rfl, _, rfl, show 8 ≤ sizeLine by decide, fun q2 nq2 => ⟨a, _, _, rfl, rfl, R5.look nq2, R5.sz (by omega), ?_⟩⟩
          have R6 := R5.add na nq2 (r := ⟨0, sgn1 d, t, 1, 0, push0, mine, nil0⟩) (mkRl (by decide) (sgnIn md) tt (by decide) (mv0 _) (pushD t om) said0)
          refine ⟨_, rfl, .inl ⟨rfl, _, SqL.of R6.at_⟩, _, rfl, _, rfl, l, _, d, rfl, rfl, szl, ed, _, rfl, show 8 ≤ sizeLine by decide, fun q3 nq3 => ⟨a, _, _, rfl, rfl, R6.look nq3, R6.sz (by omega), ?_⟩⟩
          have R7 := R6.add na nq3 (r := ⟨1, sgn1 d, mine, 1, 1, pop0, nil0, nil0⟩) (mkRl (by decide) (sgnIn md) (.inl om) (by decide) (mvR (let_gt al md)) (popD (sym_ne om)) said0)
          refine ⟨_, rfl, .inl ⟨rfl, _, SqL.of R7.at_⟩, _, rfl, _, rfl, l, _, d, rfl, rfl, szl, ed, _, rfl, _, rfl, show 8 ≤ sizeLine by decide, fun q4 nq4 => ⟨a, _, _, rfl, rfl, R7.look nq4, R7.sz (by omega), ?_⟩⟩
          have R8 := R7.add na nq4 (r := ⟨1, sgn1 d, mine, 2, -1, pop0, nil0, PySem.Str.ofString "b"⟩) (mkRl (by decide) (sgnIn md) (.inl om) (by decide) (mvL (let_lt al md)) (popD (sym_ne om)) saidB)
          have kp8 := ((kp5.add (o := .tup (Rl.vs ⟨0, sgn1 d, t, 1, 0, push0, mine, nil0⟩)) (o' := .lst (refsK (B4 ++ [(q, (⟨0, sgn1 d, t, 0, 1, push0, mine, nil0⟩ : Rl))]) ++ [V.ref q2])) nq2).add (o := .tup (Rl.vs ⟨1, sgn1 d, mine, 1, 1, pop0, nil0, nil0⟩)) (o' := .lst (refsK (B4 ++ [(q, (⟨0, sgn1 d, t, 0, 1, push0, mine, nil0⟩ : Rl))] ++ [(q2, (⟨0, sgn1 d, t, 1, 0, push0, mine, nil0⟩ : Rl))]) ++ [V.ref q3])) nq3).add (o := .tup (Rl.vs ⟨1, sgn1 d, mine, 2, -1, pop0, nil0, PySem.Str.ofString "b"⟩)) (o' := .lst (refsK (B4 ++ [(q, (⟨0, sgn1 d, t, 0, 1, push0, mine, nil0⟩ : Rl))] ++ [(q2, (⟨0, sgn1 d, t, 1, 0, push0, mine, nil0⟩ : Rl))] ++ [(q3, (⟨1, sgn1 d, mine, 1, 1, pop0, nil0, nil0⟩ : Rl))]) ++ [V.ref q4])) nq4
          refine ⟨_, rfl, .inl ⟨rfl, _, SqL.of R8.at_⟩, _, rfl, _, rfl, l, _, d, rfl, rfl, szl, ed, _, rfl, _, rfl, _, rfl, _, _, rfl, rfl, show (0 : Int) < 2 by decide, _, _, rfl, rfl, aS, _, _, .str oth, rfl, rfl, SqL.of (kp8 _ _ aSn hSb), eo, show 8 ≤ sizeLine by decide, fun q5 nq5 => ⟨a, _, _, rfl, rfl, R8.look nq5, R8.sz (by omega), ?_⟩⟩
          have R9 := R8.add na nq5 (r := ⟨2, sgn1 d, mine, 1, 1, swap0, oth, nil0⟩) (mkRl (by decide) (sgnIn md) (.inl om) (by decide) (mvR (let_gt al md)) (swapD (sym_ne om) oo) said0)
          exact ⟨kp8.add nq5, Rs.le ⟨_, R9⟩ (by omega), _, _, rfl⟩
      · rintro σ H4 ⟨kp4, R4, v10, v16, rfl⟩
        exact ⟨kp4, R4.le (by omega), _, _, _, rfl⟩
    · rintro σ H2 ⟨kp, ⟨B, R⟩, v10, v15, v16, rfl⟩
      have few : B.length ≤ 45 := R.few
      refine ⟨_, rfl, show 8 ≤ sizeLine by decide, fun p3 n3 => ⟨show 8 ≤ sizeLine by decide, fun p4 n4 => ⟨show 2 ≤ sizeLine by decide, fun b0 nb0 => ?_⟩⟩⟩
      have CAT := fun a2 n4' => rs_cat (a2 := a2) (r1 := ⟨0, lt0, nil0, 0, 1, keep0, nil0, nil0⟩) (r2 := ⟨1, gt0, nil0, 2, 0, keep0, nil0, nil0⟩) R n3 n4 nb0 n4' (mkRl (by decide) (sgnLt l) (.inr rfl) (by decide) (mvR lt_gt) (keepD _) said0) (mkRl (by decide) (sgnGt l) (.inr rfl) (by decide) (mv0 _) (keepD _) said0)
      have sP := ((same_new (o := HO.tup (Rl.vs ⟨0, lt0, nil0, 0, 1, keep0, nil0, nil0⟩)) n3).trans (same_new (o := HO.tup (Rl.vs ⟨1, gt0, nil0, 2, 0, keep0, nil0, nil0⟩)) n4)).trans (same_new (o := HO.lst [V.ref p3, V.ref p4]) nb0)
      refine ⟨a, b0, _, _, rfl, rfl, sP _ _ R.at_, upd_same, ?_, fun a2 na2 => ?_⟩
      · unfold refsK
        rw [List.length_map]
        exact Nat.le_trans (show B.length + 2 ≤ 50 by omega) (by decide)
      obtain ⟨_, na', R'⟩ := CAT a2 na2
      have kQ := kp.then (sP.trans (same_new (o := HO.lst (refsK B ++ [V.ref p3, V.ref p4])) na2))
      exact ⟨a2, _, _, _, _, _, _, _, _, _, rfl, kQ _ _ aDn hDb, kQ _ _ aSn hSb, kQ _ _ aGn hGb, na', Rs.le ⟨_, R'⟩ (show 15 * 3 + 2 ≤ 300 by decide)⟩
end
end Mk

set_option Elab.async false
set_option linter.unusedVariables false
set_option maxRecDepth 100000
set_option maxHeartbeats 16000000
namespace Mk
open PySem L2 Pk
section
variable {P : Program} {w : World} {K : PySem.W.Frag} {mg : PySem.Str → Option Value} {base : Heap}
theorem ok_guesser {f : Addr} {fd : FuncData} (F : Fun K "_law_guesser" "_law_guesser" sGuesser f fd) (T : TM mg) (G : GenDefs P w K mg base) : FnOk P w K mg base CX0 2 f fd ["script", "at"] (spMach K) := by
  refine F.ok scGuesser (fun vs H Q E h => ?_) (fun cdv A outer s H vs Q E hr h => ?_)
  · obtain ⟨sc, ns, at_, rfl, _⟩ := h
    rfl
  · obtain ⟨sc, ns, at_, rfl, hSc, k⟩ := h
    have nd := scGuesser.nd
    have h1 := hr
    obtain ⟨tX, hX, kX⟩ := guess_X (f := f) T G cdv A outer s H E hr
    refine ⟨_, (pss_cons (ps_set (i := 2) nd rfl (Or.inr rfl) (pe_got G.digits h1 (by rfl) (pa_cons (pe_got G.cell h1 (by rfl) (pa_cons (pv 0) (pa_cons (pv 1) pa_nil))) (pa_cons (pe_op op_cat (pe_lst (pa_cons pe_int (pa_cons pe_int (pa_cons pe_int (pa_cons pe_int (pa_cons pe_int (pa_cons pe_int (pa_cons pe_int (pa_cons pe_int (pa_cons pe_int pa_nil)))))))))) (pe_op op_rep (pe_lst (pa_cons pe_int (pa_cons pe_int (pa_cons pe_int (pa_cons pe_int (pa_cons pe_int (pa_cons pe_int pa_nil))))))) pe_int)) pa_nil))))
      (pss_cons (ps_set (i := 3) nd rfl (Or.inl rfl) (pe_got G.alpha h1 (by rfl) (pa_cons (pe_op op_cat (pe_lst (pa_cons (pe_op op_mod (pe_callTy call_int1 (by rfl) T.int PyProof.Rows.Boot.int (pa_cons (pe_ix ix_list (pv 2) pe_int fun _ _ => rfl) pa_nil)) pe_int) pa_nil)) (pe_slice sl_list (pv 2) (po_some pe_int) (po_some pe_int))) pa_nil)))
      (pss_cons (ps_set (i := 4) nd rfl (Or.inl rfl) (pe_got G.syms h1 (by rfl) (pa_cons (pe_ix ix_list (pv 2) pe_int fun _ _ => rfl) pa_nil)))
      (pss_cons (ps_set (i := 5) nd rfl (Or.inl rfl) (pe_op op_cat (pe_lst (pa_cons pe_str (pa_cons pe_str pa_nil))) (pe_lc (own := [("letter", 20)]) (g := gName 20) (tt := tYes) (by rfl) nd (pi_str (pv 3)) (blkOk_by (own := [("letter", 20)]) (N := nGuesser) (sc := defScope sGuesser) (by decide +kernel)) (fun _ _ _ _ _ => pg_name (i := 20) nd rfl (Or.inl rfl)) (fun _ _ _ _ _ => pts_nil) (fun _ _ _ _ _ => (pv 20)))))
      (pss_cons (ps_set (i := 6) nd rfl (Or.inl rfl) pe_int)
      (pss_cons (ps_set (i := 7) nd rfl (Or.inl rfl) (pe_lst pa_nil))
      hX)))))), ?_⟩
    refine ⟨_, rfl, _, rfl, sc, ns, at_, rfl, hSc, fun z0 => ⟨show 9 ≤ sizeLine by decide, fun q1 m1 => ⟨show 6 ≤ sizeLine by decide, fun q2 m2 => ⟨q2, 4, _, rfl, rfl, upd_same, by decide, by decide, by decide, fun q3 m3 => ?_⟩⟩⟩⟩
    refine ⟨q1, q3, _, _, rfl, rfl, same_new m3 _ _ (same_new m2 _ _ upd_same), upd_same, show 33 ≤ sizeLine by decide, fun q4 m4 => ?_⟩
    refine ⟨z0, q4, guessSizes, rfl, SqL.of upd_same, by decide, by decide, fun head aD H1 dg np s1 hhead => ?_⟩
    have sA : Same H H1 := ((((same_new m1).trans (same_new m2)).trans (same_new m3)).trans (same_new m4)).trans s1
    clear s1 np m1 m2 m3 m4
    have rowAt : ∀ {j : Nat} {d : Nat}, head[j]? = some (d : Int) → atI (head.map V.int) (j : Int) = some (V.int d) := fun {j d} e => atI_nat (by rw [List.getElem?_map, e]; rfl)
    have dig : ∀ (j : Nat) (t : Int), guessSizes[j]? = some t → ∃ d : Nat, head[j]? = some (d : Int) ∧ (d : Int) < t := fun j t e => by
      obtain ⟨d, e1, e2, e3⟩ := dg.2 j t e
      exact ⟨d.toNat, by rw [e1, Int.toNat_of_nonneg e2], by rw [Int.toNat_of_nonneg e2]; exact e3⟩
    have lenH : head.length = 33 := dg.1
    obtain ⟨d0, e0, b0⟩ := dig 0 8 rfl
    obtain ⟨d1, e1, b1⟩ := dig 1 8 rfl
    obtain ⟨d2, e2, b2⟩ := dig 2 12 rfl
    obtain ⟨d3, e3, b3⟩ := dig 3 13 rfl
    obtain ⟨d4, e4, b4⟩ := dig 4 6 rfl
    -- the alphabet
    refine ⟨_, rfl, aD, _, _, _, rfl, rfl, SqL.of hhead, rowAt (j := 1) e1, .inl ⟨_, rfl, _, _, rfl, rfl, show (0 : Int) < 7 by decide, show 1 ≤ sizeLine by decide, fun u nu => ?_⟩⟩
    have tu := same_new (o := HO.lst [V.int ((d1 : Int) % 7)]) nu
    refine ⟨_, rfl, 2, rfl, 4, rfl, aD, _, rfl, SqL.of (tu _ _ hhead), fun q nq => ?_⟩
    have cutA : cutV (head.map V.int) (some 2) (some 4) = ((head.drop 2).take 2).map V.int := cut_in (row := head) (a := 2) (b := 4) (by omega) (by omega)
    rw [cutA]
    have tq := tu.trans (same_new (o := HO.lst (((head.drop 2).take 2).map V.int)) nq)
    have lenA : ((head.drop 2).take 2).length = 2 := by
      rw [List.length_take, List.length_drop]
      omega
    refine ⟨u, q, _, _, rfl, rfl, same_new nq _ _ upd_same, upd_same, ?_, fun v nv => ?_⟩
    · rw [List.length_map, lenA]
      exact (show 1 + 2 ≤ sizeLine by decide)
    have tv := tq.trans (same_new (o := HO.lst ([V.int ((d1 : Int) % 7)] ++ ((head.drop 2).take 2).map V.int)) nv)
    have m7 : (d1 : Int) % 7 = ((d1 % 7 : Nat) : Int) := by omega
    have a0 : (((d1 % 7 : Nat) : Int) :: (head.drop 2).take 2)[0]? = some ((d1 % 7 : Nat) : Int) := rfl
    have a1 : (((d1 % 7 : Nat) : Int) :: (head.drop 2).take 2)[1]? = some (d2 : Int) := by
      rw [List.getElem?_cons_succ, List.getElem?_take_of_lt (by decide), List.getElem?_drop]
      exact e2
    have a2 : (((d1 % 7 : Nat) : Int) :: (head.drop 2).take 2)[2]? = some (d3 : Int) := by
      rw [List.getElem?_cons_succ, List.getElem?_take_of_lt (by decide), List.getElem?_drop]
      exact e3
    refine ⟨v, ((d1 % 7 : Nat) : Int) :: (head.drop 2).take 2, d1 % 7, d2, d3, rfl, SqL.of (by rw [upd_same]; exact congrArg (fun z => some (HO.lst (V.int z :: ((head.drop 2).take 2).map V.int))) m7), a0, a1, a2, by omega, by omega, fun l al l3 l2' => ?_⟩
    have l2 : l.length ≤ 2 := l2' (by omega)
    -- the symbols
    refine ⟨_, rfl, aD, _, _, _, rfl, rfl, SqL.of (tv _ _ hhead), rowAt (j := 4) e4, d4, rfl, by omega, fun aS x y z H2 s2 ox oy oz hS => ?_⟩
    have s12 := tv.trans s2
    have hD2 := s12 _ _ hhead
    have sB := sA.trans s12
    clear s2 s12 tv tq tu nu nq nv cutA
    -- the signs
    refine ⟨show 2 ≤ sizeLine by decide, fun la ha => ?_⟩
    refine ⟨_, rfl, l, rfl, fun Dl hDl => lc_it walk_str (fun i H' => Same (upd H2 la (.lst [.str lt0, .str gt0])) H' ∧ H' Dl = some (.lst (((l.cps.toList.take i).map sgn1).map V.str)))
      ⟨same_new hDl, upd_same⟩ (fun _ _ _ _ => trivial) ?_ ?_⟩
    · rintro i v H3 H4 hi ⟨s2, hD3⟩ ⟨rfl, c0, hc0, rfl⟩
      have hc1 : l.cps.toList[i]? = some c0 := by rw [Array.getElem?_toList]; exact hc0
      have ls : l.cps.size ≤ 2 := l2
      refine ⟨rfl, ?_⟩
      refine ⟨_, rfl, _, hD3, ?_, same_mut s2 hDl, ?_⟩
      · rw [List.length_map, List.length_map, List.length_take, Array.length_toList]
        exact Nat.lt_of_le_of_lt (Nat.le_trans (Nat.min_le_right _ _) ls) (by decide)
      · rw [upd_same, take_at hc1, List.map_append, List.map_append]
        rfl
    rintro H3 ⟨s2, hD3⟩
    have ls : l.cps.size ≤ 2 := l2
    have full : l.cps.toList.take l.cps.size = l.cps.toList := List.take_of_length_le (by rw [Array.length_toList]; exact Nat.le_refl _)
    rw [full] at hD3
    refine ⟨la, Dl, _, _, rfl, rfl, s2 _ _ upd_same, hD3, ?_, fun aG nG => ?_⟩
    · rw [List.length_map, List.length_map, Array.length_toList]
      exact Nat.le_trans (Nat.add_le_add_left ls _) (by decide)
    have s13 : Same H2 (upd H3 aG (.lst (([lt0, gt0] ++ l.cps.toList.map sgn1).map V.str))) := ((same_new ha).trans s2).trans (same_new nG)
    have hG : (upd H3 aG (.lst (([lt0, gt0] ++ l.cps.toList.map sgn1).map V.str))) aG = some (.lst (([lt0, gt0] ++ l.cps.toList.map sgn1).map V.str)) := upd_same
    have eSL : ([V.str lt0, V.str gt0] ++ (l.cps.toList.map sgn1).map V.str) = ([lt0, gt0] ++ l.cps.toList.map sgn1).map V.str := by rw [List.map_append] <;> rfl
    rw [show ([V.str (PySem.Str.ofString "<"), V.str (PySem.Str.ofString ">")] ++ (l.cps.toList.map sgn1).map V.str) = ([lt0, gt0] ++ l.cps.toList.map sgn1).map V.str from eSL]
    dsimp only [gName]
    show (tSeq _ _) _ _ (upd H3 aG (.lst (([lt0, gt0] ++ l.cps.toList.map sgn1).map V.str)))
    generalize upd H3 aG (.lst (([lt0, gt0] ++ l.cps.toList.map sgn1).map V.str)) = H5 at s13 hG ⊢
    have okSL : ∀ x ∈ ([lt0, gt0] ++ l.cps.toList.map sgn1), Sgn l x := by
      intro x m
      rcases List.mem_append.mp m with m | m
      · rcases List.mem_cons.mp m with e | m
        · rw [e]; exact sgnLt l
        · rw [List.mem_singleton.mp m]; exact sgnGt l
      · obtain ⟨c0, m0, rfl⟩ := List.mem_map.mp m
        exact sgnIn m0
    have lSL : ([lt0, gt0] ++ l.cps.toList.map sgn1).length ≤ 4 := by
      rw [List.length_append, List.length_map, Array.length_toList]
      show 2 + l.cps.size ≤ 4
      omega
    have neSL : ([lt0, gt0] ++ l.cps.toList.map sgn1) ≠ [] := by simp
    generalize [lt0, gt0] ++ l.cps.toList.map sgn1 = SL at hG okSL lSL neSL
    have s05 := sB.trans s13
    refine ⟨Nat.zero_le _, fun a na => ?_⟩
    have ta := same_new (o := HO.lst []) na
    have hD5 := s13 _ _ hD2
    have hS5 := s13 _ _ hS
    have nea : ∀ {b : Addr} {o : HO}, H5 b = some o → b ≠ a := fun e z => by rw [z, na] at e; cases e
    exact kX _ H k _ sc aD aS aG a ns head at_ l x y z SL _ _ _ _ _ _ _ _ _ _ _ _ _ hSc (ta _ _ hD5) dg (ta _ _ hS5) ox oy oz (ta _ _ hG) neSL lSL okSL al l3 (s05.free na) upd_same (nea hD5) (nea hS5) (nea hG) (s05.trans ta)
end
end Mk

set_option Elab.async false
set_option linter.all false
set_option maxRecDepth 100000
set_option maxHeartbeats 4000000
/-! o.m(k = v, ..), x == y by an own __eq__ with both answers -/
namespace Sx
open PySem PySem.Spec PyProof.Rows L2
def tMethK (C : Addr) (m : PySem.Str) (n : Nat) (sp : Sp) (gV : List V → List V → List V) (E : XK) (ta : TE) (tk : TA) : TE := fun σ H Q => ta σ H fun x H1 => ∃ a dx fs, x = .ref a ∧ H1 a = some (.ins C dx fs) ∧ fs.lookup m = none ∧
  tk σ H1 fun zs H2 => zs.length = n ∧ sp (gV [.ref a] zs) H2 Q E
section
variable {X : Cx} {CX : CXT} {k : Nat} {C f : Addr} {fd : FuncData} {ps ks : List PySem.Str} {m : PySem.Str} {sp : Sp} {E : XK} {o : Expr} {ta : TE} {tk : TA} {apos pos : Pos} {kws : List Keyword} {g : List Value → List Value → List Value} {gV : List V → List V → List V}
theorem pe_methK {pl : Sem Bool} (he : PE X o ta) (c : Cls X.K C) (hm : Meth X.K C m f) (F : FnOk X.prog X.w X.K X.mg X.base CX k f fd ps sp) (hr : Room k X.A) (hb : KBn X.K fd ps 1 ks g gV) (hx : Passes CX X E) (hkw : PK X kws tk)
    (hall : (backToKw pos (keywordEach kws X.env)).all (·.1.isSome) = true := by rfl) (hks : (backToKw pos (keywordEach kws X.env)).filterMap (·.1) = ks := by rfl)
    (hpl : ((backTo pos (starEach [] X.env)).any (·.1) || (backToKw pos (keywordEach kws X.env)).any (·.1.isNone)) = false := by rfl)
    (ht : eval (.Call (.Attribute o m apos) [] kws pos) X.env = (do
      let ov ← eval o X.env
      standAt apos.atName
      let (f, first) ← holding [ov] (getMethod ov m pl)
      callWith pos f first (backTo pos (starEach [] X.env)) (backToKw pos (keywordEach kws X.env))) := by rfl) :
    PE X (.Call (.Attribute o m apos) [] kws pos) (tMethK C m ks.length sp gV E ta tk) := by
  refine ⟨fun pins s σ H Q I h => ?_⟩
  refine PySem.W.methodCall_KW (pl := pl) (thn (he.run pins s σ H _ I h) fun u s1 ⟨x, H1, I1, rx, a, dx, fs, ex, ea, l, q⟩ => ?_) ht
  subst ex
  obtain rfl : u = Value.ref a := rx
  refine getmeth_ok I1 ea c hm l ?_
  refine PySem.W.callWith_KW0 (first := [.ref a]) (h₀ := X.base) I.ok.mod.kin hm.kp hall (thn (hkw.run pos pins s1 σ H1 _ I1 q) fun ws s2 ⟨zs, H2, I2, rz, l2, q2⟩ => ⟨I2.kIn, ?_⟩) hpl
  rw [hks]
  exact run_fnN (us := [.ref a]) (vs := [.ref a]) F hr hb hx I2 (.cons rfl .nil) rz rfl l2 q2
end
def rEqI (C : Addr) (sp : Sp) (E : XK) : R2 := fun x y H Q => ∃ a b dx dy fs gs, x = .ref a ∧ y = .ref b ∧ H a = some (.ins C dx fs) ∧ H b = some (.ins C dy gs) ∧ sp [.ref a, .ref b] H Q E
theorem op_eqI {X : Cx} {CX : CXT} {n : Nat} {C f : Addr} {fd : FuncData} {ps : List PySem.Str} {sp : Sp} {E : XK} (F : FnOk X.prog X.w X.K X.mg X.base CX n f fd ps sp)
    (hs : PySem.W.findIn X.K (.ref C) "__eq__" = some (some (.ref f))) (hf : PySem.W.isFn X.K (.ref f) = true) (hb : Binds X.K fd ps []) (hx : Passes CX X E) (hr : Room n X.A) (hbl : ∀ vs H (Q : VK) E, sp vs H Q E → sp vs H (fun v H' => (∃ r, v = .bl r) ∧ Q v H') E) : OpR X (compareOp .Eq) (rEqI C sp E) := by
  intro pins s σ H x y v u Q I rx ry hq
  obtain ⟨a, b, dx, dy, fs, gs, rfl, rfl, ha, hb', hsp0⟩ := hq
  have hsp := hbl _ _ _ _ hsp0
  cases rx
  cases ry
  show wpAny (model X.prog X.w) X.A (richCompare .Eq (.ref a) (.ref b)) (EP X pins σ Q) X.xe s
  obtain ⟨mA, J, _⟩ := ins_get I.hok ha
  obtain ⟨mB, J', _⟩ := ins_get I.hok hb'
  obtain ⟨od, J, _⟩ := J.look
  obtain ⟨od', J', _⟩ := J'.look
  obtain ⟨m, hF⟩ := I.fr
  refine PySem.W.cmp_K (op := .Eq) (tb := .ref C) hr.units0 hF I.ok.mod.kin J J'.type (by simp [PySem.W.notFirst]) hs hf ?_
  have hl := F.len _ _ _ _ hsp
  have r2 : Vals [V.ref a, V.ref b] [Value.ref a, Value.ref b] := .cons rfl (.cons rfl .nil)
  refine wpAny_call (codeAny_mono (F.run X.A X.stack s H ⟨[.ref a, .ref b], []⟩ [.ref a, .ref b] [.ref a, .ref b] _ E hr I.env0 (by
    have := hb s [.ref a, .ref b] I.kIn (by simpa using hl)
    simpa using this) r2 hsp) fun r s' hq => ?_)
  cases r with
  | error e => exact hx pins σ H s e s' I hq
  | ok fl =>
    cases fl with
    | ret w =>
      obtain ⟨z, H', I', rz, ⟨r, ez⟩, q⟩ := I.after hq
      subst ez
      cases rz
      exact ⟨.bl r, H', I', rfl, q⟩
    | next => exact False.elim hq
    | brk => exact False.elim hq
    | cont => exact False.elim hq
end Sx

set_option Elab.async false
set_option linter.all false
set_option maxRecDepth 100000
set_option maxHeartbeats 4000000
/-! f(k = v, ..): all arguments by their names -/
namespace Sx
open PySem PySem.Spec PyProof.Rows L2
section
variable {X : Cx} {CX : CXT} {k : Nat} {f : Addr} {fd : FuncData} {ps ks : List PySem.Str} {x : PySem.Str} {sp : Sp} {E : XK} {tk : TA} {p pos : Pos} {kws : List Keyword} {g : List Value → List Value → List Value} {gV : List V → List V → List V}
theorem pe_callN0 (F : FnOk X.prog X.w X.K X.mg X.base CX k f fd ps sp) (hr : Room k X.A) (hg : Gl X x) (hm : X.mg x = some (.ref f)) (hk : PySem.W.keepIn X.K (.ref f) = true) (hb : KBn X.K fd ps 0 ks g gV) (hx : Passes CX X E)
    (hkw : PK X kws tk) (hall : (backToKw pos (keywordEach kws X.env)).all (·.1.isSome) = true := by rfl) (hks : (backToKw pos (keywordEach kws X.env)).filterMap (·.1) = ks := by rfl)
    (hdb : (x == ("__debug__" : PySem.Str)) = false := by decide)
    (hpl : ((backTo pos (starEach [] X.env)).any (·.1) || (backToKw pos (keywordEach kws X.env)).any (·.1.isNone)) = false := by rfl) :
    PE X (.Call (.Name x p) [] kws pos) (tCallN 0 ks.length sp gV E tNil tk) := by
  refine ⟨fun pins s σ H Q I h => ?_⟩
  refine wpAny_Call_Name_kw (ld_glob I hg hm ?_ hdb)
  refine PySem.W.callWith_KW0 (h₀ := X.base) I.ok.mod.kin hk hall ?_ hpl
  refine thn (hkw.run pos pins s σ H _ I h) fun ws s2 ⟨zs, H2, I2, rz, l1, l2, q2⟩ => ⟨I2.kIn, ?_⟩
  rw [hks]
  exact run_fnN (us := []) (vs := []) F hr hb hx I2 .nil rz rfl l2 q2
end
end Sx

set_option Elab.async false
set_option linter.unusedVariables false
set_option maxRecDepth 100000
set_option maxHeartbeats 16000000
namespace Sx
open PySem PySem.Spec PyProof.Rows L2 Pk Mk
/-- a def that may be called by the names of its two parameters -/
def GotK (P : Program) (w : World) (K : PySem.W.Frag) (mg : PySem.Str → Option Value) (base : Heap) (x : PySem.Str) (k : Nat) (ps : List PySem.Str) (sp : Sp) : Prop :=
  ∃ f fd, FnOk P w K mg base CX0 k f fd ps sp ∧ PySem.W.keepIn K (.ref f) = true ∧ Binds K fd ps [] ∧ mg x = some (.ref f) ∧ KBn K fd ps 0 ps (fun us ws => us ++ ws) (fun vs zs => vs ++ zs)
theorem GotK.got {P : Program} {w : World} {K : PySem.W.Frag} {mg : PySem.Str → Option Value} {base : Heap} {x : PySem.Str} {k : Nat} {ps : List PySem.Str} {sp : Sp} (h : GotK P w K mg base x k ps sp) : Got P w K mg base x k ps sp := by
  obtain ⟨f, fd, a, b, c, d, _⟩ := h
  exact ⟨f, fd, a, b, c, d⟩
theorem pe_gotK {X : Cx} {x : PySem.Str} {k : Nat} {ps : List PySem.Str} {sp : Sp} {p pos : Pos} {kws : List Keyword} {tk : TA} (h : GotK X.prog X.w X.K X.mg X.base x k ps sp) (hr : Room k X.A) (hg : Gl X x) (hkw : PK X kws tk)
    (hall : (backToKw pos (keywordEach kws X.env)).all (·.1.isSome) = true := by rfl) (hks : (backToKw pos (keywordEach kws X.env)).filterMap (·.1) = ps := by rfl)
    (hdb : (x == ("__debug__" : PySem.Str)) = false := by decide)
    (hpl : ((backTo pos (starEach [] X.env)).any (·.1) || (backToKw pos (keywordEach kws X.env)).any (·.1.isNone)) = false := by rfl) :
    PE X (.Call (.Name x p) [] kws pos) (tCallN 0 ps.length sp (fun vs zs => vs ++ zs) E0 tNil tk) := by
  obtain ⟨f, fd, F, kp, b, g, kb⟩ := h
  exact pe_callN0 F hr hg g kp kb pass0 hkw hall hks hdb hpl
end Sx
namespace Mk
open PySem L2 Pk
abbrev nLaw : List PySem.Str := ["script", "row", "drawn", "rules", "found", "symbols", "made", "pushes", "pops", "size", "surfaces", "joinings", "dues", "told", "k", "rule"]
theorem scLaw : FnScope nLaw ["script"] (defScope sLaw) := ⟨rfl, rfl, rfl, by decide +kernel, rfl, by decide +kernel, by decide +kernel⟩
section
variable {P : Program} {w : World} {K : PySem.W.Frag} {mg : PySem.Str → Option Value} {base : Heap}
structure LawDefs (P : Program) (w : World) (K : PySem.W.Frag) (mg : PySem.Str → Option Value) (base : Heap) : Prop where
  cell : Got P w K mg base "_law_cell" 1 ["script", "k"] (spCellA K)
  digits : Got P w K mg base "_law_digits" 1 ["cell", "sizes"] (spDigits K)
  machine : Got P w K mg base "_law_machine" 2 ["script", "at"] (spMach K)
  guesser : Got P w K mg base "_law_guesser" 2 ["script", "at"] (spMach K)
  surfK : Sx.GotK P w K mg base "surfaces_at_most" 1 ["machine", "length"] (spSurf K)
  meetK : Sx.GotK P w K mg base "meetings_at_most" 2 ["machine", "length"] (spMeet K)
  edgesK : Sx.GotK P w K mg base "edges_at_most" 2 ["machine", "length"] (spEdges K)
  joinK : Sx.GotK P w K mg base "joinings_at_most" 2 ["machine", "length"] (spJoin K)
  same : Got P w K mg base "_law_same" 5 ["told", "due"] (spSame K 3)
/-! the law's end -/
theorem law_Z {f : Addr} (T : TM mg) (G : LawDefs P w K mg base) (cdv : Value) (A : Around) (outer : List Env) (s : Shared) (H : Hp) (E : XK)
    (hr : Room 7 (A.deeper (PyProof.Rows.envOfC "law" (defScope sLaw) s.heap.objs.size f cdv))) :
    ∃ t : TS, PSs (cxOf CX0 P w K mg base nLaw "law" (defScope sLaw) f cdv A outer s H E).nox ((defBody sLaw).drop 10) t ∧
      ∀ (D : Ends) (k : ∀ H', D.rt (.bl true) H') (H1 : Hp) (sc aR aD aS x : Addr) (row : List Int) (d1 d2 : Nat) (l : PySem.Str) (n : Int) (ra ya : V) (rs : List Rl) (ss : List V) (e3 e4 e9 e10 e11 e12 e13 e14 e15 : Option V),
        H1 aR = some (.lst (row.map V.int)) → row[1]? = some (d1 : Int) → row[2]? = some (d2 : Int) → d1 < 2 ^ 110 → d2 < 2 ^ 110 → H1 aD = some (.lst [.str l, .int n, ra, ya]) → H1 aS = some (.lst ss) → ss.length = symN rs →
        (∀ m : Int, 0 ≤ m → m.natAbs < 2 ^ 110 → BillOf K H1 x n m rs) →
        t D [some (.ref sc), some (.ref aR), some (.ref aD), e3, e4, some (.ref aS), some (.ref x), some (.int (deedN (rulesOf rs) push0 : Int)), some (.int (deedN (rulesOf rs) pop0 : Int)), e9, e10, e11, e12, e13, e14, e15] H1 := by
  have nd := scLaw.nd
  have h1 := hr.mono (show 1 ≤ 7 by decide)
  have h2 := hr.mono (show 2 ≤ 7 by decide)
  have h5 := hr.mono (show 5 ≤ 7 by decide)
  refine ⟨_, (pss_cons (ps_for PassesOwn.never rfl (pi_list (pe_lst (pa_cons (pe_ix ix_list (pv 1) pe_int fun _ _ => rfl) (pa_cons pe_int (pa_cons (pe_ix ix_list (pv 1) pe_int fun _ _ => rfl) (pa_cons pe_int pa_nil)))))) (pg_name (i := 9) nd rfl (Or.inl rfl))
        (pss_cons (ps_set (i := 10) nd rfl (Or.inl rfl) (pe_op op_mulW (pe_op op_mulW (pe_ix ix_list (pv 2) pe_int fun _ _ => rfl) (pe_op op_add (pe_callB call_len_seq (by rfl) T.len PySem.boot_len (pa_cons (pv 5) pa_nil)) pe_int)) (pe_op op_add (pv 9) pe_int)))
        (pss_cons (ps_set (i := 11) nd rfl (Or.inl rfl) (pe_op op_mulW (pe_op op_mulW (pe_op op_mulW (pe_op op_mulW (pe_op op_mulW (pe_op op_mulW (pv 7) (pv 8)) (pe_ix ix_list (pv 2) pe_int fun _ _ => rfl)) (pe_op op_add (pe_callB call_len_seq (by rfl) T.len PySem.boot_len (pa_cons (pv 5) pa_nil)) pe_int)) (pe_op op_add (pv 9) pe_int)) (pe_op op_add (pv 9) pe_int)) (pe_op op_add (pv 9) pe_int)))
        (pss_cons (ps_set (i := 12) nd rfl (Or.inl rfl) (pe_tup (pa_cons (pv 10) (pa_cons (pe_op op_mulW pe_int (pv 10)) (pa_cons (pe_op op_mulW (pv 10) (pv 10)) (pa_cons (pv 11) pa_nil))))))
        (pss_cons (ps_if (pt_not (pt_val (pe_got G.same h5 (by rfl) (pa_cons (pe_tup (pa_cons (pe_got G.surfK.got h1 (by rfl) (pa_cons (pv 6) (pa_cons (pv 9) pa_nil))) (pa_cons (pe_got G.meetK.got h2 (by rfl) (pa_cons (pv 6) (pa_cons (pv 9) pa_nil))) pa_nil))) (pa_cons (pe_slice sl_tup (pv 12) po_none (po_some pe_int)) pa_nil)))))
          (pss_one (ps_ret pe_bl))
          pss_nil)
        (pss_cons (ps_if (pt_not (pt_val (pe_got G.same h5 (by rfl) (pa_cons (pe_tup (pa_cons (pe_got G.edgesK.got h2 (by rfl) (pa_cons (pv 6) (pa_cons (pv 9) pa_nil))) (pa_cons (pe_got G.joinK.got h2 (by rfl) (pa_cons (pv 6) (pa_cons (pv 9) pa_nil))) pa_nil))) (pa_cons (pe_slice sl_tup (pv 12) (po_some pe_int) po_none) pa_nil)))))
          (pss_one (ps_ret pe_bl))
          pss_nil)
        (pss_cons (ps_set (i := 13) nd rfl (Or.inl rfl) (pe_tup (pa_cons (Sx.pe_gotK G.surfK h1 (by rfl) (pk_cons (pv 6) (pk_cons (pv 9) pk_nil))) (pa_cons (Sx.pe_gotK G.meetK h2 (by rfl) (pk_cons (pv 6) (pk_cons (pv 9) pk_nil))) pa_nil))))
        (pss_one (ps_if (pt_not (pt_val (pe_got G.same h5 (by rfl) (pa_cons (pe_op op_catT (pv 13) (pe_tup (pa_cons (Sx.pe_gotK G.edgesK h2 (by rfl) (pk_cons (pv 6) (pk_cons (pv 9) pk_nil))) (pa_cons (Sx.pe_gotK G.joinK h2 (by rfl) (pk_cons (pv 6) (pk_cons (pv 9) pk_nil))) pa_nil)))) (pa_cons (pv 12) pa_nil)))))
          (pss_one (ps_ret pe_bl))
          pss_nil)))))))))
      (pss_one (ps_ret pe_bl))), ?_⟩
  intro D k H1 sc aR aD aS x row d1 d2 l n ra ya rs ss e3 e4 e9 e10 e11 e12 e13 e14 e15 hR er1 er2 b1 b2 hD hS eS hB
  have rowAt : ∀ {j : Nat} {d : Nat}, row[j]? = some (d : Int) → atI (row.map V.int) (j : Int) = some (V.int d) := fun {j d} e => atI_nat (by rw [List.getElem?_map, e]; rfl)
  refine ⟨_, rfl, aR, _, _, _, rfl, rfl, SqL.of hR, rowAt (j := 1) er1, _, rfl, aR, _, _, _, rfl, rfl, SqL.of hR, rowAt (j := 2) er2, show 4 ≤ sizeLine by decide, fun b nb => ?_⟩
  have tb := same_new (o := HO.lst [V.int d1, V.int 0, V.int d2, V.int 1]) nb
  refine ⟨b, rfl, ⟨_, SqL.of upd_same⟩, for_list (K := K) (a := b) (xs := [V.int d1, V.int 0, V.int d2, V.int 1]) (fun i σ H' => Same H1 H' ∧ H' b = some (.lst [V.int d1, V.int 0, V.int d2, V.int 1]) ∧ ∃ v9 v10 v11 v12 v13 : Option V, σ = [some (.ref sc), some (.ref aR), some (.ref aD), e3, e4, some (.ref aS), some (.ref x), some (.int (deedN (rulesOf rs) push0 : Int)), some (.int (deedN (rulesOf rs) pop0 : Int)), v9, v10, v11, v12, v13, e14, e15])
    ⟨tb, upd_same, _, _, _, _, _, rfl⟩ (fun i σ H' _ h => SqL.of h.2.1) ?_ ?_⟩
  rotate_left
  · rintro σ H' ⟨s', _, v9, v10, v11, v12, v13, rfl⟩
    exact k H'
  rintro i v σ H2 hi ⟨s02, hl2, v9, v10, v11, v12, v13, rfl⟩
  obtain ⟨m, rfl, m0, m1⟩ : ∃ m : Int, v = .int m ∧ 0 ≤ m ∧ m.natAbs < 2 ^ 110 := by
    have mm := List.mem_of_getElem? hi
    simp only [List.mem_cons, List.not_mem_nil, or_false] at mm
    have z : (1 : Nat) < 2 ^ 110 := by decide
    rcases mm with rfl | rfl | rfl | rfl
    · exact ⟨_, rfl, by omega, by rw [Int.natAbs_natCast]; exact b1⟩
    · exact ⟨_, rfl, by omega, by decide⟩
    · exact ⟨_, rfl, by omega, by rw [Int.natAbs_natCast]; exact b2⟩
    · exact ⟨_, rfl, by omega, by decide⟩
  have hb := (hB m m0 m1).mono s02
  have hD2 := s02 _ _ hD
  have hS2 := s02 _ _ hS
  obtain ⟨w1, w2, w3⟩ := bill_parts hb
  have dp := deed_small hb push0
  have dq := deed_small hb pop0
  have pq := wide_lt dp dq
  have w2' : ((ss.length : Int) + 1).natAbs < 2 ^ 10 := by rw [eS]; exact w2
  have w12 := wide_lt w1 w2'
  have w123 := wide_lt w12 w3
  have pqn := wide_lt pq w1
  have pqns := wide_lt pqn w2'
  have pqns1 := wide_lt pqns w3
  have pqns2 := wide_lt pqns1 w3
  clear tb hB
  refine ⟨_, rfl, aD, _, 1, .int n, rfl, rfl, SqL.of hD2, rfl, _, rfl, aS, _, rfl, .inl (SqL.of hS2), _, _, rfl, rfl, _, _, rfl, rfl, wide_mul w1 w2' (by decide) (by decide) (by decide), _, rfl, _, _, rfl, rfl, _, _, rfl, rfl, wide_mul w12 w3 (by decide) (by decide) (by decide), ?_⟩
  refine ⟨_, rfl, _, rfl, _, _, rfl, rfl, wide_mul dp dq (by decide) (by decide) (by decide), _, rfl, aD, _, 1, .int n, rfl, rfl, SqL.of hD2, rfl, _, _, rfl, rfl, wide_mul pq w1 (by decide) (by decide) (by decide), _, rfl, aS, _, rfl, .inl (SqL.of hS2), _, _, rfl, rfl, _, _, rfl, rfl, wide_mul pqn w2' (by decide) (by decide) (by decide), _, rfl, _, _, rfl, rfl, _, _, rfl, rfl, wide_mul pqns w3 (by decide) (by decide) (by decide), _, rfl, _, _, rfl, rfl, _, _, rfl, rfl, wide_mul pqns1 w3 (by decide) (by decide) (by decide), _, rfl, _, _, rfl, rfl, _, _, rfl, rfl, wide_mul pqns2 w3 (by decide) (by decide) (by decide), ?_⟩
  have eSurf : n * ((ss.length : Int) + 1) * (m + 2) = surfN n rs m := by rw [eS]; rfl
  have eJoin : (deedN (rulesOf rs) push0 : Int) * (deedN (rulesOf rs) pop0 : Int) * n * ((ss.length : Int) + 1) * (m + 2) * (m + 2) * (m + 2) = (deedN (rulesOf rs) push0 : Int) * (deedN (rulesOf rs) pop0 : Int) * n * ((symN rs : Int) + 1) * (m + 2) ^ 3 := by
    rw [eS, show (3 : Nat) = 0 + 1 + 1 + 1 from rfl, Int.pow_succ, Int.pow_succ, Int.pow_succ, Int.pow_zero, Int.one_mul, Int.mul_assoc, Int.mul_assoc, Int.mul_assoc (m + 2)]
  have small := surf_small hb
  dsimp only [gName]
  refine ⟨_, rfl, _, rfl, _, _, rfl, rfl, wide_mul (a := 2) (by decide) w123 (by decide) (by decide) (by decide), _, rfl, _, rfl, _, _, rfl, rfl, wide_mul w123 w123 (by decide) (by decide) (by decide), _, rfl, show 4 ≤ sizeLine by decide, fun u nu => ?_⟩
  have tu := same_new (o := HO.tup [V.int (n * ((ss.length : Int) + 1) * (m + 2)), V.int (2 * (n * ((ss.length : Int) + 1) * (m + 2))), V.int (n * ((ss.length : Int) + 1) * (m + 2) * (n * ((ss.length : Int) + 1) * (m + 2))), V.int ((deedN (rulesOf rs) push0 : Int) * (deedN (rulesOf rs) pop0 : Int) * n * ((ss.length : Int) + 1) * (m + 2) * (m + 2) * (m + 2))]) nu
  have hu : (upd H2 u (.tup [V.int (n * ((ss.length : Int) + 1) * (m + 2)), V.int (2 * (n * ((ss.length : Int) + 1) * (m + 2))), V.int (n * ((ss.length : Int) + 1) * (m + 2) * (n * ((ss.length : Int) + 1) * (m + 2))), V.int ((deedN (rulesOf rs) push0 : Int) * (deedN (rulesOf rs) pop0 : Int) * n * ((ss.length : Int) + 1) * (m + 2) * (m + 2) * (m + 2))])) u = some (.tup [V.int (n * ((ss.length : Int) + 1) * (m + 2)), V.int (2 * (n * ((ss.length : Int) + 1) * (m + 2))), V.int (n * ((ss.length : Int) + 1) * (m + 2) * (n * ((ss.length : Int) + 1) * (m + 2))), V.int ((deedN (rulesOf rs) push0 : Int) * (deedN (rulesOf rs) pop0 : Int) * n * ((ss.length : Int) + 1) * (m + 2) * (m + 2) * (m + 2))]) := upd_same
  show (tSeq _ _) _ _ (upd H2 u (.tup [V.int (n * ((ss.length : Int) + 1) * (m + 2)), V.int (2 * (n * ((ss.length : Int) + 1) * (m + 2))), V.int (n * ((ss.length : Int) + 1) * (m + 2) * (n * ((ss.length : Int) + 1) * (m + 2))), V.int ((deedN (rulesOf rs) push0 : Int) * (deedN (rulesOf rs) pop0 : Int) * n * ((ss.length : Int) + 1) * (m + 2) * (m + 2) * (m + 2))]))
  have hb3 := hb.mono tu
  have s03 := s02.trans tu
  have hl3 := tu _ _ hl2
  generalize upd H2 u (.tup [V.int (n * ((ss.length : Int) + 1) * (m + 2)), V.int (2 * (n * ((ss.length : Int) + 1) * (m + 2))), V.int (n * ((ss.length : Int) + 1) * (m + 2) * (n * ((ss.length : Int) + 1) * (m + 2))), V.int ((deedN (rulesOf rs) push0 : Int) * (deedN (rulesOf rs) pop0 : Int) * n * ((ss.length : Int) + 1) * (m + 2) * (m + 2) * (m + 2))]) = H3 at hu hb3 s03 hl3 ⊢
  rw [eSurf, eJoin] at hu
  clear tu nu hb hD2 hS2 w1 w2 w3 dp dq pq w2' w12 w123 pqn pqns pqns1 pqns2 small eSurf eJoin
  have sq : surfN n rs m * surfN n rs m = surfN n rs m ^ 2 := by rw [show (2 : Nat) = 0 + 1 + 1 from rfl, Int.pow_succ, Int.pow_succ, Int.pow_zero, Int.one_mul]
  rw [sq] at hu
  generalize eJ : (deedN (rulesOf rs) push0 : Int) * (deedN (rulesOf rs) pop0 : Int) * n * ((symN rs : Int) + 1) * (m + 2) ^ 3 = jn at hu
  have dp2 : ∀ {Hx : Hp} {q : Addr} {a b : Int}, Hx q = some (.tup [.int a, .int b]) → Dp K Hx (.ref q) (.tuple [.int a, .int b]) := fun h => .tup (.inl (.inl h)) (.cons (.int _) (.cons (.int _) .nil))
  have dp4 : ∀ {Hx : Hp} {q : Addr} {a b c d : Int}, Hx q = some (.tup [.int a, .int b, .int c, .int d]) → Dp K Hx (.ref q) (.tuple [.int a, .int b, .int c, .int d]) := fun h => .tup (.inl (.inl h)) (.cons (.int _) (.cons (.int _) (.cons (.int _) (.cons (.int _) .nil))))
  have do2 : ∀ a b : Int, depthOk 3 (.tuple [.int a, .int b]) := fun a b => ⟨(by show 2 ≤ 100000; decide), fun d md => by
    simp only [List.mem_cons, List.not_mem_nil, or_false] at md
    rcases md with rfl | rfl <;> exact trivial⟩
  have do4 : ∀ a b c d : Int, depthOk 3 (.tuple [.int a, .int b, .int c, .int d]) := fun a b c d => ⟨(by show 4 ≤ 100000; decide), fun d md => by
    simp only [List.mem_cons, List.not_mem_nil, or_false] at md
    rcases md with rfl | rfl | rfl | rfl <;> exact trivial⟩
  -- the first two
  refine ⟨_, rfl, _, rfl, x, n, m, rs, rfl, hb3, _, rfl, _, rfl, x, n, m, rs, rfl, hb3, show 2 ≤ sizeLine by decide, fun p np => ?_⟩
  have tp := same_new (o := HO.tup [V.int (surfN n rs m), V.int (2 * surfN n rs m)]) np
  refine ⟨_, rfl, _, rfl, u, _, rfl, .inl (.inl (tp _ _ hu)), (fun z => absurd z.2 (show ¬ (HT.sIx 4 4 (some 2) = 4) by decide)), fun q nq => ?_⟩
  have tq := same_new (o := HO.tup [V.int (surfN n rs m), V.int (2 * surfN n rs m)]) nq
  refine ⟨_, _, .tuple [.int (surfN n rs m), .int (2 * surfN n rs m)], rfl, dp2 (tq _ _ upd_same), dp2 upd_same, do2 _ _, _, rfl, iteF ?_⟩
  have s34 := tp.trans tq
  have hb4 := hb3.mono s34
  have hu4 := s34 _ _ hu
  have s04 := s03.trans s34
  have hl4 := s34 _ _ hl3
  clear hb3 hu s34 s03
  show (tSeq _ _) _ _ (upd (upd H3 p (.tup [V.int (surfN n rs m), V.int (2 * surfN n rs m)])) q (.tup [V.int (surfN n rs m), V.int (2 * surfN n rs m)]))
  generalize upd (upd H3 p (.tup [V.int (surfN n rs m), V.int (2 * surfN n rs m)])) q (.tup [V.int (surfN n rs m), V.int (2 * surfN n rs m)]) = H4 at hb4 hu4 s04 hl4 ⊢
  clear tp tq np nq
  -- the last two
  refine ⟨_, rfl, _, rfl, x, n, m, rs, rfl, hb4, _, rfl, _, rfl, x, n, m, rs, rfl, hb4, fun H5 s5 => ?_⟩
  rw [eJ]
  refine ⟨show 2 ≤ sizeLine by decide, fun p np => ?_⟩
  have tp := s5.trans (same_new (o := HO.tup [V.int (surfN n rs m ^ 2), V.int jn]) np)
  refine ⟨_, rfl, _, rfl, u, _, rfl, .inl (.inl (tp _ _ hu4)), (fun z => absurd z.1 (show ¬ (HT.sIx 4 0 (some 2) = 0) by decide)), fun q nq => ?_⟩
  have tq := same_new (o := HO.tup [V.int (surfN n rs m ^ 2), V.int jn]) nq
  refine ⟨_, _, .tuple [.int (surfN n rs m ^ 2), .int jn], rfl, dp2 (tq _ _ upd_same), dp2 upd_same, do2 _ _, _, rfl, iteF ?_⟩
  have s34 := tp.trans tq
  have hb6 := hb4.mono s34
  have hu6 := s34 _ _ hu4
  have s06 := s04.trans s34
  have hl6 := s34 _ _ hl4
  show (tSeq _ _) _ _ (upd (upd H5 p (.tup [V.int (surfN n rs m ^ 2), V.int jn])) q (.tup [V.int (surfN n rs m ^ 2), V.int jn]))
  generalize upd (upd H5 p (.tup [V.int (surfN n rs m ^ 2), V.int jn])) q (.tup [V.int (surfN n rs m ^ 2), V.int jn]) = H6 at hb6 hu6 s06 hl6 ⊢
  clear tp tq np nq s34 s5 hb4 hu4 s04
  -- by their names
  refine ⟨_, rfl, _, rfl, rfl, rfl, x, n, m, rs, rfl, hb6, _, rfl, _, rfl, rfl, rfl, x, n, m, rs, rfl, hb6, show 2 ≤ sizeLine by decide, fun p np => ?_⟩
  have tp := same_new (o := HO.tup [V.int (surfN n rs m), V.int (2 * surfN n rs m)]) np
  have hb7 := hb6.mono tp
  refine ⟨_, rfl, _, rfl, _, rfl, rfl, rfl, x, n, m, rs, rfl, hb7, _, rfl, _, rfl, rfl, rfl, x, n, m, rs, rfl, hb7, fun H8 s8 => ?_⟩
  rw [eJ]
  refine ⟨show 2 ≤ sizeLine by decide, fun p2 np2 => ?_⟩
  have tp2 := s8.trans (same_new (o := HO.tup [V.int (surfN n rs m ^ 2), V.int jn]) np2)
  refine ⟨p, p2, _, _, rfl, rfl, .inl (.inl (tp2 _ _ upd_same)), .inl (.inl upd_same), (fun z => nomatch z), show 2 + 2 ≤ sizeLine by decide, (fun z => nomatch z), fun _ q nq => ?_⟩
  have tq := same_new (o := HO.tup ([V.int (surfN n rs m), V.int (2 * surfN n rs m)] ++ [V.int (surfN n rs m ^ 2), V.int jn])) nq
  refine ⟨_, rfl, _, _, .tuple [.int (surfN n rs m), .int (2 * surfN n rs m), .int (surfN n rs m ^ 2), .int jn], rfl, dp4 upd_same, dp4 (tq _ _ (tp2 _ _ (tp _ _ hu6))), do4 _ _ _ _, _, rfl, iteF ?_⟩
  have sF := (tp.trans tp2).trans tq
  exact ⟨s06.trans sF, sF _ _ hl6, _, _, _, _, _, rfl⟩
end
end Mk

set_option Elab.async false
set_option linter.unusedVariables false
set_option maxRecDepth 100000
set_option maxHeartbeats 4000000
namespace Mk
open PySem L2 Pk Sx
def kk (p : Addr × Rl) : List Key := p.2.key
/-- the first ones of a row by their keys -/
structure Firsts (B L : Kept) : Prop where
  nd : (L.map kk).Nodup
  mem : ∀ c, c ∈ L.map kk ↔ c ∈ B.map kk
  sub : ∀ p ∈ L, p ∈ B
  len : L.length ≤ B.length
theorem Firsts.nil : Firsts [] [] := ⟨List.nodup_nil, fun c => Iff.rfl, fun p m => m, Nat.le_refl _⟩
theorem Firsts.old {B L : Kept} {p : Addr × Rl} (h : Firsts B L) (m : kk p ∈ B.map kk) : Firsts (B ++ [p]) L := by
  refine ⟨h.nd, fun c => ?_, fun q mq => List.mem_append_left _ (h.sub q mq), ?_⟩
  · rw [h.mem c, List.map_append, List.mem_append]
    refine ⟨.inl, fun z => z.elim id fun z => ?_⟩
    rw [List.mem_singleton.mp z]
    exact m
  · rw [List.length_append]
    exact Nat.le_trans h.len (Nat.le_add_right _ _)
theorem Firsts.new {B L : Kept} {p : Addr × Rl} (h : Firsts B L) (m : kk p ∉ B.map kk) : Firsts (B ++ [p]) (L ++ [p]) := by
  refine ⟨?_, fun c => ?_, fun q mq => ?_, ?_⟩
  · rw [List.map_append]
    refine List.nodup_append.mpr ⟨h.nd, List.pairwise_singleton _ _, fun a ma b mb e => ?_⟩
    rw [List.mem_singleton.mp mb] at e
    exact m (e ▸ (h.mem a).mp ma)
  · rw [List.map_append, List.map_append, List.mem_append, List.mem_append, h.mem c]
  · rcases List.mem_append.mp mq with mq | mq
    · exact List.mem_append_left _ (h.sub q mq)
    · exact List.mem_append_right _ mq
  · rw [List.length_append, List.length_append]
    exact Nat.add_le_add_right h.len _
theorem firsts_perm {B L : Kept} (h : Firsts B L) {rs : List Rl} (hm : ∀ r, r ∈ rs ↔ r ∈ B.map (·.2)) : (L.map (·.2)).Perm (rulesOf rs) := by
  have n1 : (L.map (·.2)).Nodup := by
    have z := h.nd
    have e : L.map kk = (L.map (·.2)).map Rl.key := by rw [List.map_map] <;> rfl
    rw [e] at z
    exact List.Pairwise.of_map _ (fun a b ne e => ne (by rw [e])) z
  have n2 : (rulesOf rs).Nodup := by
    have z : ((rulesOf rs).map Rl.key).Nodup := by rw [rulesOf_keys]; exact asc_nodup _ _
    exact List.Pairwise.of_map _ (fun a b ne e => ne (by rw [e])) z
  refine (List.perm_ext_iff_of_nodup n1 n2).mpr fun r => ?_
  rw [rulesOf_mem, hm]
  constructor
  · intro m
    obtain ⟨p, mp, e⟩ := List.mem_map.mp m
    exact List.mem_map.mpr ⟨p, h.sub p mp, e⟩
  · intro m
    obtain ⟨p, mp, e⟩ := List.mem_map.mp m
    obtain ⟨q, mq, eq⟩ := List.mem_map.mp ((h.mem (kk p)).mpr (List.mem_map.mpr ⟨p, mp, rfl⟩))
    refine List.mem_map.mpr ⟨q, mq, ?_⟩
    rw [← e]
    exact key_inj eq
theorem firsts_deed {B L : Kept} (h : Firsts B L) {rs : List Rl} (hm : ∀ r, r ∈ rs ↔ r ∈ B.map (·.2)) (d : PySem.Str) : (L.filter fun p => decide (p.2.de = d)).length = deedN (rulesOf rs) d := by
  have gen : ∀ R : Kept, (R.filter fun p => decide (p.2.de = d)).length = ((R.map (·.2)).filter fun r => decide (r.de = d)).length := by
    intro R
    induction R with
    | nil => rfl
    | cons p R ih =>
      rw [List.map_cons, List.filter_cons, List.filter_cons]
      by_cases c : decide (p.2.de = d) = true
      · rw [if_pos c, if_pos c, List.length_cons, List.length_cons, ih]
      · rw [if_neg c, if_neg c, ih]
  rw [gen L]
  exact ((firsts_perm h hm).filter _).length_eq
def symF (L : Kept) : List PySem.Str := (L.map fun p => p.2.tp) ++ (L.map fun p => p.2.sy)
theorem firsts_syms {B L : Kept} (h : Firsts B L) {rs : List Rl} (hm : ∀ r, r ∈ rs ↔ r ∈ B.map (·.2)) {S : List PySem.Str} (nS : S.Nodup) (mS : ∀ c, c ∈ S ↔ c ∈ symF L ∧ c ≠ nil0) : S.length = symN rs := by
  unfold symN
  rw [syms_same]
  refine List.Perm.length_eq ((List.perm_ext_iff_of_nodup nS (asc_nodup _ _)).mpr fun c => ?_)
  have inL : ∀ r : Rl, r ∈ rs ↔ r ∈ L.map (·.2) := fun r => by
    rw [(firsts_perm h hm).mem_iff, rulesOf_mem]
  rw [mS, asc_mem, List.mem_filter, List.mem_append]
  unfold symF
  rw [List.mem_append]
  have tp : c ∈ (L.map fun p => p.2.tp) ↔ c ∈ rs.map Rl.tp := by
    rw [List.mem_map, List.mem_map]
    constructor
    · rintro ⟨p, m, e⟩
      exact ⟨p.2, (inL _).mpr (List.mem_map.mpr ⟨p, m, rfl⟩), e⟩
    · rintro ⟨r, m, e⟩
      obtain ⟨p, mp, ep⟩ := List.mem_map.mp ((inL r).mp m)
      exact ⟨p, mp, by rw [ep]; exact e⟩
  have sy : c ∈ (L.map fun p => p.2.sy) ↔ c ∈ rs.map Rl.sy := by
    rw [List.mem_map, List.mem_map]
    constructor
    · rintro ⟨p, m, e⟩
      exact ⟨p.2, (inL _).mpr (List.mem_map.mpr ⟨p, m, rfl⟩), e⟩
    · rintro ⟨r, m, e⟩
      obtain ⟨p, mp, ep⟩ := List.mem_map.mp ((inL r).mp m)
      exact ⟨p, mp, by rw [ep]; exact e⟩
  rw [tp, sy, decide_eq_true_eq]
theorem inV_str (f : PySem.Str) (xs : List PySem.Str) : inV (.str f) (xs.map V.str) = decide (f ∈ xs) := by
  unfold inV
  rw [List.any_map]
  induction xs with
  | nil => rfl
  | cons x xs ih =>
    rw [List.any_cons, ih]
    show ((x == f) || decide (f ∈ xs)) = _
    by_cases c : x = f
    · rw [c, decide_eq_true (List.mem_cons_self)]
      simp
    · have n : (x == f) = false := Bool.eq_false_iff.mpr fun z => c (beq_iff_eq.mp z)
      rw [n, Bool.false_or]
      by_cases d : f ∈ xs
      · rw [decide_eq_true d, decide_eq_true (List.mem_cons_of_mem _ d)]
      · rw [decide_eq_false d, decide_eq_false fun z => (List.mem_cons.mp z).elim (fun z => c z.symm) d]
theorem any_rules (B : Kept) (r : Rl) : (B.map fun p => rowD false p.2).any (fun z => PyData.eqv z (.tuple (r.key.map keyD))) = true ↔ r.key ∈ B.map kk := by
  rw [List.any_eq_true]
  constructor
  · rintro ⟨x, mx, e⟩
    obtain ⟨p, mp, rfl⟩ := List.mem_map.mp mx
    have z : PyData.eqv (.tuple (p.2.key.map keyD)) (.tuple (r.key.map keyD)) = true := e
    rw [eqv_keys] at z
    exact List.mem_map.mpr ⟨p, mp, of_decide_eq_true z⟩
  · intro m
    obtain ⟨p, mp, e⟩ := List.mem_map.mp m
    refine ⟨_, List.mem_map.mpr ⟨p, mp, rfl⟩, ?_⟩
    show PyData.eqv (.tuple (p.2.key.map keyD)) (.tuple (r.key.map keyD)) = true
    rw [eqv_keys]
    exact decide_eq_true e
theorem dpa_rows {K : PySem.W.Frag} {H : Hp} : ∀ {R : Kept}, KeptAt H R → DpAll K H (refsK R) (R.map fun p => rowD false p.2)
  | [], _ => .nil
  | p :: R, h => .cons (dp_keys (k := p.2.key) (h p List.mem_cons_self)) (dpa_rows fun q m => h q (List.mem_cons_of_mem _ m))
theorem shaped_kept {l : PySem.Str} {n : Int} {B : Kept} (al : Alpha l) (ok : ∀ p ∈ B, RlOk l n p.2) : SeqAt.shaped (.list (B.map fun p => rowD false p.2)) = true := by
  have e : (B.map fun p => rowD false p.2) = (B.map fun p => (false, p.2)).map fun q => rowD q.1 q.2 := by rw [List.map_map] <;> rfl
  rw [e]
  refine (shaped_rows (rs := B.map fun p => (false, p.2)) fun q mq => ?_).1
  obtain ⟨p, mp, rfl⟩ := List.mem_map.mp mq
  exact rl_ok al (ok p mp)
/-- what a generator of machines has drawn, or a machine without rules -/
structure DrawnAt (H : Hp) (p : Addr) (l : PySem.Str) (n : Int) (aR aY : Addr) (B : Kept) (ys : List Int) : Prop where
  at_ : H p = some (.lst [.str l, .int n, .ref aR, .ref aY])
  al : Alpha l
  n1 : 1 ≤ n
  n30 : n ≤ 30
  rAt : H aR = some (.lst (refsK B))
  kept : KeptAt H B
  ok : ∀ p ∈ B, RlOk l n p.2
  few : B.length ≤ 400
  yAt : H aY = some (.lst (ys.map V.int))
  yIn : ∀ y ∈ ys, 0 ≤ y ∧ y ≤ n - 1
  yFew : ys.length ≤ 5
theorem DrawnAt.mono {H H' : Hp} {p : Addr} {l : PySem.Str} {n : Int} {aR aY : Addr} {B : Kept} {ys : List Int} (h : DrawnAt H p l n aR aY B ys) (s : Same H H') : DrawnAt H' p l n aR aY B ys :=
  ⟨s _ _ h.at_, h.al, h.n1, h.n30, s _ _ h.rAt, fun p m => s _ _ (h.kept p m), h.ok, h.few, s _ _ h.yAt, h.yIn, h.yFew⟩
end Mk

set_option Elab.async false
set_option linter.unusedVariables false
set_option maxRecDepth 100000
set_option maxHeartbeats 16000000
namespace Mk
open PySem L2 Pk
section
variable {P : Program} {w : World} {K : PySem.W.Frag} {mg : PySem.Str → Option Value} {base : Heap}
theorem law_Y {f : Addr} {C fI e0 : Addr} {fdI : FuncData} (T : TM mg) (G : LawDefs P w K mg base) (M : MDef P w K mg base C fI e0 fdI) (cdv : Value) (A : Around) (outer : List Env) (s : Shared) (H : Hp) (E : XK)
    (hr : Room 7 (A.deeper (PyProof.Rows.envOfC "law" (defScope sLaw) s.heap.objs.size f cdv))) :
    ∃ t : TS, PSs (cxOf CX0 P w K mg base nLaw "law" (defScope sLaw) f cdv A outer s H E).nox ((defBody sLaw).drop 4) t ∧
      ∀ (D : Ends) (k : ∀ H', D.rt (.bl true) H') (H1 : Hp) (sc aRow aD aR aY : Addr) (row ys : List Int) (d1 d2 : Nat) (l : PySem.Str) (n : Int) (B : Kept) (e3 e4 e5 e6 e7 e8 e9 e10 e11 e12 e13 e14 e15 : Option V),
        H1 aRow = some (.lst (row.map V.int)) → row[1]? = some (d1 : Int) → row[2]? = some (d2 : Int) → d1 < 2 ^ 110 → d2 < 2 ^ 110 → DrawnAt H1 aD l n aR aY B ys →
        t D [some (.ref sc), some (.ref aRow), some (.ref aD), e3, e4, e5, e6, e7, e8, e9, e10, e11, e12, e13, e14, e15] H1 := by
  have nd := scLaw.nd
  have hu64 : (A.deeper (PyProof.Rows.envOfC "law" (defScope sLaw) s.heap.objs.size f cdv)).units + 65 < cLine := by have := hr.un; omega
  obtain ⟨tZ, hZ, kZ⟩ := law_Z (f := f) T G cdv A outer s H E hr
  refine ⟨_, (pss_cons (ps_setLc (i := 3) (own := [("k", 14)]) (g := gName 14) (by rfl) nd rfl rfl (sw_true rfl rfl rfl (by decide +kernel)) (pi_range1 (by rfl) T.range (pa_cons (pe_callB call_len_seq (by rfl) T.len PySem.boot_len (pa_cons (pe_ix ix_list (pv 2) pe_int fun _ _ => rfl) pa_nil)) pa_nil)) (blkOk_by (own := [("k", 14)]) (N := nLaw) (sc := defScope sLaw) (by decide +kernel)) (fun _ _ _ _ _ => pg_name (i := 14) nd rfl (Or.inl rfl)) (fun _ _ _ _ _ => pts_one (pt_cmpR (r := rNotInD K) (op_notInD hu64) (pe_ix (r := rIxL K) ix_list (pe_ix (r := rIxL K) ix_list (pv 2) pe_int fun _ _ => rfl) (pv 14) fun _ _ => rfl) (pe_slice (r := rSlL K) sl_list (pe_ix (r := rIxL K) ix_list (pv 2) pe_int fun _ _ => rfl) po_none (po_some (pv 14))) rfl)) (fun _ _ _ _ _ => (pe_ix (r := rIxL K) ix_list (pe_ix (r := rIxL K) ix_list (pv 2) pe_int fun _ _ => rfl) (pv 14) fun _ _ => rfl)))
      (pss_cons (ps_set (i := 4) nd rfl (Or.inr rfl) (pe_op op_cat (pe_lc (own := [("rule", 15)]) (g := gName 15) (tt := tYes) (by rfl) nd (pi_list (pv 3)) (blkOk_by (own := [("rule", 15)]) (N := nLaw) (sc := defScope sLaw) (by decide +kernel)) (fun _ _ _ _ _ => pg_name (i := 15) nd rfl (Or.inl rfl)) (fun _ _ _ _ _ => pts_nil) (fun _ _ _ _ _ => (pe_ix (r := rIxT K) ix_tup (pv 15) pe_int fun _ _ => rfl))) (pe_lc (own := [("rule", 15)]) (g := gName 15) (tt := tYes) (by rfl) nd (pi_list (pv 3)) (blkOk_by (own := [("rule", 15)]) (N := nLaw) (sc := defScope sLaw) (by decide +kernel)) (fun _ _ _ _ _ => pg_name (i := 15) nd rfl (Or.inl rfl)) (fun _ _ _ _ _ => pts_nil) (fun _ _ _ _ _ => (pe_ix (r := rIxT K) ix_tup (pv 15) pe_int fun _ _ => rfl)))))
      (pss_cons (ps_setLc (i := 5) (own := [("k", 14)]) (g := gName 14) (by rfl) nd rfl rfl (sw_true rfl rfl rfl (by decide +kernel)) (pi_range1 (by rfl) T.range (pa_cons (pe_callB call_len_seq (by rfl) T.len PySem.boot_len (pa_cons (pv 4) pa_nil)) pa_nil)) (blkOk_by (own := [("k", 14)]) (N := nLaw) (sc := defScope sLaw) (by decide +kernel)) (fun _ _ _ _ _ => pg_name (i := 14) nd rfl (Or.inl rfl)) (fun _ _ _ _ _ => pts_one (PW.pt (pw_and (pt_cmpR op_ne (pe_ix (r := rIxL K) ix_list (pv 4) (pv 14) fun _ _ => rfl) pe_str (nomark _)) (pw_and1 (pt_cmpR (r := rIn K true) op_notIn_seq (pe_ix (r := rIxL K) ix_list (pv 4) (pv 14) fun _ _ => rfl) (pe_slice (r := rSlL K) sl_list (pv 4) po_none (po_some (pv 14))) rfl))))) (fun _ _ _ _ _ => (pe_ix (r := rIxL K) ix_list (pv 4) (pv 14) fun _ _ => rfl)))
      (pss_cons (ps_set (i := 6) nd rfl (Or.inl rfl) (pe_make M.maker M.init hr (by rfl) M.name M.b4 .nil pass0 (pa_cons (pe_ix ix_list (pv 2) pe_int fun _ _ => rfl) (pa_cons (pe_ix ix_list (pv 2) pe_int fun _ _ => rfl) (pa_cons (pe_op op_cat (pe_ix ix_list (pv 2) pe_int fun _ _ => rfl) (pe_slice sl_list (pe_ix ix_list (pv 2) pe_int fun _ _ => rfl) po_none (po_some pe_int))) (pa_cons (pe_ix ix_list (pv 2) pe_int fun _ _ => rfl) pa_nil))))))
      (pss_cons (ps_set (i := 7) nd rfl (Or.inl rfl) (pe_callB call_len_seq (by rfl) T.len PySem.boot_len (pa_cons (pe_lc (own := [("rule", 15)]) (g := gName 15) (by rfl) nd (pi_list (pv 3)) (blkOk_by (own := [("rule", 15)]) (N := nLaw) (sc := defScope sLaw) (by decide +kernel)) (fun _ _ _ _ _ => pg_name (i := 15) nd rfl (Or.inl rfl)) (fun _ _ _ _ _ => pts_one (pt_cmpR op_eq (pe_ix (r := rIxT K) ix_tup (pv 15) pe_int fun _ _ => rfl) pe_str (nomark _))) (fun _ _ _ _ _ => (pv 15))) pa_nil)))
      (pss_cons (ps_set (i := 8) nd rfl (Or.inl rfl) (pe_callB call_len_seq (by rfl) T.len PySem.boot_len (pa_cons (pe_lc (own := [("rule", 15)]) (g := gName 15) (by rfl) nd (pi_list (pv 3)) (blkOk_by (own := [("rule", 15)]) (N := nLaw) (sc := defScope sLaw) (by decide +kernel)) (fun _ _ _ _ _ => pg_name (i := 15) nd rfl (Or.inl rfl)) (fun _ _ _ _ _ => pts_one (pt_cmpR op_eq (pe_ix (r := rIxT K) ix_tup (pv 15) pe_int fun _ _ => rfl) pe_str (nomark _))) (fun _ _ _ _ _ => (pv 15))) pa_nil)))
      hZ)))))), ?_⟩
  intro D k H1 sc aRow aD aR aY row ys d1 d2 l n B e3 e4 e5 e6 e7 e8 e9 e10 e11 e12 e13 e14 e15 hRow er1 er2 b1 b2 dr
  have lB : (refsK B).length = B.length := List.length_map ..
  have few := dr.few
  have size : ∀ {k : Nat}, k ≤ 2000 → k < sizeLine := fun h => Nat.lt_of_le_of_lt h (by decide)
  -- the rules, each once
  refine ⟨_, rfl, aD, _, 2, .ref aR, rfl, rfl, SqL.of dr.at_, rfl, aR, _, rfl, .inl (SqL.of dr.rAt), _, rfl, by omega, by omega, fun aL nL => lc_range (lo := 0) (n := (((refsK B).length : Nat) : Int).toNat) (fun i H' => Same H1 H' ∧ ∃ L : Kept, H' aL = some (.lst (refsK L)) ∧ Firsts (B.take i) L) ⟨same_new nL, [], upd_same, Firsts.nil⟩ ?_ ?_⟩
  · rintro i H2 hi ⟨s2, L, hL, FL⟩
    have i' : i < B.length := by omega
    obtain ⟨p, ep⟩ : ∃ p, B[i]? = some p := ⟨_, List.getElem?_eq_getElem i'⟩
    have mp := List.mem_of_getElem? ep
    have d2' := dr.mono s2
    have atR : atI (refsK B) (0 + (i : Int)) = some (.ref p.1) := by
      rw [show (0 : Int) + (i : Int) = ((i : Nat) : Int) by omega]
      refine atI_nat ?_
      unfold refsK
      rw [List.getElem?_map, ep] <;> rfl
    refine ⟨rfl, ?_⟩
    refine ⟨_, rfl, aD, _, 2, .ref aR, rfl, rfl, SqL.of d2'.at_, rfl, _, rfl, aR, _, _, .ref p.1, rfl, rfl, SqL.of d2'.rAt, atR, _, rfl, aD, _, 2, .ref aR, rfl, rfl, SqL.of d2'.at_, rfl, _, rfl, _, rfl, aR, _, rfl, SqL.of d2'.rAt, fun q nq => ?_⟩
    have cutE : cutV (refsK B) none (some (0 + (i : Int))) = refsK (B.take i) := by
      rw [show (0 : Int) + (i : Int) = ((i : Nat) : Int) by omega, cut_take, refs_take]
    rw [cutE]
    have tq := same_new (o := HO.lst (refsK (B.take i))) nq
    have kq : KeptAt (upd H2 q (.lst (refsK (B.take i)))) (B.take i) := fun p m => tq _ _ (d2'.kept p (List.mem_of_mem_take m))
    refine ⟨.tuple (p.2.key.map keyD), _, dp_keys (k := p.2.key) (tq _ _ (d2'.kept p mp)), .lst (SqL.of upd_same) (dpa_rows kq), shaped_keys (rl_ok dr.al (dr.ok p mp)), shaped_kept dr.al (fun p m => dr.ok p (List.mem_of_mem_take m)), _, rfl, ite2 (fun c => ?_) (fun c => ?_)⟩
    · have new : kk p ∉ (B.take i).map kk := fun z => by
        rw [(any_rules (B.take i) p.2).mpr z] at c
        cases c
      refine ⟨_, rfl, aD, _, 2, .ref aR, rfl, rfl, SqL.of (tq _ _ d2'.at_), rfl, _, rfl, aR, _, _, .ref p.1, rfl, rfl, SqL.of (tq _ _ d2'.rAt), atR, _, tq _ _ hL, ?_, same_mut (s2.trans tq) nL, L ++ [p], ?_, ?_⟩
      · unfold refsK
        rw [List.length_map]
        have := FL.len
        rw [List.length_take] at this
        exact size (by omega)
      · rw [upd_same]
        unfold refsK
        rw [List.map_append] <;> rfl
      · rw [take_at ep]
        exact FL.new new
    · have old : kk p ∈ (B.take i).map kk := by
        refine (any_rules (B.take i) p.2).mp ?_
        cases z : (B.take i).map (fun p => rowD false p.2) |>.any (fun z => PyData.eqv z (.tuple (p.2.key.map keyD))) with
        | true => rfl
        | false => exact absurd (by rw [z] <;> rfl) c
      refine ⟨s2.trans tq, L, tq _ _ hL, ?_⟩
      rw [take_at ep]
      exact FL.old old
  rintro H2 ⟨s2, L, hL, FL⟩
  have full : B.take ((((refsK B).length : Nat) : Int).toNat) = B := List.take_of_length_le (by omega)
  rw [full] at FL
  have lenL := FL.len
  have lLr : (refsK L).length = L.length := List.length_map ..
  have d2' := dr.mono s2
  have kL : KeptAt H2 L := fun p m => d2'.kept p (FL.sub p m)
  -- what stands in them
  refine ⟨_, rfl, aL, rfl, ⟨_, SqL.of hL⟩, fun D1 n1 => lc_list (K := K) (a := aL) (xs := refsK L) (fun i H' => Same H2 H' ∧ H' D1 = some (.lst (((L.take i).map fun p => p.2.tp).map V.str)))
      ⟨same_new n1, upd_same⟩ (fun i H' _ h => SqL.of (h.1 _ _ hL)) ?_ ?_⟩
  · rintro i x H3 hi ⟨s3, hD⟩
    obtain ⟨p, ep, rfl⟩ := at_refs hi
    refine ⟨rfl, ?_⟩
    refine ⟨_, rfl, p.1, p.2.vs, 2, .str p.2.tp, rfl, rfl, .inl (.inl (s3 _ _ (kL p (List.mem_of_getElem? ep)))), rfl, _, hD, ?_, same_mut s3 n1, ?_⟩
    · rw [List.length_map, List.length_map, List.length_take]
      exact size (by omega)
    · rw [upd_same, take_at ep, List.map_append, List.map_append] <;> rfl
  rintro H3 ⟨s3, hD1⟩
  rw [lLr, List.take_of_length_le (Nat.le_refl _)] at hD1
  refine ⟨_, rfl, aL, rfl, ⟨_, SqL.of (s3 _ _ hL)⟩, fun D2 n2 => lc_list (K := K) (a := aL) (xs := refsK L) (fun i H' => Same H3 H' ∧ H' D2 = some (.lst (((L.take i).map fun p => p.2.sy).map V.str)))
      ⟨same_new n2, upd_same⟩ (fun i H' _ h => SqL.of (h.1 _ _ (s3 _ _ hL))) ?_ ?_⟩
  · rintro i x H4 hi ⟨s4, hD⟩
    obtain ⟨p, ep, rfl⟩ := at_refs hi
    refine ⟨rfl, ?_⟩
    refine ⟨_, rfl, p.1, p.2.vs, 6, .str p.2.sy, rfl, rfl, .inl (.inl (s4 _ _ (s3 _ _ (kL p (List.mem_of_getElem? ep))))), rfl, _, hD, ?_, same_mut s4 n2, ?_⟩
    · rw [List.length_map, List.length_map, List.length_take]
      exact size (by omega)
    · rw [upd_same, take_at ep, List.map_append, List.map_append] <;> rfl
  rintro H4 ⟨s4, hD2⟩
  rw [lLr, List.take_of_length_le (Nat.le_refl _)] at hD2
  refine ⟨D1, D2, _, _, rfl, rfl, s4 _ _ hD1, hD2, ?_, fun aF nF => ?_⟩
  · rw [List.length_map, List.length_map, List.length_map, List.length_map]
    exact Nat.le_of_lt (size (by omega))
  have eF : (((L.map fun p => p.2.tp).map V.str) ++ ((L.map fun p => p.2.sy).map V.str)) = (symF L).map V.str := by
    unfold symF
    rw [List.map_append]
  rw [eF]
  have lF : (symF L).length ≤ 800 := by
    unfold symF
    rw [List.length_append, List.length_map, List.length_map]
    omega
  have s5 := (s3.trans s4).trans (same_new (o := HO.lst ((symF L).map V.str)) nF)
  have hF : (upd H4 aF (.lst ((symF L).map V.str))) aF = some (.lst ((symF L).map V.str)) := upd_same
  dsimp only [gName]
  show (tSeq _ _) _ _ (upd H4 aF (.lst ((symF L).map V.str)))
  generalize upd H4 aF (.lst ((symF L).map V.str)) = H5 at s5 hF ⊢
  generalize hFs : symF L = Fs at lF hF
  have lFv : (Fs.map V.str).length = Fs.length := List.length_map ..
  have d5 := d2'.mono s5
  have hL5 := s5 _ _ hL
  have kL5 : KeptAt H5 L := fun p m => s5 _ _ (kL p m)
  have hRow5 := s5 _ _ (s2 _ _ hRow)
  clear s2 s3 s4 s5 nF n1 n2 hD1 hD2 hL kL d2' dr hRow nL
  -- the symbols
  refine ⟨_, rfl, aF, _, rfl, .inl (SqL.of hF), _, rfl, by omega, by omega, fun aS nS => lc_range (lo := 0) (n := (((Fs.map V.str).length : Nat) : Int).toNat) (fun i H' => Same H5 H' ∧ ∃ S : List PySem.Str, H' aS = some (.lst (S.map V.str)) ∧ S.Nodup ∧ S.length ≤ i ∧ ∀ c, c ∈ S ↔ c ∈ Fs.take i ∧ c ≠ nil0)
    ⟨same_new nS, [], upd_same, List.nodup_nil, Nat.le_refl _, fun c => by simp⟩ ?_ ?_⟩
  · rintro i H6 hi ⟨s6, S, hS, nodS, lenS, memS⟩
    have i' : i < Fs.length := by omega
    obtain ⟨g, eg⟩ : ∃ g, Fs[i]? = some g := ⟨_, List.getElem?_eq_getElem i'⟩
    have atF : atI (Fs.map V.str) (0 + (i : Int)) = some (.str g) := by
      rw [show (0 : Int) + (i : Int) = ((i : Nat) : Int) by omega]
      exact atI_nat (by rw [List.getElem?_map, eg] <;> rfl)
    have hF6 := s6 _ _ hF
    refine ⟨rfl, ?_⟩
    have keep : ∀ {X : Hp}, Same H6 X → (g = nil0 ∨ g ∈ Fs.take i) → Same H5 X ∧ ∃ S : List PySem.Str, X aS = some (.lst (S.map V.str)) ∧ S.Nodup ∧ S.length ≤ i + 1 ∧ ∀ c, c ∈ S ↔ c ∈ Fs.take (i + 1) ∧ c ≠ nil0 := fun {X} sX why => by
      refine ⟨s6.trans sX, S, sX _ _ hS, nodS, Nat.le_succ_of_le lenS, fun c => ?_⟩
      rw [memS c, take_at eg, List.mem_append, List.mem_singleton]
      constructor
      · rintro ⟨a, b⟩
        exact ⟨.inl a, b⟩
      · rintro ⟨a | a, b⟩
        · exact ⟨a, b⟩
        · rcases why with z | z
          · exact absurd (a.trans z) b
          · exact ⟨a ▸ z, b⟩
    refine ⟨_, rfl, _, rfl, aF, _, _, .str g, rfl, rfl, SqL.of hF6, atF, rfl, _, rfl, ite2 (fun c => ?_) (fun c => ?_)⟩
    · have gne : g ≠ nil0 := fun z => by rw [z] at c; exact absurd c (by decide)
      refine ⟨_, rfl, _, rfl, aF, _, _, .str g, rfl, rfl, SqL.of hF6, atF, _, rfl, _, rfl, _, rfl, aF, _, rfl, SqL.of hF6, fun q nq => ?_⟩
      have cutE : cutV (Fs.map V.str) none (some (0 + (i : Int))) = (Fs.take i).map V.str := by
        rw [show (0 : Int) + (i : Int) = ((i : Nat) : Int) by omega, cut_take, List.map_take]
      rw [cutE]
      have tq := same_new (o := HO.lst ((Fs.take i).map V.str)) nq
      refine ⟨q, _, rfl, .inl (SqL.of upd_same), rfl, ?_, _, rfl, ?_⟩
      · rw [List.all_map]
        exact List.all_eq_true.mpr fun x m => rfl
      rw [inV_str]
      refine ite2 (fun c2 => ?_) (fun c2 => ?_)
      · have out : g ∉ Fs.take i := fun z => by
          rw [decide_eq_true z] at c2
          cases c2
        refine ⟨_, rfl, _, rfl, aF, _, _, .str g, rfl, rfl, SqL.of (tq _ _ hF6), atF, _, tq _ _ hS, ?_, same_mut (s6.trans tq) nS, S ++ [g], ?_, ?_, ?_, fun x => ?_⟩
        · rw [List.length_map]
          exact size (by omega)
        · rw [upd_same, List.map_append] <;> rfl
        · refine List.nodup_append.mpr ⟨nodS, List.pairwise_singleton _ _, fun a ma b mb e => ?_⟩
          rw [List.mem_singleton.mp mb] at e
          exact out (e ▸ ((memS a).mp ma).1)
        · rw [List.length_append]
          exact Nat.add_le_add_right lenS 1
        · rw [List.mem_append, memS x, take_at eg, List.mem_append, List.mem_singleton]
          constructor
          · rintro (⟨a, b⟩ | a)
            · exact ⟨.inl a, b⟩
            · exact ⟨.inr a, a ▸ gne⟩
          · rintro ⟨a | a, b⟩
            · exact .inl ⟨a, b⟩
            · exact .inr a
      · have in_ : g ∈ Fs.take i := Classical.byContradiction fun z => c2 (by rw [decide_eq_false z] <;> rfl)
        exact keep tq (.inr in_)
    · have gz : g = nil0 := Classical.byContradiction fun z => c (by
        show (!decide (V.str g = V.str nil0)) = true
        rw [decide_eq_false (fun q => z (V.str.inj q))] <;> rfl)
      exact keep (Same.refl _) (.inl gz)
  rintro H6 ⟨s6, S, hS, nodS, lenS, memS⟩
  have fullF : Fs.take ((((Fs.map V.str).length : Nat) : Int).toNat) = Fs := List.take_of_length_le (by omega)
  rw [fullF, ← hFs] at memS
  have d6 := d5.mono s6
  have hL6 := s6 _ _ hL5
  have kL6 : KeptAt H6 L := fun p m => s6 _ _ (kL5 p m)
  have hRow6 := s6 _ _ hRow5
  have lenS' : S.length ≤ 800 := by omega
  clear s6 hL5 kL5 hRow5 d5 hF fullF lenS
  -- the machine
  have fewT : (B.take 3).length ≤ 3 := by rw [List.length_take]; exact Nat.min_le_left _ _
  have d6at := d6.at_
  refine ⟨_, rfl, aD, _, 0, .str l, rfl, rfl, SqL.of d6.at_, rfl, _, rfl, aD, _, 1, .int n, rfl, rfl, SqL.of d6.at_, rfl, _, rfl, aD, _, 2, .ref aR, rfl, rfl, SqL.of d6.at_, rfl, _, rfl, aD, _, 2, .ref aR, rfl, rfl, SqL.of d6.at_, rfl, _, rfl, aR, _, rfl, SqL.of d6.rAt, fun q nq => ?_⟩
  have cutE : cutV (refsK B) none (some 3) = refsK (B.take 3) := by
    have c := cut_take (xs := refsK B) (b := 3)
    rw [refs_take] at c
    exact c
  rw [cutE]
  have tq := same_new (o := HO.lst (refsK (B.take 3))) nq
  refine ⟨aR, q, _, _, rfl, rfl, tq _ _ d6.rAt, upd_same, ?_, fun a2 na2 => ?_⟩
  · unfold refsK
    rw [List.length_map, List.length_map]
    exact Nat.le_of_lt (size (by omega))
  have eApp : refsK B ++ refsK (B.take 3) = refsK (B ++ B.take 3) := by
    unfold refsK
    rw [List.map_append]
  rw [eApp]
  have ta := tq.trans (same_new (o := HO.lst (refsK (B ++ B.take 3))) na2)
  have ha2 : (upd (upd H6 q (.lst (refsK (B.take 3)))) a2 (.lst (refsK (B ++ B.take 3)))) a2 = some (.lst (refsK (B ++ B.take 3))) := upd_same
  generalize upd (upd H6 q (.lst (refsK (B.take 3)))) a2 (.lst (refsK (B ++ B.take 3))) = H7 at ta ha2 ⊢
  have d7 := d6.mono ta
  refine ⟨_, rfl, aD, _, 3, .ref aY, rfl, rfl, SqL.of d7.at_, rfl, fun x dx nx ndx ne => ?_⟩
  have memT : ∀ p, p ∈ B ++ B.take 3 ↔ p ∈ B := fun p => by
    rw [List.mem_append]
    exact ⟨fun z => z.elim id List.mem_of_mem_take, .inl⟩
  have RT : Right K H7 l n a2 aY true true ((B ++ B.take 3).map fun p => (p.1, false, p.2)) ys := {
    args := {
      alpha := d7.al
      num := ⟨d7.n1, by have := d7.n30; omega⟩
      rs := by
        refine SqL.of ?_
        rw [ha2]
        unfold refsH refsK
        rw [List.map_map] <;> rfl
      hand := {
        at_ := fun p mp => by
          obtain ⟨r, mr, rfl⟩ := List.mem_map.mp mp
          exact .inl (.inl (d7.kept r ((memT r).mp mr)))
        ok := fun p mp => by
          obtain ⟨r, mr, rfl⟩ := List.mem_map.mp mp
          exact d7.ok r ((memT r).mp mr)
        most := by rw [List.length_map, List.length_append]; omega }
      yes := SqL.of d7.yAt
      in_ := d7.yIn
      few := by have := d7.yFew; omega }
    raw := fun p mp _ => by
      obtain ⟨r, mr, rfl⟩ := List.mem_map.mp mp
      exact d7.kept r ((memT r).mp mr)
    few := by rw [List.length_map, List.length_append]; omega
    fewY := by have := d7.yFew; omega }
  refine made_as nx ndx rfl RT fun H8 s8 hM => ⟨rfl, ?_⟩
  generalize hrs : rsOf ((B ++ B.take 3).map fun p => (p.1, false, p.2)) = rs at hM
  have mrs : ∀ r, r ∈ rs ↔ r ∈ B.map (·.2) := fun r => by
    rw [← hrs]
    unfold rsOf
    rw [List.map_map, List.mem_map, List.mem_map]
    constructor
    · rintro ⟨p, mp, e⟩
      exact ⟨p, (memT p).mp mp, e⟩
    · rintro ⟨p, mp, e⟩
      exact ⟨p, (memT p).mpr mp, e⟩
  have lrs : rs.length ≤ 1000 := by
    rw [← hrs]
    unfold rsOf
    rw [List.length_map, List.length_map, List.length_append]
    omega
  have eS : S.length = symN rs := firsts_syms FL mrs nodS memS
  have s68 := ta.trans s8
  have d8 := d6.mono s68
  have hL8 := s68 _ _ hL6
  have kL8 : KeptAt H8 L := fun p m => s68 _ _ (kL6 p m)
  have hS8 := s68 _ _ hS
  have hRow8 := s68 _ _ hRow6
  have bill : ∀ m : Int, 0 ≤ m → m.natAbs < 2 ^ 110 → BillOf K H8 x n m rs := fun m m0 m1 => ⟨C, l, ys, M.cls, hM, by have := d8.n1; omega, by have := d8.n30; omega, lrs, by rw [← eS]; omega, m0, m1⟩
  clear d6 d7 hL6 kL6 hS hRow6 ta ha2 tq nq na2 RT cutE eApp s68 s8 d6at
  -- who pushes, who pops
  have count : ∀ (dd : PySem.Str) (i : Nat) (p : Addr × Rl), L[i]? = some p → ∀ {X : Hp} {Dx : Addr} {Y : Hp}, Same Y X → Y Dx = none → X Dx = some (.lst (((L.take i).filter fun p => decide (p.2.de = dd)).map fun p => V.ref p.1)) →
      (p.2.de = dd → (((L.take i).filter fun p => decide (p.2.de = dd)).map fun p => V.ref p.1).length < sizeLine ∧ (upd X Dx (.lst ((((L.take i).filter fun p => decide (p.2.de = dd)).map fun p => V.ref p.1) ++ [V.ref p.1]))) Dx = some (.lst (((L.take (i + 1)).filter fun p => decide (p.2.de = dd)).map fun p => V.ref p.1))) ∧
      (¬ p.2.de = dd → X Dx = some (.lst (((L.take (i + 1)).filter fun p => decide (p.2.de = dd)).map fun p => V.ref p.1))) := by
    intro dd i p ep X Dx Y sX nX hX
    refine ⟨fun c => ⟨?_, ?_⟩, fun c => ?_⟩
    · rw [List.length_map]
      have z := List.length_filter_le (fun p : Addr × Rl => decide (p.2.de = dd)) (L.take i)
      rw [List.length_take] at z
      exact size (by omega)
    · rw [upd_same, take_at ep, List.filter_append, List.map_append]
      have e1 : [p].filter (fun p : Addr × Rl => decide (p.2.de = dd)) = [p] := by
        rw [List.filter_cons, if_pos (decide_eq_true c)] <;> rfl
      rw [e1] <;> rfl
    · have e1 : [p].filter (fun p : Addr × Rl => decide (p.2.de = dd)) = [] := by
        rw [List.filter_cons, if_neg (fun z => c (of_decide_eq_true z))] <;> rfl
      rw [hX, take_at ep, List.filter_append, e1, List.append_nil]
  refine ⟨_, rfl, aL, rfl, ⟨_, SqL.of hL8⟩, fun D1 n1 => lc_list (K := K) (a := aL) (xs := refsK L) (fun i H' => Same H8 H' ∧ H' D1 = some (.lst (((L.take i).filter fun p => decide (p.2.de = push0)).map fun p => V.ref p.1)))
      ⟨same_new n1, upd_same⟩ (fun i H' _ h => SqL.of (h.1 _ _ hL8)) ?_ ?_⟩
  · rintro i y H9 hi ⟨s9, hD⟩
    obtain ⟨p, ep, rfl⟩ := at_refs hi
    obtain ⟨c1, c2⟩ := count push0 i p ep s9 n1 hD
    refine ⟨rfl, ?_⟩
    refine ⟨_, rfl, p.1, p.2.vs, 5, .str p.2.de, rfl, rfl, .inl (.inl (s9 _ _ (kL8 p (List.mem_of_getElem? ep)))), rfl, rfl, _, rfl, ?_⟩
    rw [show decide (V.str p.2.de = V.str (PySem.Str.ofString "push")) = decide (p.2.de = push0) from dec_str p.2.de push0]
    refine ite2 (fun c => ?_) (fun c => ?_)
    · obtain ⟨a, b⟩ := c1 (of_decide_eq_true c)
      exact ⟨_, rfl, _, hD, a, same_mut s9 n1, b⟩
    · exact ⟨s9, c2 fun z => c (decide_eq_true z)⟩
  rintro H9 ⟨s9, hD1⟩
  rw [lLr, List.take_of_length_le (Nat.le_refl _)] at hD1
  refine ⟨D1, _, rfl, .inl (SqL.of hD1), ?_⟩
  have e9 : ((L.filter fun p => decide (p.2.de = push0)).map fun p => V.ref p.1).length = deedN (rulesOf rs) push0 := by rw [List.length_map]; exact firsts_deed FL mrs push0
  rw [e9]
  have hL9 := s9 _ _ hL8
  have kL9 : KeptAt H9 L := fun p m => s9 _ _ (kL8 p m)
  refine ⟨_, rfl, aL, rfl, ⟨_, SqL.of hL9⟩, fun D1 n1 => lc_list (K := K) (a := aL) (xs := refsK L) (fun i H' => Same H9 H' ∧ H' D1 = some (.lst (((L.take i).filter fun p => decide (p.2.de = pop0)).map fun p => V.ref p.1)))
      ⟨same_new n1, upd_same⟩ (fun i H' _ h => SqL.of (h.1 _ _ hL9)) ?_ ?_⟩
  · rintro i y H10 hi ⟨s10, hD⟩
    obtain ⟨p, ep, rfl⟩ := at_refs hi
    obtain ⟨c1, c2⟩ := count pop0 i p ep s10 n1 hD
    refine ⟨rfl, ?_⟩
    refine ⟨_, rfl, p.1, p.2.vs, 5, .str p.2.de, rfl, rfl, .inl (.inl (s10 _ _ (kL9 p (List.mem_of_getElem? ep)))), rfl, rfl, _, rfl, ?_⟩
    rw [show decide (V.str p.2.de = V.str (PySem.Str.ofString "pop")) = decide (p.2.de = pop0) from dec_str p.2.de pop0]
    refine ite2 (fun c => ?_) (fun c => ?_)
    · obtain ⟨a, b⟩ := c1 (of_decide_eq_true c)
      exact ⟨_, rfl, _, hD, a, same_mut s10 n1, b⟩
    · exact ⟨s10, c2 fun z => c (decide_eq_true z)⟩
  rintro H10 ⟨s10, hD2⟩
  rw [lLr, List.take_of_length_le (Nat.le_refl _)] at hD2
  refine ⟨D1, _, rfl, .inl (SqL.of hD2), ?_⟩
  have e10 : ((L.filter fun p => decide (p.2.de = pop0)).map fun p => V.ref p.1).length = deedN (rulesOf rs) pop0 := by rw [List.length_map]; exact firsts_deed FL mrs pop0
  rw [e10]
  have s810 := s9.trans s10
  exact kZ D k H10 sc aRow aD aS x row d1 d2 l n (.ref aR) (.ref aY) rs (S.map V.str) _ _ _ _ _ _ _ _ _ (s810 _ _ hRow8) er1 er2 b1 b2 (s810 _ _ d8.at_) (s810 _ _ hS8) (by rw [List.length_map]; exact eS) fun m m0 m1 => (bill m m0 m1).mono s810
end
end Mk

set_option Elab.async false
set_option linter.unusedVariables false
set_option maxRecDepth 100000
set_option maxHeartbeats 16000000
namespace Mk
open PySem L2 Pk
theorem MachD.drawn {H H' : Hp} {p : Addr} (h : MachD H p H') : ∃ (l : PySem.Str) (n : Int) (aR aY : Addr) (B : Kept) (ys : List Int), DrawnAt H' p l n aR aY B ys := by
  obtain ⟨_, l, n, aR, aY, B, ys, a1, a2, a3, a4, a5, a6, a7, a8, a9, a10, a11, a12⟩ := h
  exact ⟨l, n, aR, aY, B, ys, a1, a2, a4, by omega, a6, a7, a8, a9, a10, a11, a12⟩
section
variable {P : Program} {w : World} {K : PySem.W.Frag} {mg : PySem.Str → Option Value} {base : Heap}
def spLaw (K : PySem.W.Frag) : Sp := fun vs H Q _ => ∃ (a : Addr) (ns : List Int), vs = [.ref a] ∧ SqL K H a (ns.map V.int) ∧ ∀ H', Q (.bl true) H'
theorem ok_law {f : Addr} {fd : FuncData} {C fI e0 : Addr} {fdI : FuncData} (F : Fun K "law" "law" sLaw f fd) (T : TM mg) (G : LawDefs P w K mg base) (M : MDef P w K mg base C fI e0 fdI) : FnOk P w K mg base CX0 8 f fd ["script"] (spLaw K) := by
  refine F.ok scLaw (fun vs H Q E h => ?_) (fun cdv A outer s H vs Q E hr h => ?_)
  · obtain ⟨a, ns, rfl, _⟩ := h
    rfl
  · obtain ⟨sc, ns, rfl, hS, k⟩ := h
    have nd := scLaw.nd
    have h1 := hr.mono (show 1 ≤ 7 by decide)
    have h2 := hr.mono (show 2 ≤ 7 by decide)
    obtain ⟨tY, hY, kY⟩ := law_Y (f := f) T G M cdv A outer s H E hr
    refine ⟨_, (pss_cons (ps_set (i := 1) nd rfl (Or.inl rfl) (pe_got G.digits h1 (by rfl) (pa_cons (pe_got G.cell h1 (by rfl) (pa_cons (pv 0) (pa_cons pe_int pa_nil))) (pa_cons (pe_lst (pa_cons pe_int (pa_cons pe_int (pa_cons (pe_op Sx.op_powG pe_int pe_int) (pa_cons pe_int pa_nil))))) pa_nil))))
      (pss_cons (ps_set (i := 2) nd rfl (Or.inr rfl) (pe_got G.machine h2 (by rfl) (pa_cons (pv 0) (pa_cons pe_int pa_nil))))
      (C8.pss_cut (ps_if (pt_cmpR op_eq (pe_ix ix_list (pv 1) pe_int fun _ _ => rfl) pe_int (nomark _))
        (pss_one (ps_set (i := 2) nd rfl (Or.inr rfl) (pe_got G.guesser h2 (by rfl) (pa_cons (pv 0) (pa_cons pe_int pa_nil)))))
        pss_nil)
      (C8.pss_cut (ps_if (pt_cmpR op_eq (pe_ix ix_list (pv 1) pe_int fun _ _ => rfl) pe_int (nomark _))
        (pss_one (ps_set (i := 2) nd rfl (Or.inr rfl) (pe_lst (pa_cons (pe_ix ix_list (pv 2) pe_int fun _ _ => rfl) (pa_cons (pe_op op_add pe_int (pe_ix ix_list (pv 1) pe_int fun _ _ => rfl)) (pa_cons (pe_lst pa_nil) (pa_cons (pe_lst pa_nil) pa_nil)))))))
        pss_nil)
      hY)))), ?_⟩
    have pw : Sx.CPowG 10 30 := Sx.powG_of (i := 10) (a := 4) (k := 30) (by decide) (by decide)
    refine ⟨_, rfl, sc, ns, 5, rfl, hS, fun z0 => ⟨_, _, rfl, rfl, pw, show 4 ≤ sizeLine by decide, fun l6 h6 => ?_⟩⟩
    refine ⟨z0, l6, [5, 401, 10 ^ (30 : Int).toNat, 30], rfl, SqL.of upd_same, by decide, ?_, fun row aRow H1 dg np s1 hrow => ?_⟩
    · intro s ms
      simp only [List.mem_cons, List.not_mem_nil, or_false] at ms
      rcases ms with rfl | rfl | rfl | rfl <;> decide
    have sA : Same H H1 := (same_new h6).trans s1
    clear s1 np h6
    have dig : ∀ (j : Nat) (t : Int), ([5, 401, 10 ^ (30 : Int).toNat, 30] : List Int)[j]? = some t → ∃ d : Nat, row[j]? = some (d : Int) ∧ (d : Int) < t := fun j t e => by
      obtain ⟨d, e1, e2, e3⟩ := dg.2 j t e
      exact ⟨d.toNat, by rw [e1, Int.toNat_of_nonneg e2], by rw [Int.toNat_of_nonneg e2]; exact e3⟩
    have rowAt : ∀ {j : Nat} {d : Nat}, row[j]? = some (d : Int) → atI (row.map V.int) (j : Int) = some (V.int d) := fun {j d} e => atI_nat (by rw [List.getElem?_map, e]; rfl)
    obtain ⟨d0, e0', b0⟩ := dig 0 5 rfl
    obtain ⟨d1, e1, b1⟩ := dig 1 401 rfl
    obtain ⟨d2, e2, b2⟩ := dig 2 (10 ^ (30 : Int).toNat) rfl
    obtain ⟨d3, e3, b3⟩ := dig 3 30 rfl
    have b1' : d1 < 2 ^ 110 := Nat.lt_of_lt_of_le (show d1 < 401 by omega) (by decide)
    have b2' : d2 < 2 ^ 110 := by
      have z : ((10 : Int) ^ (30 : Int).toNat) = 1000000000000000000000000000000 := by decide
      rw [z] at b2
      exact Nat.lt_of_lt_of_le (show d2 < 1000000000000000000000000000000 by omega) (by decide)
    -- the machine
    refine ⟨_, rfl, sc, ns, 0, rfl, sA.seq hS, fun p H2 hD => ?_⟩
    have s12 := hD.1
    obtain ⟨l, n, aR, aY, B, ys, dr⟩ := hD.drawn
    have hrow2 := s12 _ _ hrow
    have sB := sA.trans s12
    clear s12 hD hrow sA
    refine ⟨fun σ' H' => ∃ (p : Addr) (l : PySem.Str) (n : Int) (aR aY : Addr) (B : Kept) (ys : List Int), σ' = [some (.ref sc), some (.ref aRow), some (.ref p), none, none, none, none, none, none, none, none, none, none, none, none, none] ∧ Same H2 H' ∧ DrawnAt H' p l n aR aY B ys, ?_, ?_⟩
    · refine ⟨_, rfl, aRow, _, _, _, rfl, rfl, SqL.of hrow2, rowAt (j := 0) e0', rfl, _, rfl, ite2 (fun _ => ?_) (fun _ => ⟨p, l, n, aR, aY, B, ys, rfl, Same.refl _, dr⟩)⟩
      refine ⟨_, rfl, sc, ns, 0, rfl, sB.seq hS, fun p H3 hD => ?_⟩
      obtain ⟨l, n, aR, aY, B, ys, dr⟩ := hD.drawn
      exact ⟨p, l, n, aR, aY, B, ys, rfl, hD.1, dr⟩
    clear dr
    rintro _ H3 ⟨p, l, n, aR, aY, B, ys, rfl, s3, dr⟩
    have hrow3 := s3 _ _ hrow2
    clear s3 hrow2 sB
    refine ⟨fun σ' H' => ∃ (p : Addr) (l : PySem.Str) (n : Int) (aR aY : Addr) (B : Kept) (ys : List Int), σ' = [some (.ref sc), some (.ref aRow), some (.ref p), none, none, none, none, none, none, none, none, none, none, none, none, none] ∧ Same H3 H' ∧ DrawnAt H' p l n aR aY B ys, ?_, ?_⟩
    · refine ⟨_, rfl, aRow, _, _, _, rfl, rfl, SqL.of hrow3, rowAt (j := 0) e0', rfl, _, rfl, ite2 (fun _ => ?_) (fun _ => ⟨p, l, n, aR, aY, B, ys, rfl, Same.refl _, dr⟩)⟩
      refine ⟨_, rfl, p, _, 0, .str l, rfl, rfl, SqL.of dr.at_, rfl, _, rfl, aRow, _, _, _, rfl, rfl, SqL.of hrow3, rowAt (j := 3) e3, _, _, rfl, rfl, Nat.zero_le _, fun a na => ⟨Nat.zero_le _, fun b nb => ⟨show 4 ≤ sizeLine by decide, fun q nq => ?_⟩⟩⟩
      have ta := same_new (o := HO.lst []) na
      have tb := same_new (o := HO.lst []) nb
      have tq := same_new (o := HO.lst [V.str l, V.int (1 + (d3 : Int)), V.ref a, V.ref b]) nq
      exact ⟨q, l, 1 + (d3 : Int), a, b, [], [], rfl, (ta.trans tb).trans tq, upd_same, dr.al, by omega, by omega, tq _ _ (tb _ _ upd_same), fun p m => absurd m List.not_mem_nil, fun p m => absurd m List.not_mem_nil, Nat.zero_le _, tq _ _ upd_same, fun y m => absurd m List.not_mem_nil, Nat.zero_le _⟩
    clear dr
    rintro _ H4 ⟨p, l, n, aR, aY, B, ys, rfl, s4, dr⟩
    exact kY _ k H4 sc aRow p aR aY row ys d1 d2 l n B _ _ _ _ _ _ _ _ _ _ _ _ _ (s4 _ _ hrow3) e1 e2 b1' b2' dr
end
end Mk

set_option Elab.async false
set_option maxRecDepth 100000
set_option maxHeartbeats 8000000
namespace Mk
open PySem L2 Pk
theorem all_mk {l : PySem.W.OpenLaw} {w : World} {K : PySem.W.Frag} {h : Heap} {mg : Str → Option Value} {fa : Addr} (X : K.In h) (G : h.Ns mainGlobals mg) (hfa : mg "law" = some (.ref fa))
    {f1 : Addr} {od1 an1 : Option Addr} {sl1 : Array (Option Value)} {oc1 kV1 dc1 pm1 cd1 ct1 : Value}
    {f2 : Addr} {od2 an2 : Option Addr} {sl2 : Array (Option Value)} {oc2 kV2 dc2 pm2 cd2 ct2 : Value}
    {f3 : Addr} {od3 an3 : Option Addr} {sl3 : Array (Option Value)} {oc3 kV3 dc3 pm3 cd3 ct3 : Value}
    {f4 : Addr} {od4 an4 : Option Addr} {sl4 : Array (Option Value)} {oc4 kV4 dc4 pm4 cd4 ct4 : Value}
    {f5 : Addr} {od5 an5 : Option Addr} {sl5 : Array (Option Value)} {oc5 kV5 dc5 pm5 cd5 ct5 : Value}
    {f6 : Addr} {od6 an6 : Option Addr} {sl6 : Array (Option Value)} {oc6 kV6 dc6 pm6 cd6 ct6 : Value}
    {f7 : Addr} {od7 an7 : Option Addr} {sl7 : Array (Option Value)} {oc7 kV7 dc7 pm7 cd7 ct7 : Value}
    {f8 : Addr} {od8 an8 : Option Addr} {sl8 : Array (Option Value)} {oc8 kV8 dc8 pm8 cd8 ct8 : Value}
    {f9 : Addr} {od9 an9 : Option Addr} {sl9 : Array (Option Value)} {oc9 kV9 dc9 pm9 cd9 ct9 : Value}
    {f10 : Addr} {od10 an10 : Option Addr} {sl10 : Array (Option Value)} {oc10 kV10 dc10 pm10 cd10 ct10 : Value}
    {f11 : Addr} {od11 an11 : Option Addr} {sl11 : Array (Option Value)} {oc11 kV11 dc11 pm11 cd11 ct11 : Value}
    {f12 : Addr} {od12 an12 : Option Addr} {sl12 : Array (Option Value)} {oc12 kV12 dc12 pm12 cd12 ct12 : Value}
    {f13 : Addr} {od13 an13 : Option Addr} {sl13 : Array (Option Value)} {oc13 kV13 dc13 pm13 cd13 ct13 : Value}
    {f14 : Addr} {od14 an14 : Option Addr} {sl14 : Array (Option Value)} {oc14 kV14 dc14 pm14 cd14 ct14 : Value}
    {f15 : Addr} {od15 an15 : Option Addr} {sl15 : Array (Option Value)} {oc15 kV15 dc15 pm15 cd15 ct15 : Value}
    {f16 : Addr} {od16 an16 : Option Addr} {sl16 : Array (Option Value)} {oc16 kV16 dc16 pm16 cd16 ct16 : Value}
    {f17 : Addr} {od17 an17 : Option Addr} {sl17 : Array (Option Value)} {oc17 kV17 dc17 pm17 cd17 ct17 : Value}
    {f18 : Addr} {od18 an18 : Option Addr} {sl18 : Array (Option Value)} {oc18 kV18 dc18 pm18 cd18 ct18 : Value}
    {f19 : Addr} {od19 an19 : Option Addr} {sl19 : Array (Option Value)} {oc19 kV19 dc19 pm19 cd19 ct19 : Value}
    {f20 : Addr} {od20 an20 : Option Addr} {sl20 : Array (Option Value)} {oc20 kV20 dc20 pm20 cd20 ct20 : Value}
    {f21 : Addr} {od21 an21 : Option Addr} {sl21 : Array (Option Value)} {oc21 kV21 dc21 pm21 cd21 ct21 : Value}
    {f22 : Addr} {od22 an22 : Option Addr} {sl22 : Array (Option Value)} {oc22 kV22 dc22 pm22 cd22 ct22 : Value}
    {f23 : Addr} {od23 an23 : Option Addr} {sl23 : Array (Option Value)} {oc23 kV23 dc23 pm23 cd23 ct23 : Value}
    {f24 : Addr} {od24 an24 : Option Addr} {sl24 : Array (Option Value)} {oc24 kV24 dc24 pm24 cd24 ct24 : Value}
    {f25 : Addr} {od25 an25 : Option Addr} {sl25 : Array (Option Value)} {oc25 kV25 dc25 pm25 cd25 ct25 : Value}
    {f26 : Addr} {od26 an26 : Option Addr} {sl26 : Array (Option Value)} {oc26 kV26 dc26 pm26 cd26 ct26 : Value}
    {f27 : Addr} {od27 an27 : Option Addr} {sl27 : Array (Option Value)} {oc27 kV27 dc27 pm27 cd27 ct27 : Value}
    {f28 : Addr} {od28 an28 : Option Addr} {sl28 : Array (Option Value)} {oc28 kV28 dc28 pm28 cd28 ct28 : Value}
    {f29 : Addr} {od29 an29 : Option Addr} {sl29 : Array (Option Value)} {oc29 kV29 dc29 pm29 cd29 ct29 : Value}
    {f30 : Addr} {od30 an30 : Option Addr} {sl30 : Array (Option Value)} {oc30 kV30 dc30 pm30 cd30 ct30 : Value}
    {f31 : Addr} {od31 an31 : Option Addr} {sl31 : Array (Option Value)} {oc31 kV31 dc31 pm31 cd31 ct31 : Value}
    {f32 : Addr} {od32 an32 : Option Addr} {sl32 : Array (Option Value)} {oc32 kV32 dc32 pm32 cd32 ct32 : Value}
    {f33 : Addr} {od33 an33 : Option Addr} {sl33 : Array (Option Value)} {oc33 kV33 dc33 pm33 cd33 ct33 : Value}
    {f34 : Addr} {od34 an34 : Option Addr} {sl34 : Array (Option Value)} {oc34 kV34 dc34 pm34 cd34 ct34 : Value}
    {f35 : Addr} {od35 an35 : Option Addr} {sl35 : Array (Option Value)} {oc35 kV35 dc35 pm35 cd35 ct35 : Value}
    {f36 : Addr} {od36 an36 : Option Addr} {sl36 : Array (Option Value)} {oc36 kV36 dc36 pm36 cd36 ct36 : Value}
    {fL : Addr} {odL anL : Option Addr} {slL : Array (Option Value)} {ocL kVL dcL pmL cdL ctL : Value}
    {C fI T0 e0 aDD : Addr} {odI anI odT odE odD : Option Addr} {slI slT slE slD : Array (Option Value)} {ocI ocT kVI dcI pmI cdI ctI : Value} {nT nE nD : Nat} {tS tR t1 t2 t3 t4 : Tok}
    (na1 : PySem.W.nsIn K mainGlobals "is_integer" = some (some (.ref f1)))
    (lk1 : K.lookup f1 = some ⟨oc1, od1, .func (PySem.W.fnOf "is_integer" "is_integer" (defArgs sInteger) (defBody sInteger) (defScope sInteger) .none kV1 dc1 pm1 an1 cd1 ct1), sl1⟩)
    (co1 : PySem.W.codeIn K cd1 "is_integer" = true)
    (ke1 : PySem.W.keepIn K (.ref f1) = true)
    (na2 : PySem.W.nsIn K mainGlobals "is_between" = some (some (.ref f2)))
    (lk2 : K.lookup f2 = some ⟨oc2, od2, .func (PySem.W.fnOf "is_between" "is_between" (defArgs sBetween) (defBody sBetween) (defScope sBetween) .none kV2 dc2 pm2 an2 cd2 ct2), sl2⟩)
    (co2 : PySem.W.codeIn K cd2 "is_between" = true)
    (ke2 : PySem.W.keepIn K (.ref f2) = true)
    (na3 : PySem.W.nsIn K mainGlobals "is_sequence" = some (some (.ref f3)))
    (lk3 : K.lookup f3 = some ⟨oc3, od3, .func (PySem.W.fnOf "is_sequence" "is_sequence" (defArgs sSequence) (defBody sSequence) (defScope sSequence) .none kV3 dc3 pm3 an3 cd3 ct3), sl3⟩)
    (co3 : PySem.W.codeIn K cd3 "is_sequence" = true)
    (ke3 : PySem.W.keepIn K (.ref f3) = true)
    (na4 : PySem.W.nsIn K mainGlobals "is_row" = some (some (.ref f4)))
    (lk4 : K.lookup f4 = some ⟨oc4, od4, .func (PySem.W.fnOf "is_row" "is_row" (defArgs sRow) (defBody sRow) (defScope sRow) .none kV4 dc4 pm4 an4 cd4 ct4), sl4⟩)
    (co4 : PySem.W.codeIn K cd4 "is_row" = true)
    (ke4 : PySem.W.keepIn K (.ref f4) = true)
    (na5 : PySem.W.nsIn K mainGlobals "are_letters" = some (some (.ref f5)))
    (lk5 : K.lookup f5 = some ⟨oc5, od5, .func (PySem.W.fnOf "are_letters" "are_letters" (defArgs sLetters) (defBody sLetters) (defScope sLetters) .none kV5 dc5 pm5 an5 cd5 ct5), sl5⟩)
    (co5 : PySem.W.codeIn K cd5 "are_letters" = true)
    (ke5 : PySem.W.keepIn K (.ref f5) = true)
    (na6 : PySem.W.nsIn K mainGlobals "is_alphabet" = some (some (.ref f6)))
    (lk6 : K.lookup f6 = some ⟨oc6, od6, .func (PySem.W.fnOf "is_alphabet" "is_alphabet" (defArgs sAlphabet) (defBody sAlphabet) (defScope sAlphabet) .none kV6 dc6 pm6 an6 cd6 ct6), sl6⟩)
    (co6 : PySem.W.codeIn K cd6 "is_alphabet" = true)
    (ke6 : PySem.W.keepIn K (.ref f6) = true)
    (na7 : PySem.W.nsIn K mainGlobals "is_symbol_mark" = some (some (.ref f7)))
    (lk7 : K.lookup f7 = some ⟨oc7, od7, .func (PySem.W.fnOf "is_symbol_mark" "is_symbol_mark" (defArgs sMark) (defBody sMark) (defScope sMark) .none kV7 dc7 pm7 an7 cd7 ct7), sl7⟩)
    (co7 : PySem.W.codeIn K cd7 "is_symbol_mark" = true)
    (ke7 : PySem.W.keepIn K (.ref f7) = true)
    (na8 : PySem.W.nsIn K mainGlobals "is_symbol" = some (some (.ref f8)))
    (lk8 : K.lookup f8 = some ⟨oc8, od8, .func (PySem.W.fnOf "is_symbol" "is_symbol" (defArgs sSymbol) (defBody sSymbol) (defScope sSymbol) .none kV8 dc8 pm8 an8 cd8 ct8), sl8⟩)
    (co8 : PySem.W.codeIn K cd8 "is_symbol" = true)
    (ke8 : PySem.W.keepIn K (.ref f8) = true)
    (na9 : PySem.W.nsIn K mainGlobals "is_sign" = some (some (.ref f9)))
    (lk9 : K.lookup f9 = some ⟨oc9, od9, .func (PySem.W.fnOf "is_sign" "is_sign" (defArgs sSign) (defBody sSign) (defScope sSign) .none kV9 dc9 pm9 an9 cd9 ct9), sl9⟩)
    (co9 : PySem.W.codeIn K cd9 "is_sign" = true)
    (ke9 : PySem.W.keepIn K (.ref f9) = true)
    (na10 : PySem.W.nsIn K mainGlobals "is_top" = some (some (.ref f10)))
    (lk10 : K.lookup f10 = some ⟨oc10, od10, .func (PySem.W.fnOf "is_top" "is_top" (defArgs sTop) (defBody sTop) (defScope sTop) .none kV10 dc10 pm10 an10 cd10 ct10), sl10⟩)
    (co10 : PySem.W.codeIn K cd10 "is_top" = true)
    (ke10 : PySem.W.keepIn K (.ref f10) = true)
    (na11 : PySem.W.nsIn K mainGlobals "is_move" = some (some (.ref f11)))
    (lk11 : K.lookup f11 = some ⟨oc11, od11, .func (PySem.W.fnOf "is_move" "is_move" (defArgs sMove) (defBody sMove) (defScope sMove) .none kV11 dc11 pm11 an11 cd11 ct11), sl11⟩)
    (co11 : PySem.W.codeIn K cd11 "is_move" = true)
    (ke11 : PySem.W.keepIn K (.ref f11) = true)
    (na12 : PySem.W.nsIn K mainGlobals "is_deed" = some (some (.ref f12)))
    (lk12 : K.lookup f12 = some ⟨oc12, od12, .func (PySem.W.fnOf "is_deed" "is_deed" (defArgs sDeed) (defBody sDeed) (defScope sDeed) .none kV12 dc12 pm12 an12 cd12 ct12), sl12⟩)
    (co12 : PySem.W.codeIn K cd12 "is_deed" = true)
    (ke12 : PySem.W.keepIn K (.ref f12) = true)
    (na13 : PySem.W.nsIn K mainGlobals "is_state" = some (some (.ref f13)))
    (lk13 : K.lookup f13 = some ⟨oc13, od13, .func (PySem.W.fnOf "is_state" "is_state" (defArgs sState) (defBody sState) (defScope sState) .none kV13 dc13 pm13 an13 cd13 ct13), sl13⟩)
    (co13 : PySem.W.codeIn K cd13 "is_state" = true)
    (ke13 : PySem.W.keepIn K (.ref f13) = true)
    (na14 : PySem.W.nsIn K mainGlobals "is_rule" = some (some (.ref f14)))
    (lk14 : K.lookup f14 = some ⟨oc14, od14, .func (PySem.W.fnOf "is_rule" "is_rule" (defArgs sRule) (defBody sRule) (defScope sRule) .none kV14 dc14 pm14 an14 cd14 ct14), sl14⟩)
    (co14 : PySem.W.codeIn K cd14 "is_rule" = true)
    (ke14 : PySem.W.keepIn K (.ref f14) = true)
    (na15 : PySem.W.nsIn K mainGlobals "check_arguments" = some (some (.ref f15)))
    (lk15 : K.lookup f15 = some ⟨oc15, od15, .func (PySem.W.fnOf "check_arguments" "check_arguments" (defArgs sCheck) (defBody sCheck) (defScope sCheck) .none kV15 dc15 pm15 an15 cd15 ct15), sl15⟩)
    (co15 : PySem.W.codeIn K cd15 "check_arguments" = true)
    (ke15 : PySem.W.keepIn K (.ref f15) = true)
    (na16 : PySem.W.nsIn K mainGlobals "symbols_of" = some (some (.ref f16)))
    (lk16 : K.lookup f16 = some ⟨oc16, od16, .func (PySem.W.fnOf "symbols_of" "symbols_of" (defArgs sSymbols) (defBody sSymbols) (defScope sSymbols) .none kV16 dc16 pm16 an16 cd16 ct16), sl16⟩)
    (co16 : PySem.W.codeIn K cd16 "symbols_of" = true)
    (ke16 : PySem.W.keepIn K (.ref f16) = true)
    (na17 : PySem.W.nsIn K mainGlobals "acts_by_key" = some (some (.ref f17)))
    (lk17 : K.lookup f17 = some ⟨oc17, od17, .func (PySem.W.fnOf "acts_by_key" "acts_by_key" (defArgs sActs) (defBody sActs) (defScope sActs) .none kV17 dc17 pm17 an17 cd17 ct17), sl17⟩)
    (co17 : PySem.W.codeIn K cd17 "acts_by_key" = true)
    (ke17 : PySem.W.keepIn K (.ref f17) = true)
    (na18 : PySem.W.nsIn K mainGlobals "first_guess" = some (some (.ref f18)))
    (lk18 : K.lookup f18 = some ⟨oc18, od18, .func (PySem.W.fnOf "first_guess" "first_guess" (defArgs sGuess) (defBody sGuess) (defScope sGuess) .none kV18 dc18 pm18 an18 cd18 ct18), sl18⟩)
    (co18 : PySem.W.codeIn K cd18 "first_guess" = true)
    (ke18 : PySem.W.keepIn K (.ref f18) = true)
    (na19 : PySem.W.nsIn K mainGlobals "surfaces_at_most" = some (some (.ref f19)))
    (lk19 : K.lookup f19 = some ⟨oc19, od19, .func (PySem.W.fnOf "surfaces_at_most" "surfaces_at_most" (defArgs sSurf) (defBody sSurf) (defScope sSurf) .none kV19 dc19 pm19 an19 cd19 ct19), sl19⟩)
    (co19 : PySem.W.codeIn K cd19 "surfaces_at_most" = true)
    (ke19 : PySem.W.keepIn K (.ref f19) = true)
    (na20 : PySem.W.nsIn K mainGlobals "meetings_at_most" = some (some (.ref f20)))
    (lk20 : K.lookup f20 = some ⟨oc20, od20, .func (PySem.W.fnOf "meetings_at_most" "meetings_at_most" (defArgs sMeet) (defBody sMeet) (defScope sMeet) .none kV20 dc20 pm20 an20 cd20 ct20), sl20⟩)
    (co20 : PySem.W.codeIn K cd20 "meetings_at_most" = true)
    (ke20 : PySem.W.keepIn K (.ref f20) = true)
    (na21 : PySem.W.nsIn K mainGlobals "edges_at_most" = some (some (.ref f21)))
    (lk21 : K.lookup f21 = some ⟨oc21, od21, .func (PySem.W.fnOf "edges_at_most" "edges_at_most" (defArgs sEdges) (defBody sEdges) (defScope sEdges) .none kV21 dc21 pm21 an21 cd21 ct21), sl21⟩)
    (co21 : PySem.W.codeIn K cd21 "edges_at_most" = true)
    (ke21 : PySem.W.keepIn K (.ref f21) = true)
    (na22 : PySem.W.nsIn K mainGlobals "rules_with" = some (some (.ref f22)))
    (lk22 : K.lookup f22 = some ⟨oc22, od22, .func (PySem.W.fnOf "rules_with" "rules_with" (defArgs sWith) (defBody sWith) (defScope sWith) .none kV22 dc22 pm22 an22 cd22 ct22), sl22⟩)
    (co22 : PySem.W.codeIn K cd22 "rules_with" = true)
    (ke22 : PySem.W.keepIn K (.ref f22) = true)
    (na23 : PySem.W.nsIn K mainGlobals "joinings_at_most" = some (some (.ref f23)))
    (lk23 : K.lookup f23 = some ⟨oc23, od23, .func (PySem.W.fnOf "joinings_at_most" "joinings_at_most" (defArgs sJoin) (defBody sJoin) (defScope sJoin) .none kV23 dc23 pm23 an23 cd23 ct23), sl23⟩)
    (co23 : PySem.W.codeIn K cd23 "joinings_at_most" = true)
    (ke23 : PySem.W.keepIn K (.ref f23) = true)
    (na24 : PySem.W.nsIn K mainGlobals "_law_whole" = some (some (.ref f24)))
    (lk24 : K.lookup f24 = some ⟨oc24, od24, .func (PySem.W.fnOf "_law_whole" "_law_whole" (defArgs sWhole) (defBody sWhole) (defScope sWhole) .none kV24 dc24 pm24 an24 cd24 ct24), sl24⟩)
    (co24 : PySem.W.codeIn K cd24 "_law_whole" = true)
    (ke24 : PySem.W.keepIn K (.ref f24) = true)
    (na25 : PySem.W.nsIn K mainGlobals "_law_same" = some (some (.ref f25)))
    (lk25 : K.lookup f25 = some ⟨oc25, od25, .func (PySem.W.fnOf "_law_same" "_law_same" (defArgs sSame) (defBody sSame) (defScope sSame) .none kV25 dc25 pm25 an25 cd25 ct25), sl25⟩)
    (co25 : PySem.W.codeIn K cd25 "_law_same" = true)
    (ke25 : PySem.W.keepIn K (.ref f25) = true)
    (na26 : PySem.W.nsIn K mainGlobals "_law_cell" = some (some (.ref f26)))
    (lk26 : K.lookup f26 = some ⟨oc26, od26, .func (PySem.W.fnOf "_law_cell" "_law_cell" (defArgs sCell) (defBody sCell) (defScope sCell) .none kV26 dc26 pm26 an26 cd26 ct26), sl26⟩)
    (co26 : PySem.W.codeIn K cd26 "_law_cell" = true)
    (ke26 : PySem.W.keepIn K (.ref f26) = true)
    (na27 : PySem.W.nsIn K mainGlobals "_law_digits" = some (some (.ref f27)))
    (lk27 : K.lookup f27 = some ⟨oc27, od27, .func (PySem.W.fnOf "_law_digits" "_law_digits" (defArgs sDigits) (defBody sDigits) (defScope sDigits) .none kV27 dc27 pm27 an27 cd27 ct27), sl27⟩)
    (co27 : PySem.W.codeIn K cd27 "_law_digits" = true)
    (ke27 : PySem.W.keepIn K (.ref f27) = true)
    (na28 : PySem.W.nsIn K mainGlobals "_law_alphabet" = some (some (.ref f28)))
    (lk28 : K.lookup f28 = some ⟨oc28, od28, .func (PySem.W.fnOf "_law_alphabet" "_law_alphabet" (defArgs sAlpha) (defBody sAlpha) (defScope sAlpha) .none kV28 dc28 pm28 an28 cd28 ct28), sl28⟩)
    (co28 : PySem.W.codeIn K cd28 "_law_alphabet" = true)
    (ke28 : PySem.W.keepIn K (.ref f28) = true)
    (na29 : PySem.W.nsIn K mainGlobals "_law_symbols" = some (some (.ref f29)))
    (lk29 : K.lookup f29 = some ⟨oc29, od29, .func (PySem.W.fnOf "_law_symbols" "_law_symbols" (defArgs sSyms) (defBody sSyms) (defScope sSyms) .none kV29 dc29 pm29 an29 cd29 ct29), sl29⟩)
    (co29 : PySem.W.codeIn K cd29 "_law_symbols" = true)
    (ke29 : PySem.W.keepIn K (.ref f29) = true)
    (na30 : PySem.W.nsIn K mainGlobals "_law_act" = some (some (.ref f30)))
    (lk30 : K.lookup f30 = some ⟨oc30, od30, .func (PySem.W.fnOf "_law_act" "_law_act" (defArgs sAct) (defBody sAct) (defScope sAct) .none kV30 dc30 pm30 an30 cd30 ct30), sl30⟩)
    (co30 : PySem.W.codeIn K cd30 "_law_act" = true)
    (ke30 : PySem.W.keepIn K (.ref f30) = true)
    (na31 : PySem.W.nsIn K mainGlobals "_law_caller" = some (some (.ref f31)))
    (lk31 : K.lookup f31 = some ⟨oc31, od31, .func (PySem.W.fnOf "_law_caller" "_law_caller" (defArgs sCaller) (defBody sCaller) (defScope sCaller) .none kV31 dc31 pm31 an31 cd31 ct31), sl31⟩)
    (co31 : PySem.W.codeIn K cd31 "_law_caller" = true)
    (ke31 : PySem.W.keepIn K (.ref f31) = true)
    (na32 : PySem.W.nsIn K mainGlobals "_law_scanner" = some (some (.ref f32)))
    (lk32 : K.lookup f32 = some ⟨oc32, od32, .func (PySem.W.fnOf "_law_scanner" "_law_scanner" (defArgs sScanner) (defBody sScanner) (defScope sScanner) .none kV32 dc32 pm32 an32 cd32 ct32), sl32⟩)
    (co32 : PySem.W.codeIn K cd32 "_law_scanner" = true)
    (ke32 : PySem.W.keepIn K (.ref f32) = true)
    (na33 : PySem.W.nsIn K mainGlobals "_law_restorer" = some (some (.ref f33)))
    (lk33 : K.lookup f33 = some ⟨oc33, od33, .func (PySem.W.fnOf "_law_restorer" "_law_restorer" (defArgs sRestorer) (defBody sRestorer) (defScope sRestorer) .none kV33 dc33 pm33 an33 cd33 ct33), sl33⟩)
    (co33 : PySem.W.codeIn K cd33 "_law_restorer" = true)
    (ke33 : PySem.W.keepIn K (.ref f33) = true)
    (na34 : PySem.W.nsIn K mainGlobals "_law_climber" = some (some (.ref f34)))
    (lk34 : K.lookup f34 = some ⟨oc34, od34, .func (PySem.W.fnOf "_law_climber" "_law_climber" (defArgs sClimber) (defBody sClimber) (defScope sClimber) .none kV34 dc34 pm34 an34 cd34 ct34), sl34⟩)
    (co34 : PySem.W.codeIn K cd34 "_law_climber" = true)
    (ke34 : PySem.W.keepIn K (.ref f34) = true)
    (na35 : PySem.W.nsIn K mainGlobals "_law_machine" = some (some (.ref f35)))
    (lk35 : K.lookup f35 = some ⟨oc35, od35, .func (PySem.W.fnOf "_law_machine" "_law_machine" (defArgs sMachine) (defBody sMachine) (defScope sMachine) .none kV35 dc35 pm35 an35 cd35 ct35), sl35⟩)
    (co35 : PySem.W.codeIn K cd35 "_law_machine" = true)
    (ke35 : PySem.W.keepIn K (.ref f35) = true)
    (na36 : PySem.W.nsIn K mainGlobals "_law_guesser" = some (some (.ref f36)))
    (lk36 : K.lookup f36 = some ⟨oc36, od36, .func (PySem.W.fnOf "_law_guesser" "_law_guesser" (defArgs sGuesser) (defBody sGuesser) (defScope sGuesser) .none kV36 dc36 pm36 an36 cd36 ct36), sl36⟩)
    (co36 : PySem.W.codeIn K cd36 "_law_guesser" = true)
    (ke36 : PySem.W.keepIn K (.ref f36) = true)
    (naL : PySem.W.nsIn K mainGlobals "law" = some (some (.ref fL)))
    (lkL : K.lookup fL = some ⟨ocL, odL, .func (PySem.W.fnOf "law" "law" (defArgs sLaw) (defBody sLaw) (defScope sLaw) .none kVL dcL pmL anL cdL ctL), slL⟩)
    (coL : PySem.W.codeIn K cdL "law" = true)
    (keL : PySem.W.keepIn K (.ref fL) = true)
    (nC : PySem.W.nsIn K mainGlobals "Machine" = some (some (.ref C)))
    (c1 : PySem.W.plainGet K C Str.empty = true)
    (c2 : PySem.W.hasDictIn K C = true)
    (c3 : PySem.W.plainOver K C = true)
    (c4 : PySem.W.findIn K (.ref C) "__setattr__" = some (some (.builtin "object.__setattr__")))
    (no0 : PySem.W.findIn K (.ref C) "letters" = some none)
    (no1 : PySem.W.findIn K (.ref C) "states" = some none)
    (no2 : PySem.W.findIn K (.ref C) "rules" = some none)
    (no3 : PySem.W.findIn K (.ref C) "yes" = some none)
    (no4 : PySem.W.findIn K (.ref C) "symbols" = some none)
    (no5 : PySem.W.findIn K (.ref C) "_acts" = some none)
    (no6 : PySem.W.findIn K (.ref C) "guess" = some none)
    (mk1 : PySem.W.makesIn K C = true)
    (mk2 : PySem.W.findIn K (.ref C) "__init__" = some (some (.ref fI)))
    (mk3 : PySem.W.isFn K (.ref fI) = true)
    (mk4 : PySem.W.keepIn K (.ref C) = true)
    (lI : K.lookup fI = some ⟨ocI, odI, .func (PySem.W.fnOf "__init__" "Machine.__init__" (defArgs sInit) (defBody sInit) (defScope sInit) (.ref T0) kVI dcI pmI anI cdI ctI), slI⟩)
    (cI : PySem.W.codeIn K cdI "Machine.__init__" = true)
    (kI : PySem.W.keepIn K (.ref fI) = true)
    (lT : K.lookup T0 = some ⟨ocT, odT, .seq #[.ref e0] nT, slT⟩)
    (lE : K.lookup e0 = some ⟨.type "tuple", odE, .seq #[] nE, slE⟩)
    (nDD : PySem.W.nsIn K mainGlobals "DEEDS" = some (some (.ref aDD)))
    (lD : K.lookup aDD = some ⟨.type "tuple", odD, .seq #[.str "keep" t1, .str "pop" t2, .str "push" t3, .str "swap" t4] nD, slD⟩)
    (mS : PySem.W.nsIn K mainGlobals "MOST_STATES" = some (some (.int 2000 tS)))
    (mR : PySem.W.nsIn K mainGlobals "MOST_RULES" = some (some (.int 20000 tR)))
    (z_isinstance : PySem.W.nsIn K mainGlobals "isinstance" = some none)
    (z_int : PySem.W.nsIn K mainGlobals "int" = some none)
    (z_bool : PySem.W.nsIn K mainGlobals "bool" = some none)
    (z_str : PySem.W.nsIn K mainGlobals "str" = some none)
    (z_tuple : PySem.W.nsIn K mainGlobals "tuple" = some none)
    (z_list : PySem.W.nsIn K mainGlobals "list" = some none)
    (z_len : PySem.W.nsIn K mainGlobals "len" = some none)
    (z_range : PySem.W.nsIn K mainGlobals "range" = some none)
    (z_all : PySem.W.nsIn K mainGlobals "all" = some none)
    (z_sorted : PySem.W.nsIn K mainGlobals "sorted" = some none)
    (z_set : PySem.W.nsIn K mainGlobals "set" = some none)
    (z_abs : PySem.W.nsIn K mainGlobals "abs" = some none) :
    ∃ fd : FuncData, (∀ (s : Shared) (v : Value), BindsTo s fd ⟨[v], []⟩ [("script", v)]) ∧ ∀ base : Heap, K.In base → base.Ns mainGlobals mg → FnOk l.prog w K mg base CX0 8 fa fd ["script"] (spLaw K) := by
  have e := hfa.symm.trans (PySem.W.mg_of X G naL)
  cases e
  have T : TM mg := ⟨PySem.W.mg_none_of X G z_isinstance, PySem.W.mg_none_of X G z_int, PySem.W.mg_none_of X G z_bool, PySem.W.mg_none_of X G z_str, PySem.W.mg_none_of X G z_tuple, PySem.W.mg_none_of X G z_list, PySem.W.mg_none_of X G z_len, PySem.W.mg_none_of X G z_range, PySem.W.mg_none_of X G z_all, PySem.W.mg_none_of X G z_sorted, PySem.W.mg_none_of X G z_set, PySem.W.mg_none_of X G z_abs⟩
  have m : ∀ {x : Str} {v : Value}, PySem.W.nsIn K mainGlobals x = some (some v) → mg x = some v := fun q => PySem.W.mg_of X G q
  have D : Deeds K mg := ⟨aDD, m nDD, fun H => .inr ⟨_, _, _, lD, rfl, rfl, (by show 4 ≤ sizeLine; decide), .cons ⟨_, rfl⟩ (.cons ⟨_, rfl⟩ (.cons ⟨_, rfl⟩ (.cons ⟨_, rfl⟩ .nil)))⟩⟩
  have FI : FunD K "__init__" "Machine.__init__" (defArgs sInit) (defBody sInit) (defScope sInit) [.ref e0] [] fI _ := ⟨⟨ocI, odI, .ref T0, kVI, dcI, pmI, anI, cdI, ctI, slI, rfl, lI, cI, .inr ⟨List.cons_ne_nil _ _, T0, _, [.ref e0], nT, rfl, lT, rfl, .cons rfl .nil⟩, .inl rfl⟩, kI⟩
  have MC : MCls K C := ⟨⟨c1, c2, c3, c4⟩, no0, no1, no2, no3, no4, no5, no6⟩
  have MM : L2.Mk K C fI := ⟨mk1, mk2, mk3, mk4⟩
  obtain ⟨ds4, v4, b4⟩ := FI.binds1 (ps := ["self", "letters", "states", "rules", "yes"]) 5 1 (List.cons_ne_nil _ _) rfl fun T kV doc pm an cdv ct us its h1 h2 => match us, its, h1, h2 with | [_, _, _, _, _], [_], _, _ => ⟨_, rfl, rfl⟩
  have e4 : ds4 = [] := by cases v4; rfl
  subst e4
  obtain ⟨ds3, v3, b3⟩ := FI.binds1 (ps := ["self", "letters", "states", "rules", "yes"]) 4 0 (List.cons_ne_nil _ _) rfl fun T kV doc pm an cdv ct us its h1 h2 => match us, its, h1, h2 with | [_, _, _, _], [_], _, _ => ⟨_, rfl, rfl⟩
  obtain ⟨its, kb⟩ := FI.kbindsD (ps := ["self", "letters", "states", "rules", "yes"]) 4 ["yes"] (fun vs _ zs => vs ++ zs) (List.cons_ne_nil _ _) (fun a _ c => a.append c) fun T kV doc pm an cdv ct us its ws h1 h2 h3 => match us, its, ws, h1, h2, h3 with | [_, _, _, _], [_], [_], _, _, _ => ⟨_, rfl, rfl⟩
  have F1 := fun_mk (st := sInteger) lk1 co1 ke1
  have b_1 := F1.binds (ps := ["value"]) fun _ _ _ _ _ _ us hl => match us, hl with | [_], _ => rfl
  have F2 := fun_mk (st := sBetween) lk2 co2 ke2
  have b_2 := F2.binds (ps := ["value", "least", "most"]) fun _ _ _ _ _ _ us hl => match us, hl with | [_, _, _], _ => rfl
  have F3 := fun_mk (st := sSequence) lk3 co3 ke3
  have b_3 := F3.binds (ps := ["value"]) fun _ _ _ _ _ _ us hl => match us, hl with | [_], _ => rfl
  have F4 := fun_mk (st := sRow) lk4 co4 ke4
  have b_4 := F4.binds (ps := ["value", "length"]) fun _ _ _ _ _ _ us hl => match us, hl with | [_, _], _ => rfl
  have F5 := fun_mk (st := sLetters) lk5 co5 ke5
  have b_5 := F5.binds (ps := ["value", "most"]) fun _ _ _ _ _ _ us hl => match us, hl with | [_, _], _ => rfl
  have F6 := fun_mk (st := sAlphabet) lk6 co6 ke6
  have b_6 := F6.binds (ps := ["value"]) fun _ _ _ _ _ _ us hl => match us, hl with | [_], _ => rfl
  have F7 := fun_mk (st := sMark) lk7 co7 ke7
  have b_7 := F7.binds (ps := ["mark"]) fun _ _ _ _ _ _ us hl => match us, hl with | [_], _ => rfl
  have F8 := fun_mk (st := sSymbol) lk8 co8 ke8
  have b_8 := F8.binds (ps := ["value"]) fun _ _ _ _ _ _ us hl => match us, hl with | [_], _ => rfl
  have F9 := fun_mk (st := sSign) lk9 co9 ke9
  have b_9 := F9.binds (ps := ["letters", "value"]) fun _ _ _ _ _ _ us hl => match us, hl with | [_, _], _ => rfl
  have F10 := fun_mk (st := sTop) lk10 co10 ke10
  have b_10 := F10.binds (ps := ["value"]) fun _ _ _ _ _ _ us hl => match us, hl with | [_], _ => rfl
  have F11 := fun_mk (st := sMove) lk11 co11 ke11
  have b_11 := F11.binds (ps := ["sign", "value"]) fun _ _ _ _ _ _ us hl => match us, hl with | [_, _], _ => rfl
  have F12 := fun_mk (st := sDeed) lk12 co12 ke12
  have b_12 := F12.binds (ps := ["top", "deed", "symbol"]) fun _ _ _ _ _ _ us hl => match us, hl with | [_, _, _], _ => rfl
  have F13 := fun_mk (st := sState) lk13 co13 ke13
  have b_13 := F13.binds (ps := ["states", "value"]) fun _ _ _ _ _ _ us hl => match us, hl with | [_, _], _ => rfl
  have F14 := fun_mk (st := sRule) lk14 co14 ke14
  have b_14 := F14.binds (ps := ["letters", "states", "value"]) fun _ _ _ _ _ _ us hl => match us, hl with | [_, _, _], _ => rfl
  have F15 := fun_mk (st := sCheck) lk15 co15 ke15
  have b_15 := F15.binds (ps := ["letters", "states", "rules", "yes"]) fun _ _ _ _ _ _ us hl => match us, hl with | [_, _, _, _], _ => rfl
  have F16 := fun_mk (st := sSymbols) lk16 co16 ke16
  have b_16 := F16.binds (ps := ["rules"]) fun _ _ _ _ _ _ us hl => match us, hl with | [_], _ => rfl
  have F17 := fun_mk (st := sActs) lk17 co17 ke17
  have b_17 := F17.binds (ps := ["rules"]) fun _ _ _ _ _ _ us hl => match us, hl with | [_], _ => rfl
  have F18 := fun_mk (st := sGuess) lk18 co18 ke18
  have b_18 := F18.binds (ps := ["acts"]) fun _ _ _ _ _ _ us hl => match us, hl with | [_], _ => rfl
  have F19 := fun_mk (st := sSurf) lk19 co19 ke19
  have b_19 := F19.binds (ps := ["machine", "length"]) fun _ _ _ _ _ _ us hl => match us, hl with | [_, _], _ => rfl
  have F20 := fun_mk (st := sMeet) lk20 co20 ke20
  have b_20 := F20.binds (ps := ["machine", "length"]) fun _ _ _ _ _ _ us hl => match us, hl with | [_, _], _ => rfl
  have F21 := fun_mk (st := sEdges) lk21 co21 ke21
  have b_21 := F21.binds (ps := ["machine", "length"]) fun _ _ _ _ _ _ us hl => match us, hl with | [_, _], _ => rfl
  have F22 := fun_mk (st := sWith) lk22 co22 ke22
  have b_22 := F22.binds (ps := ["machine", "deed"]) fun _ _ _ _ _ _ us hl => match us, hl with | [_, _], _ => rfl
  have F23 := fun_mk (st := sJoin) lk23 co23 ke23
  have b_23 := F23.binds (ps := ["machine", "length"]) fun _ _ _ _ _ _ us hl => match us, hl with | [_, _], _ => rfl
  have F24 := fun_mk (st := sWhole) lk24 co24 ke24
  have b_24 := F24.binds (ps := ["value"]) fun _ _ _ _ _ _ us hl => match us, hl with | [_], _ => rfl
  have F25 := fun_mk (st := sSame) lk25 co25 ke25
  have b_25 := F25.binds (ps := ["told", "due"]) fun _ _ _ _ _ _ us hl => match us, hl with | [_, _], _ => rfl
  have F26 := fun_mk (st := sCell) lk26 co26 ke26
  have b_26 := F26.binds (ps := ["script", "k"]) fun _ _ _ _ _ _ us hl => match us, hl with | [_, _], _ => rfl
  have F27 := fun_mk (st := sDigits) lk27 co27 ke27
  have b_27 := F27.binds (ps := ["cell", "sizes"]) fun _ _ _ _ _ _ us hl => match us, hl with | [_, _], _ => rfl
  have F28 := fun_mk (st := sAlpha) lk28 co28 ke28
  have b_28 := F28.binds (ps := ["row"]) fun _ _ _ _ _ _ us hl => match us, hl with | [_], _ => rfl
  have F29 := fun_mk (st := sSyms) lk29 co29 ke29
  have b_29 := F29.binds (ps := ["digit"]) fun _ _ _ _ _ _ us hl => match us, hl with | [_], _ => rfl
  have F30 := fun_mk (st := sAct) lk30 co30 ke30
  have b_30 := F30.binds (ps := ["row", "states", "symbols", "sign", "top"]) fun _ _ _ _ _ _ us hl => match us, hl with | [_, _, _, _, _], _ => rfl
  have F31 := fun_mk (st := sCaller) lk31 co31 ke31
  have b_31 := F31.binds (ps := ["letters", "one", "two", "modes"]) fun _ _ _ _ _ _ us hl => match us, hl with | [_, _, _, _], _ => rfl
  have F32 := fun_mk (st := sScanner) lk32 co32 ke32
  have b_32 := F32.binds (ps := ["letters", "one", "two"]) fun _ _ _ _ _ _ us hl => match us, hl with | [_, _, _], _ => rfl
  have F33 := fun_mk (st := sRestorer) lk33 co33 ke33
  have b_33 := F33.binds (ps := ["letters", "one", "two"]) fun _ _ _ _ _ _ us hl => match us, hl with | [_, _, _], _ => rfl
  have F34 := fun_mk (st := sClimber) lk34 co34 ke34
  have b_34 := F34.binds (ps := ["letters", "one", "two"]) fun _ _ _ _ _ _ us hl => match us, hl with | [_, _, _], _ => rfl
  have F35 := fun_mk (st := sMachine) lk35 co35 ke35
  have b_35 := F35.binds (ps := ["script", "at"]) fun _ _ _ _ _ _ us hl => match us, hl with | [_, _], _ => rfl
  have F36 := fun_mk (st := sGuesser) lk36 co36 ke36
  have b_36 := F36.binds (ps := ["script", "at"]) fun _ _ _ _ _ _ us hl => match us, hl with | [_, _], _ => rfl
  have FL := fun_mk (st := sLaw) lkL coL keL
  refine ⟨PySem.W.fnOf "law" "law" (defArgs sLaw) (defBody sLaw) (defScope sLaw) .none kVL dcL pmL anL cdL ctL, fun s v => .of_eq rfl, fun base _ _ => ?_⟩
  have g_is_integer : Got l.prog w K mg base "is_integer" 1 ["value"] spInteger := ⟨_, _, ok_integer F1 T, ke1, b_1, m na1⟩
  have g_is_between : Got l.prog w K mg base "is_between" 2 ["value", "least", "most"] spBetween := ⟨_, _, ok_between F2 g_is_integer, ke2, b_2, m na2⟩
  have g_is_sequence : Got l.prog w K mg base "is_sequence" 1 ["value"] (spSequence K) := ⟨_, _, ok_sequence F3 T, ke3, b_3, m na3⟩
  have g_is_row : Got l.prog w K mg base "is_row" 2 ["value", "length"] (spRow K) := ⟨_, _, ok_row F4 T g_is_sequence, ke4, b_4, m na4⟩
  have g_are_letters : Got l.prog w K mg base "are_letters" 1 ["value", "most"] spLetters := ⟨_, _, ok_letters F5 T, ke5, b_5, m na5⟩
  have g_is_alphabet : Got l.prog w K mg base "is_alphabet" 2 ["value"] spAlphabet := ⟨_, _, ok_alphabet F6 T g_are_letters, ke6, b_6, m na6⟩
  have g_is_symbol_mark : Got l.prog w K mg base "is_symbol_mark" 1 ["mark"] spMark := ⟨_, _, ok_mark F7, ke7, b_7, m na7⟩
  have g_is_symbol : Got l.prog w K mg base "is_symbol" 2 ["value"] spSymbol := ⟨_, _, ok_symbol F8 T g_is_symbol_mark, ke8, b_8, m na8⟩
  have g_is_sign : Got l.prog w K mg base "is_sign" 1 ["letters", "value"] spSign := ⟨_, _, ok_sign F9 T, ke9, b_9, m na9⟩
  have g_is_top : Got l.prog w K mg base "is_top" 3 ["value"] spTop := ⟨_, _, ok_top F10 T g_is_symbol, ke10, b_10, m na10⟩
  have g_is_move : Got l.prog w K mg base "is_move" 3 ["sign", "value"] spMove := ⟨_, _, ok_move F11 g_is_between, ke11, b_11, m na11⟩
  have g_is_deed : Got l.prog w K mg base "is_deed" 3 ["top", "deed", "symbol"] spDeed := ⟨_, _, ok_deed F12 T D g_is_symbol, ke12, b_12, m na12⟩
  have g_is_state : Got l.prog w K mg base "is_state" 3 ["states", "value"] spState := ⟨_, _, ok_state F13 g_is_between, ke13, b_13, m na13⟩
  have g_is_rule : Got l.prog w K mg base "is_rule" 4 ["letters", "states", "value"] (spRule K) := ⟨_, _, ok_rule F14 ⟨g_is_row, g_is_state, g_is_sign, g_is_top, g_is_move, g_is_deed, g_are_letters⟩, ke14, b_14, m na14⟩
  have g_check_arguments : Got l.prog w K mg base "check_arguments" 5 ["letters", "states", "rules", "yes"] (spCheck K) := ⟨_, _, ok_check F15 T ⟨g_is_alphabet, g_is_between, g_is_sequence, g_is_rule, g_is_state, ⟨_, m mS⟩, ⟨_, m mR⟩⟩, ke15, b_15, m na15⟩
  have g_symbols_of : Got l.prog w K mg base "symbols_of" 1 ["rules"] (spSymbols K) := ⟨_, _, ok_symbols F16 T, ke16, b_16, m na16⟩
  have g_acts_by_key : Got l.prog w K mg base "acts_by_key" 1 ["rules"] (spActs K) := ⟨_, _, ok_acts F17 T, ke17, b_17, m na17⟩
  have g_first_guess : Got l.prog w K mg base "first_guess" 1 ["acts"] spGuess := ⟨_, _, ok_guess F18 T, ke18, b_18, m na18⟩
  have MD : MDef l.prog w K mg base C fI e0 _ := ⟨MC, MM, m nC, ok_init FI T ⟨g_check_arguments, g_symbols_of, g_acts_by_key, g_first_guess⟩ MC, b4, ⟨ds3, v3, b3⟩, kb, fun H => .inr ⟨_, _, _, lE, rfl, rfl, (by show 0 ≤ sizeLine; decide), .nil⟩⟩
  have g_surf : Sx.GotK l.prog w K mg base "surfaces_at_most" 1 ["machine", "length"] (spSurf K) := ⟨_, _, ok_surf F19 T, ke19, b_19, m na19, ⟨fun s us ws _ h1 h2 => match us, ws, h1, h2 with | [], [_, _], _, _ => .of_eq rfl, fun a c => a.append c⟩⟩
  have g_meet : Sx.GotK l.prog w K mg base "meetings_at_most" 2 ["machine", "length"] (spMeet K) := ⟨_, _, ok_meet F20 g_surf.got, ke20, b_20, m na20, ⟨fun s us ws _ h1 h2 => match us, ws, h1, h2 with | [], [_, _], _, _ => .of_eq rfl, fun a c => a.append c⟩⟩
  have g_edges : Sx.GotK l.prog w K mg base "edges_at_most" 2 ["machine", "length"] (spEdges K) := ⟨_, _, ok_edges F21 g_surf.got, ke21, b_21, m na21, ⟨fun s us ws _ h1 h2 => match us, ws, h1, h2 with | [], [_, _], _, _ => .of_eq rfl, fun a c => a.append c⟩⟩
  have gg_with : Got l.prog w K mg base "rules_with" 1 ["machine", "deed"] (spWith K) := ⟨_, _, ok_with F22 T, ke22, b_22, m na22⟩
  have g_join : Sx.GotK l.prog w K mg base "joinings_at_most" 2 ["machine", "length"] (spJoin K) := ⟨_, _, ok_join F23 T gg_with, ke23, b_23, m na23, ⟨fun s us ws _ h1 h2 => match us, ws, h1, h2 with | [], [_, _], _, _ => .of_eq rfl, fun a c => a.append c⟩⟩
  have g_with : Got l.prog w K mg base "rules_with" 1 ["machine", "deed"] (spWith K) := ⟨_, _, ok_with F22 T, ke22, b_22, m na22⟩
  have g_same : Got l.prog w K mg base "_law_same" 5 ["told", "due"] (spSame K 3) := ⟨_, _, ok_same F25 T F24 b_24 (m na24) b_25 (m na25) 3, ke25, b_25, m na25⟩
  have g_cell : Got l.prog w K mg base "_law_cell" 1 ["script", "k"] (spCellA K) := ⟨_, _, ok_cell F26 T, ke26, b_26, m na26⟩
  have g_digits : Got l.prog w K mg base "_law_digits" 1 ["cell", "sizes"] (spDigits K) := ⟨_, _, ok_digits F27 T, ke27, b_27, m na27⟩
  have g_alpha : Got l.prog w K mg base "_law_alphabet" 1 ["row"] (spAlpha K) := ⟨_, _, ok_alpha F28, ke28, b_28, m na28⟩
  have g_syms : Got l.prog w K mg base "_law_symbols" 1 ["digit"] spSyms := ⟨_, _, ok_syms F29, ke29, b_29, m na29⟩
  have g_act : Got l.prog w K mg base "_law_act" 1 ["row", "states", "symbols", "sign", "top"] (spAct K) := ⟨_, _, ok_act F30 T, ke30, b_30, m na30⟩
  have g_caller : Got l.prog w K mg base "_law_caller" 1 ["letters", "one", "two", "modes"] (spCaller K) := ⟨_, _, ok_caller F31 T, ke31, b_31, m na31⟩
  have g_scanner : Got l.prog w K mg base "_law_scanner" 1 ["letters", "one", "two"] spSkel := ⟨_, _, ok_scanner F32 T, ke32, b_32, m na32⟩
  have g_restorer : Got l.prog w K mg base "_law_restorer" 1 ["letters", "one", "two"] spSkel5 := ⟨_, _, ok_restorer F33 T, ke33, b_33, m na33⟩
  have g_climber : Got l.prog w K mg base "_law_climber" 1 ["letters", "one", "two"] spSkel := ⟨_, _, ok_climber F34, ke34, b_34, m na34⟩
  have g_machine : Got l.prog w K mg base "_law_machine" 2 ["script", "at"] (spMach K) := ⟨_, _, ok_machine F35 T ⟨g_cell, g_digits, g_alpha, g_syms, g_act, g_caller, g_restorer, g_scanner, g_climber⟩, ke35, b_35, m na35⟩
  have g_guesser : Got l.prog w K mg base "_law_guesser" 2 ["script", "at"] (spMach K) := ⟨_, _, ok_guesser F36 T ⟨g_cell, g_digits, g_alpha, g_syms, g_act, g_caller, g_restorer, g_scanner, g_climber⟩, ke36, b_36, m na36⟩
  exact ok_law FL T ⟨g_cell, g_digits, g_machine, g_guesser, g_surf, g_meet, g_edges, g_join, g_same⟩ MD
theorem walk {l : PySem.W.OpenLaw} {q : Program} {loose : List Str} {XP : (Str → Option Value) → Heap → Prop} {YP : World → Heap → Prop} {d : DefRec} {K : Params → PySem.W.Frag} (hn : l.most = some 63) (hdf : d.params.defaults = [])
    (hY : ∀ (w : World) (h : Heap), YP w h → (K w.params).In h)
    (F : ∀ (w : World) (mg : Str → Option Value) (fa : Addr) (h : Heap), (K w.params).In h → h.Ns mainGlobals mg → mg d.name = some (.ref fa) →
      ∃ fd : FuncData, (∀ (s : Shared) (u : Value), BindsTo s fd ⟨[u], []⟩ [("script", u)]) ∧ ∀ base : Heap, (K w.params).In base → base.Ns mainGlobals mg → FnOk l.prog w (K w.params) mg base CX0 8 fa fd ["script"] (spLaw (K w.params))) :
    PySem.W.WalkO q loose XP YP l.row.toRowW d [] (fun f vs => PySem.call f vs) :=
  L2.walk_of (n := 63) (k := 8) (x := "script") (CX := fun _ => CX0) (sp := fun w => spLaw (K w.params)) hn (by decide) hdf ⟨rfl, by decide, by decide⟩ hY F (fun _ _ a ns _ _ hS => ⟨a, ns, rfl, hS, fun _ => rfl⟩) fun _ _ _ _ _ z => z
end Mk

set_option Elab.async false
open PySem PySem.W PyProof.Rows
set_option maxRecDepth 100000 in
set_option maxHeartbeats 0 in
theorem PySem.Challenge.cw_pilerecall_k17_bills_ahead_holds : PySem.Challenge.rw_pilerecall_k17_bills_ahead.Holds := by
  w_on; o_law; k_head; (case hw => w_witness2)
  k_fill
  refine Mk.walk (l := PySem.Challenge.rw_pilerecall_k17_bills_ahead) rfl rfl (fun w h Y => PySem.W.kIn_of Y) ?F
  case F =>
    intro w mg fa h KX G hmg
    refine' Mk.all_mk KX G hmg ?na1 ?lk1 ?co1 ?ke1 ?na2 ?lk2 ?co2 ?ke2 ?na3 ?lk3 ?co3 ?ke3 ?na4 ?lk4 ?co4 ?ke4 ?na5 ?lk5 ?co5 ?ke5 ?na6 ?lk6 ?co6 ?ke6 ?na7 ?lk7 ?co7 ?ke7 ?na8 ?lk8 ?co8 ?ke8 ?na9 ?lk9 ?co9 ?ke9 ?na10 ?lk10 ?co10 ?ke10 ?na11 ?lk11 ?co11 ?ke11 ?na12 ?lk12 ?co12 ?ke12 ?na13 ?lk13 ?co13 ?ke13 ?na14 ?lk14 ?co14 ?ke14 ?na15 ?lk15 ?co15 ?ke15 ?na16 ?lk16 ?co16 ?ke16 ?na17 ?lk17 ?co17 ?ke17 ?na18 ?lk18 ?co18 ?ke18 ?na19 ?lk19 ?co19 ?ke19 ?na20 ?lk20 ?co20 ?ke20 ?na21 ?lk21 ?co21 ?ke21 ?na22 ?lk22 ?co22 ?ke22 ?na23 ?lk23 ?co23 ?ke23 ?na24 ?lk24 ?co24 ?ke24 ?na25 ?lk25 ?co25 ?ke25 ?na26 ?lk26 ?co26 ?ke26 ?na27 ?lk27 ?co27 ?ke27 ?na28 ?lk28 ?co28 ?ke28 ?na29 ?lk29 ?co29 ?ke29 ?na30 ?lk30 ?co30 ?ke30 ?na31 ?lk31 ?co31 ?ke31 ?na32 ?lk32 ?co32 ?ke32 ?na33 ?lk33 ?co33 ?ke33 ?na34 ?lk34 ?co34 ?ke34 ?na35 ?lk35 ?co35 ?ke35 ?na36 ?lk36 ?co36 ?ke36 ?naL ?lkL ?coL ?keL ?nC ?c1 ?c2 ?c3 ?c4 ?no0 ?no1 ?no2 ?no3 ?no4 ?no5 ?no6 ?mk1 ?mk2 ?mk3 ?mk4 ?lI ?cI ?kI ?lT ?lE ?nDD ?lD ?mS ?mR ?z_isinstance ?z_int ?z_bool ?z_str ?z_tuple ?z_list ?z_len ?z_range ?z_all ?z_sorted ?z_set ?z_abs
    (case na1 => k_is)
    (case lk1 => k_is)
    (case co1 => k_is)
    (case ke1 => k_is)
    (case na2 => k_is)
    (case lk2 => k_is)
    (case co2 => k_is)
    (case ke2 => k_is)
    (case na3 => k_is)
    (case lk3 => k_is)
    (case co3 => k_is)
    (case ke3 => k_is)
    (case na4 => k_is)
    (case lk4 => k_is)
    (case co4 => k_is)
    (case ke4 => k_is)
    (case na5 => k_is)
    (case lk5 => k_is)
    (case co5 => k_is)
    (case ke5 => k_is)
    (case na6 => k_is)
    (case lk6 => k_is)
    (case co6 => k_is)
    (case ke6 => k_is)
    (case na7 => k_is)
    (case lk7 => k_is)
    (case co7 => k_is)
    (case ke7 => k_is)
    (case na8 => k_is)
    (case lk8 => k_is)
    (case co8 => k_is)
    (case ke8 => k_is)
    (case na9 => k_is)
    (case lk9 => k_is)
    (case co9 => k_is)
    (case ke9 => k_is)
    (case na10 => k_is)
    (case lk10 => k_is)
    (case co10 => k_is)
    (case ke10 => k_is)
    (case na11 => k_is)
    (case lk11 => k_is)
    (case co11 => k_is)
    (case ke11 => k_is)
    (case na12 => k_is)
    (case lk12 => k_is)
    (case co12 => k_is)
    (case ke12 => k_is)
    (case na13 => k_is)
    (case lk13 => k_is)
    (case co13 => k_is)
    (case ke13 => k_is)
    (case na14 => k_is)
    (case lk14 => k_is)
    (case co14 => k_is)
    (case ke14 => k_is)
    (case na15 => k_is)
    (case lk15 => k_is)
    (case co15 => k_is)
    (case ke15 => k_is)
    (case na16 => k_is)
    (case lk16 => k_is)
    (case co16 => k_is)
    (case ke16 => k_is)
    (case na17 => k_is)
    (case lk17 => k_is)
    (case co17 => k_is)
    (case ke17 => k_is)
    (case na18 => k_is)
    (case lk18 => k_is)
    (case co18 => k_is)
    (case ke18 => k_is)
    (case na19 => k_is)
    (case lk19 => k_is)
    (case co19 => k_is)
    (case ke19 => k_is)
    (case na20 => k_is)
    (case lk20 => k_is)
    (case co20 => k_is)
    (case ke20 => k_is)
    (case na21 => k_is)
    (case lk21 => k_is)
    (case co21 => k_is)
    (case ke21 => k_is)
    (case na22 => k_is)
    (case lk22 => k_is)
    (case co22 => k_is)
    (case ke22 => k_is)
    (case na23 => k_is)
    (case lk23 => k_is)
    (case co23 => k_is)
    (case ke23 => k_is)
    (case na24 => k_is)
    (case lk24 => k_is)
    (case co24 => k_is)
    (case ke24 => k_is)
    (case na25 => k_is)
    (case lk25 => k_is)
    (case co25 => k_is)
    (case ke25 => k_is)
    (case na26 => k_is)
    (case lk26 => k_is)
    (case co26 => k_is)
    (case ke26 => k_is)
    (case na27 => k_is)
    (case lk27 => k_is)
    (case co27 => k_is)
    (case ke27 => k_is)
    (case na28 => k_is)
    (case lk28 => k_is)
    (case co28 => k_is)
    (case ke28 => k_is)
    (case na29 => k_is)
    (case lk29 => k_is)
    (case co29 => k_is)
    (case ke29 => k_is)
    (case na30 => k_is)
    (case lk30 => k_is)
    (case co30 => k_is)
    (case ke30 => k_is)
    (case na31 => k_is)
    (case lk31 => k_is)
    (case co31 => k_is)
    (case ke31 => k_is)
    (case na32 => k_is)
    (case lk32 => k_is)
    (case co32 => k_is)
    (case ke32 => k_is)
    (case na33 => k_is)
    (case lk33 => k_is)
    (case co33 => k_is)
    (case ke33 => k_is)
    (case na34 => k_is)
    (case lk34 => k_is)
    (case co34 => k_is)
    (case ke34 => k_is)
    (case na35 => k_is)
    (case lk35 => k_is)
    (case co35 => k_is)
    (case ke35 => k_is)
    (case na36 => k_is)
    (case lk36 => k_is)
    (case co36 => k_is)
    (case ke36 => k_is)
    (case naL => k_is)
    (case lkL => k_is)
    (case coL => k_is)
    (case keL => k_is)
    (case nC => k_is)
    (case c1 => k_is)
    (case c2 => k_is)
    (case c3 => k_is)
    (case c4 => k_is)
    (case no0 => k_is)
    (case no1 => k_is)
    (case no2 => k_is)
    (case no3 => k_is)
    (case no4 => k_is)
    (case no5 => k_is)
    (case no6 => k_is)
    (case mk1 => k_is)
    (case mk2 => k_is)
    (case mk3 => k_is)
    (case mk4 => k_is)
    (case lI => k_is)
    (case cI => k_is)
    (case kI => k_is)
    (case lT => k_is)
    (case lE => k_is)
    (case nDD => k_is)
    (case lD => k_is)
    (case mS => k_is)
    (case mR => k_is)
    (case z_isinstance => k_is)
    (case z_int => k_is)
    (case z_bool => k_is)
    (case z_str => k_is)
    (case z_tuple => k_is)
    (case z_list => k_is)
    (case z_len => k_is)
    (case z_range => k_is)
    (case z_all => k_is)
    (case z_sorted => k_is)
    (case z_set => k_is)
    (case z_abs => k_is)

