import PyProof.Rows.All
import Wide.All
import OpenK.AllK
import Wide.FinOn
import HandS.ForMost
import HandS.Wide
import HandS.EndBits
import HandS.IsInst
import HandS.Conv
import HandS.Defaults
import HandS.Walk
import HandS.Steps
import HandS.ForExc
import HandS.TupSets
import HandS.SetBool
import HandS.Dict
import HandS.SortOrd
import HandS.SortRule
import HandS.SetKeys
import HandS.DictComp
import PyProof.DictMoreH
import HandS.SetFor
import HandS.SortInts
import HandS.Strs
import HandS.Codes
import HandS.MakeKw
import HandS.Base
import HandS.Call
import HandS.List
import HandS.Comp
import HandS.Replace
import PyProof.ToksMono
import HandS.Text
import HandS.Evl
import HandS.TupAny
import PyProof.ListMulRoad
import PyProof.FactsAll.tuple_2
import HandS.TupMul
import HandS.StrMore
import KE.KStateDown
import HandS.Ends
import HandS.Head0
import HandS.Head1
import HandS.Head2
import HandS.HeadEnd
import HandS.HeadHook1
import HandS.HeadHook2
import HandS.HeadHook3
import HandS.HeadHook4
import Wide.Once
import PySem.Challenge.RW_pilerecall_k09_excursion_whole
set_option Elab.async false
set_option maxRecDepth 100000
set_option maxHeartbeats 4000000
namespace Pk
open PySem L2

/-! deep data in the heap -/
theorem Same.tup {K : PySem.W.Frag} {H H' : Hp} {a : Addr} {xs : List V} (e : Same H H') (h : SqT K H a xs) : SqT K H' a xs := by
  rcases h with (h | ⟨o, h⟩) | h
  · exact .inl (.inl (e _ _ h))
  · exact .inl (.inr ⟨o, e _ _ h⟩)
  · exact .inr h
mutual
theorem dp_mono {K : PySem.W.Frag} {H H' : Hp} (e : Same H H') : ∀ (d : PyData) (v : V), Dp K H v d → Dp K H' v d
  | .none, _, h => by cases h; exact .non
  | .bool _, _, h => by cases h; exact .bl _
  | .int _, _, h => by cases h; exact .int _
  | .str _, _, h => by cases h; exact .str _
  | .list ds, _, h => by
    cases h with
    | lst hs ha => exact .lst (e.seq hs) (dpa_mono e ds _ ha)
  | .tuple ds, _, h => by
    cases h with
    | tup hs ha => exact .tup (Same.tup e hs) (dpa_mono e ds _ ha)
  | .dict _, _, h => by cases h
theorem dpa_mono {K : PySem.W.Frag} {H H' : Hp} (e : Same H H') : ∀ (ds : List PyData) (vs : List V), DpAll K H vs ds → DpAll K H' vs ds
  | [], _, h => by cases h; exact .nil
  | d :: ds, _, h => by
    cases h with
    | cons h1 h2 => exact .cons (dp_mono e d _ h1) (dpa_mono e ds _ h2)
end
theorem dpa_len {K : PySem.W.Frag} {H : Hp} : ∀ {ds : List PyData} {vs : List V}, DpAll K H vs ds → vs.length = ds.length
  | [], _, h => by cases h; rfl
  | _ :: _, _, h => by
    cases h with
    | cons _ h2 => rw [List.length_cons, List.length_cons, dpa_len h2]
theorem dpa_get {K : PySem.W.Frag} {H : Hp} : ∀ {ds : List PyData} {vs : List V} {i : Nat} {v : V}, DpAll K H vs ds → vs[i]? = some v → ∃ d, ds[i]? = some d ∧ Dp K H v d
  | [], _, i, v, h, e => by cases h; simp at e
  | d :: ds, _, 0, v, h, e => by
    cases h with
    | cons h1 h2 => simp at e; subst e; exact ⟨d, rfl, h1⟩
  | d :: ds, _, i + 1, v, h, e => by
    cases h with
    | cons h1 h2 =>
      obtain ⟨x, e1, e2⟩ := dpa_get (i := i) (v := v) h2 (by simpa using e)
      exact ⟨x, by simpa using e1, e2⟩
theorem dpa_append {K : PySem.W.Frag} {H : Hp} : ∀ {ds es : List PyData} {vs us : List V}, DpAll K H vs ds → DpAll K H us es → DpAll K H (vs ++ us) (ds ++ es)
  | [], _, _, _, h, g => by cases h; exact g
  | _ :: _, _, _, _, h, g => by
    cases h with
    | cons h1 h2 => exact .cons h1 (dpa_append h2 g)
theorem same_new {H : Hp} {p : Addr} {o : HO} (h : H p = none) : Same H (upd H p o) := fun b u e => by
  rw [upd_ne (ne_of_none e h)]
  exact e
/-- what H0 did not know may change -/
theorem same_mut {H0 H : Hp} {p : Addr} {o : HO} (e : Same H0 H) (h : H0 p = none) : Same H0 (upd H p o) := fun b u q => by
  rw [upd_ne (ne_of_none q h)]
  exact e b u q
/-- the heap without what stands at q -/
def hide (q : Addr) (H : Hp) : Hp := fun b => if b = q then none else H b
theorem hide_ne {q b : Addr} {H : Hp} (h : b ≠ q) : hide q H b = H b := if_neg h
theorem hide_same {q : Addr} {H : Hp} : hide q H q = none := if_pos rfl
theorem hide_le {q : Addr} {H : Hp} : Same (hide q H) H := fun b o e => by
  by_cases h : b = q
  · rw [h, hide_same] at e
    cases e
  · rw [hide_ne h] at e
    exact e
theorem hide_upd {q : Addr} {H : Hp} {o : HO} : hide q (upd H q o) = hide q H := by
  funext b
  by_cases h : b = q
  · rw [h, hide_same, hide_same]
  · rw [hide_ne h, hide_ne h, upd_ne h]
theorem hide_new {q r : Addr} {H : Hp} {o : HO} (h : r ≠ q) : hide q (upd H r o) = upd (hide q H) r o := by
  funext b
  by_cases e : b = q
  · rw [e, hide_same, upd_ne h.symm, hide_same]
  · rw [hide_ne e]
    by_cases e2 : b = r
    · rw [e2, upd_same, upd_same]
    · rw [upd_ne e2, upd_ne e2, hide_ne e]
theorem hide_base {q : Addr} {H0 H : Hp} (e : Same H0 H) (h : H0 q = none) : Same H0 (hide q H) := fun b o z => by
  rw [hide_ne (ne_of_none z h)]
  exact e b o z
theorem hide_mono {q : Addr} {H H' : Hp} (e : Same H H') : Same (hide q H) (hide q H') := fun b o z => by
  by_cases h : b = q
  · rw [h, hide_same] at z
    cases z
  · rw [hide_ne h] at z ⊢
    exact e b o z
theorem hide_none {q r : Addr} {H : Hp} (h : H r = none) : hide q H r = none := by
  by_cases e : r = q
  · rw [e, hide_same]
  · rw [hide_ne e, h]
/-- of H' what H did not know -/
def newOnly (H H' : Hp) : Hp := fun b => match H b with
  | none => H' b
  | some _ => none
theorem newOnly_at {H H' : Hp} {a : Addr} {o : HO} (h : H a = none) (e : H' a = some o) : newOnly H H' a = some o := by
  unfold newOnly
  rw [h]
  exact e
theorem newOnly_hide {H H' : Hp} {q : Addr} {o : HO} (h : H q = some o) : Same (newOnly H H') (hide q H') := fun b u e => by
  unfold newOnly at e
  cases z : H b with
  | none =>
    rw [z] at e
    rw [hide_ne (ne_of_none h z).symm]
    exact e
  | some y =>
    rw [z] at e
    cases e
theorem mapInt {ns : List Int} {i : Nat} {v : V} (h : (ns.map V.int)[i]? = some v) : ∃ z, ns[i]? = some z ∧ v = V.int z := by
  rw [List.getElem?_map] at h
  cases e : ns[i]? with
  | none => rw [e] at h; cases h
  | some z => rw [e] at h; exact ⟨z, rfl, (Option.some.inj h).symm⟩

/-- the built-in names that are used -/
structure TB (mg : Str → Option Value) : Prop where
  isi : mg "isinstance" = none
  int : mg "int" = none
  bool : mg "bool" = none
  str : mg "str" = none
  tuple : mg "tuple" = none
  list : mg "list" = none
  len : mg "len" = none
  range : mg "range" = none
  sum : mg "sum" = none
  abs : mg "abs" = none

theorem lt_pow_natAbs {i : Int} {n : Nat} (h : i.natAbs < 2 ^ n) : -(2 ^ n : Int) < i ∧ i < (2 ^ n : Int) := by
  have e : ((2 ^ n : Nat) : Int) = (2 : Int) ^ n := by simp
  omega
end Pk

set_option Elab.async false
set_option maxRecDepth 100000
set_option maxHeartbeats 4000000
namespace Mk
open PySem L2 Pk
def top (i : Nat) : Stmt := PySem.Challenge.pw_pilerecall_k09_excursion_whole.main.body.getD i (.Pass ⟨0, 0, 0, 0⟩)
abbrev sInteger : Stmt := top 12
abbrev sBetween : Stmt := top 13
abbrev sSequence : Stmt := top 14
abbrev sRow : Stmt := top 15
abbrev sLetters : Stmt := top 16
abbrev sAlphabet : Stmt := top 17
abbrev sMark : Stmt := top 19
abbrev sSymbol : Stmt := top 20
abbrev sSign : Stmt := top 21
abbrev sTop : Stmt := top 22
abbrev sMove : Stmt := top 23
abbrev sDeed : Stmt := top 24
abbrev sState : Stmt := top 25
abbrev sRule : Stmt := top 26
/-- the built-in names -/
structure TM (mg : PySem.Str → Option Value) : Prop where
  isi : mg "isinstance" = none
  int : mg "int" = none
  bool : mg "bool" = none
  str : mg "str" = none
  tuple : mg "tuple" = none
  list : mg "list" = none
  len : mg "len" = none
  range : mg "range" = none
  all : mg "all" = none
  sorted : mg "sorted" = none
  set : mg "set" = none
  abs : mg "abs" = none
/-- a list or a tuple, by a bit -/
def SqB (b : Bool) (K : PySem.W.Frag) (H : Hp) (a : Addr) (xs : List V) : Prop := match b with
  | true => SqL K H a xs
  | false => SqT K H a xs
theorem SqB.any {b : Bool} {K : PySem.W.Frag} {H : Hp} {a : Addr} {xs : List V} (h : SqB b K H a xs) : SqL K H a xs ∨ SqT K H a xs := by
  cases b
  · exact .inr h
  · exact .inl h
theorem SqB.mono {b : Bool} {K : PySem.W.Frag} {H H' : Hp} {a : Addr} {xs : List V} (e : Same H H') (h : SqB b K H a xs) : SqB b K H' a xs := by
  cases b
  · exact Same.tup e h
  · exact e.seq h
def sqTy (b : Bool) : String := if b = true then "list" else "tuple"
theorem tyx_sq {b : Bool} {K : PySem.W.Frag} {H : Hp} {a : Addr} {xs : List V} (h : SqB b K H a xs) : TyX K H (.ref a) (.type (sqTy b)) := by
  cases b with
  | false =>
    rcases (show SqT K H a xs from h) with (h | ⟨o, h⟩) | ⟨o, its, n, h, hc, _⟩
    · exact .base (.tup h)
    · exact .fTuple h
    · exact .kTuple h hc
  | true =>
    rcases (show SqL K H a xs from h) with (h | ⟨o, h⟩) | ⟨o, its, n, h, hc, _⟩
    · exact .base (.lst h)
    · exact .base (.frz h)
    · exact .kList h hc
section
variable {P : Program} {w : World} {K : PySem.W.Frag} {mg : PySem.Str → Option Value} {base : Heap}
/-- the def x stands, is reached by its name, and keeps sp -/
def Got (P : Program) (w : World) (K : PySem.W.Frag) (mg : PySem.Str → Option Value) (base : Heap) (x : PySem.Str) (k : Nat) (ps : List PySem.Str) (sp : Sp) : Prop :=
  ∃ f fd, FnOk P w K mg base CX0 k f fd ps sp ∧ PySem.W.keepIn K (.ref f) = true ∧ Binds K fd ps [] ∧ mg x = some (.ref f)
theorem pe_got {X : Cx} {x : PySem.Str} {k : Nat} {ps : List PySem.Str} {sp : Sp} {p pos : Pos} {e : Expr} {es : List Expr} {t : TA} (h : Got X.prog X.w X.K X.mg X.base x k ps sp) (hr : Room k X.A) (hg : Gl X x) (ha : PA X (e :: es) t)
    (hdb : (x == ("__debug__" : PySem.Str)) = false := by decide) (he : starEach (e :: es) X.env = (false, eval e X.env) :: starEach es X.env := by rfl) (hpl : (backTo pos (starEach es X.env)).any (·.1) = false := by rfl) :
    PE X (.Call (.Name x p) (e :: es) [] pos) (tCall sp [] E0 t) := by
  obtain ⟨f, fd, G, kp, b, g⟩ := h
  exact pe_call G hr hg g kp b .nil pass0 ha hdb he hpl
/-! is_integer, is_between -/
def spInteger : Sp := fun vs H Q _ => ∃ n : Int, vs = [.int n] ∧ Q (.bl true) H
theorem scInteger : FnScope ["value"] ["value"] (defScope sInteger) := ⟨rfl, rfl, rfl, by decide +kernel, rfl, by decide +kernel, by decide +kernel⟩
theorem ok_integer {f : Addr} {fd : FuncData} (F : Fun K "is_integer" "is_integer" sInteger f fd) (T : TM mg) : FnOk P w K mg base CX0 1 f fd ["value"] spInteger := by
  refine F.ok scInteger (fun vs H Q E h => ?_) (fun cdv A outer s H vs Q E hr h => ?_)
  · obtain ⟨n, rfl, _⟩ := h
    rfl
  · obtain ⟨n, rfl, k⟩ := h
    refine ⟨_, pss_one (ps_ret (pe_and (pe_callB call_isi (by rfl) T.isi (by decide +kernel) (pa_cons (pv 0) (pa_cons (pe_bltn (v := .ty "int") (by rfl) T.int PyProof.Rows.Boot.int rfl) pa_nil)))
      (pe_one (pe_not (pe_callB call_isi (by rfl) T.isi (by decide +kernel) (pa_cons (pv 0) (pa_cons (pe_bltn (v := .ty "bool") (by rfl) T.bool PyProof.Rows.Boot.bool rfl) pa_nil))))))), ?_⟩
    refine ⟨_, rfl, _, _, _, _, true, rfl, .ty _, .base (.int _), kit_ty (by decide +kernel), _, rfl, ?_⟩
    refine iteT ?_
    exact ⟨_, rfl, _, _, _, _, false, rfl, .ty _, .base (.int _), kit_ty (by decide +kernel), _, rfl, k⟩
def spBetween : Sp := fun vs H Q _ => ∃ n lo hi : Int, vs = [.int n, .int lo, .int hi] ∧ Q (.bl (decide (lo ≤ n) && decide (n ≤ hi))) H
theorem scBetween : FnScope ["value", "least", "most"] ["value", "least", "most"] (defScope sBetween) := ⟨rfl, rfl, rfl, by decide +kernel, rfl, by decide +kernel, by decide +kernel⟩
theorem ok_between {f : Addr} {fd : FuncData} (F : Fun K "is_between" "is_between" sBetween f fd) (G : Got P w K mg base "is_integer" 1 ["value"] spInteger) : FnOk P w K mg base CX0 2 f fd ["value", "least", "most"] spBetween := by
  refine F.ok scBetween (fun vs H Q E h => ?_) (fun cdv A outer s H vs Q E hr h => ?_)
  · obtain ⟨n, lo, hi, rfl, _⟩ := h
    rfl
  · obtain ⟨n, lo, hi, rfl, k⟩ := h
    refine ⟨_, pss_one (ps_ret (pe_and (pe_got G hr (by rfl) (pa_cons (pv 0) pa_nil)) (pe_one (pe_chain op_le op_le (pv 1) (pv 0) (pv 2))))), ?_⟩
    refine ⟨_, rfl, n, rfl, _, rfl, ?_⟩
    refine iteT ?_
    refine ⟨_, rfl, _, rfl, _, _, rfl, rfl, _, rfl, ?_⟩
    refine ite2 (fun c => ?_) (fun c => ?_)
    · refine ⟨_, rfl, _, _, rfl, rfl, ?_⟩
      rw [c] at k
      exact k
    · rw [Bool.eq_false_iff.mpr c] at k
      exact k
/-! is_sequence, is_row -/
def spSequence (K : PySem.W.Frag) : Sp := fun vs H Q _ => ∃ (a : Addr) (b : Bool) (xs : List V), vs = [.ref a] ∧ SqB b K H a xs ∧ ∀ H', Same H H' → Q (.bl true) H'
theorem scSequence : FnScope ["value"] ["value"] (defScope sSequence) := ⟨rfl, rfl, rfl, by decide +kernel, rfl, by decide +kernel, by decide +kernel⟩
theorem kit_seq {K : PySem.W.Frag} (b : Bool) : PySem.W.kitAny K (.type (sqTy b)) [.type "list", .type "tuple"] = some true := by
  cases b
  · exact kitAny_cons (b := false) (kit_ty (by decide +kernel)) (fun _ => kitAny_cons (b := true) (kit_ty (by decide +kernel)) (fun z => nomatch z) fun _ => rfl) fun _ => rfl
  · exact kitAny_cons (b := true) (kit_ty (by decide +kernel)) (fun z => nomatch z) fun _ => rfl
theorem ok_sequence {f : Addr} {fd : FuncData} (F : Fun K "is_sequence" "is_sequence" sSequence f fd) (T : TM mg) : FnOk P w K mg base CX0 1 f fd ["value"] (spSequence K) := by
  refine F.ok scSequence (fun vs H Q E h => ?_) (fun cdv A outer s H vs Q E hr h => ?_)
  · obtain ⟨a, b, xs, rfl, _⟩ := h
    rfl
  · obtain ⟨a, b, xs, rfl, hS, k⟩ := h
    refine ⟨_, pss_one (ps_ret (pe_callB call_isiT (by rfl) T.isi (by decide +kernel) (pa_cons (pv 0) (pa_cons (pe_tup (pa_cons (pe_bltn (v := .ty "list") (by rfl) T.list PyProof.Rows.Boot.list rfl) (pa_cons (pe_bltn (v := .ty "tuple") (by rfl) T.tuple PyProof.Rows.Boot.tuple rfl) pa_nil))) pa_nil)))), ?_⟩
    refine ⟨_, rfl, by decide, fun p hp => ?_⟩
    exact ⟨_, p, _, _, _, true, rfl, upd_same, .cons (.ty _) (.cons (.ty _) .nil), tyx_sq (hS.mono (same_new hp)), kit_seq b, k _ (same_new hp)⟩
def spRow (K : PySem.W.Frag) : Sp := fun vs H Q _ => ∃ (a : Addr) (b : Bool) (xs : List V) (n : Int), vs = [.ref a, .int n] ∧ SqB b K H a xs ∧ ∀ H', Same H H' → Q (.bl (decide ((xs.length : Int) = n))) H'
theorem scRow : FnScope ["value", "length"] ["value", "length"] (defScope sRow) := ⟨rfl, rfl, rfl, by decide +kernel, rfl, by decide +kernel, by decide +kernel⟩
theorem ok_row {f : Addr} {fd : FuncData} (F : Fun K "is_row" "is_row" sRow f fd) (T : TM mg) (G : Got P w K mg base "is_sequence" 1 ["value"] (spSequence K)) : FnOk P w K mg base CX0 2 f fd ["value", "length"] (spRow K) := by
  refine F.ok scRow (fun vs H Q E h => ?_) (fun cdv A outer s H vs Q E hr h => ?_)
  · obtain ⟨a, b, xs, n, rfl, _⟩ := h
    rfl
  · obtain ⟨a, b, xs, n, rfl, hS, k⟩ := h
    refine ⟨_, pss_one (ps_ret (pe_and (pe_got G hr (by rfl) (pa_cons (pv 0) pa_nil)) (pe_one (pe_cmpR op_eq (pe_callB call_len_seq (by rfl) T.len PySem.boot_len (pa_cons (pv 0) pa_nil)) (pv 1) (nomark _))))), ?_⟩
    refine ⟨_, rfl, a, b, xs, rfl, hS, fun H1 s1 => ⟨_, rfl, ?_⟩⟩
    refine iteT ?_
    refine ⟨_, rfl, a, xs, rfl, (hS.mono s1).any, _, rfl, rfl, ?_⟩
    have e : decide (V.int (xs.length : Int) = V.int n) = decide ((xs.length : Int) = n) := by simp
    rw [e]
    exact k H1 s1
end
end Mk

set_option Elab.async false
set_option maxRecDepth 100000
set_option maxHeartbeats 4000000
namespace Mk
open PySem L2 Pk
section
variable {P : Program} {w : World} {K : PySem.W.Frag} {mg : PySem.Str → Option Value} {base : Heap}
/-! are_letters -/
def lowC (c : Nat) : Bool := decide (97 ≤ c) && decide (c ≤ 122)
def lowB (x : PySem.Str) : Bool := x.cps.toList.all lowC
def spLetters : Sp := fun vs H Q _ => ∃ (x : PySem.Str) (m : Int), vs = [.str x, .int m] ∧ x.length ≤ 1000 ∧ ∀ H', Same H H' → Q (.bl (decide ((x.length : Int) ≤ m) && lowB x)) H'
theorem scLetters : FnScope ["value", "most", "letter"] ["value", "most"] (defScope sLetters) := ⟨rfl, rfl, rfl, by decide +kernel, rfl, by decide +kernel, by decide +kernel⟩
theorem lt_one (a b : Nat) : decide (([a] : List Nat) < [b]) = decide (a < b) := by
  rw [Bool.eq_iff_iff, decide_eq_true_eq, decide_eq_true_eq]
  constructor
  · intro h
    cases h with
    | rel h => exact h
    | cons h => cases h
  · intro h
    exact List.Lex.rel h
theorem ge_sign (c lo : Nat) (z : PySem.Str) (hz : z.cps.toList = [lo]) : (!decide ((⟨#[c]⟩ : PySem.Str).cps.toList < z.cps.toList)) = decide (lo ≤ c) := by
  rw [hz]
  show (!decide (([c] : List Nat) < [lo])) = _
  rw [lt_one]
  by_cases h : lo ≤ c
  · rw [decide_eq_true h, decide_eq_false (by omega)] <;> rfl
  · rw [decide_eq_false h, decide_eq_true (by omega)] <;> rfl
theorem le_sign (c hi : Nat) (z : PySem.Str) (hz : z.cps.toList = [hi]) : (!decide (z.cps.toList < (⟨#[c]⟩ : PySem.Str).cps.toList)) = decide (c ≤ hi) := by
  rw [hz]
  show (!decide (([hi] : List Nat) < [c])) = _
  rw [lt_one]
  by_cases h : c ≤ hi
  · rw [decide_eq_true h, decide_eq_false (by omega)] <;> rfl
  · rw [decide_eq_false h, decide_eq_true (by omega)] <;> rfl
theorem str_len (x : PySem.Str) : x.length = x.cps.size := rfl
theorem take_at {α : Type} {l : List α} {i : Nat} {c : α} (h : l[i]? = some c) : l.take (i + 1) = l.take i ++ [c] := by
  rw [List.take_add_one, h] <;> rfl
theorem ok_letters {f : Addr} {fd : FuncData} (F : Fun K "are_letters" "are_letters" sLetters f fd) (T : TM mg) : FnOk P w K mg base CX0 1 f fd ["value", "most"] spLetters := by
  refine F.ok scLetters (fun vs H Q E h => ?_) (fun cdv A outer s H vs Q E hr h => ?_)
  · obtain ⟨x, m, rfl, _⟩ := h
    rfl
  · obtain ⟨x, m, rfl, hl, k⟩ := h
    refine ⟨_, pss_cons (ps_if (PW.pt (pw_or (pt_not (pt_val (pe_callB call_isi (by rfl) T.isi (by decide +kernel) (pa_cons (pv 0) (pa_cons (pe_bltn (v := .ty "str") (by rfl) T.str PyProof.Rows.Boot.str rfl) pa_nil)))))
        (pw_or1 (pt_cmpR op_gt (pe_callB call_len_str (by rfl) T.len PySem.boot_len (pa_cons (pv 0) pa_nil)) (pv 1) (nomark _))))) (pss_one (ps_ret pe_bl)) pss_nil)
      (pss_one (ps_ret (pe_callB (cr_all rfl) (by rfl) T.all (by decide +kernel) (pa_cons (pe_lc (own := [("letter", 2)]) (g := gName 2) (tt := tYes) (by rfl) scLetters.nd (pi_str (pv 0))
        (blkOk_by (own := [("letter", 2)]) (N := ["value", "most", "letter"]) (sc := defScope sLetters) (by decide +kernel))
        (fun _ _ _ _ _ => pg_name (i := 2) scLetters.nd rfl (Or.inl rfl)) (fun _ _ _ _ _ => pts_nil) (fun _ _ _ _ _ => pe_chain op_le_str op_le_str pe_str (pv 2) pe_str)) pa_nil)))), ?_⟩
    have sz : x.length ≤ sizeLine := Nat.le_trans hl (by decide)
    refine ⟨_, rfl, _, _, _, _, true, rfl, .ty _, .base (.str _), kit_ty (by decide +kernel), _, rfl, ?_⟩
    refine iteF ?_
    refine ⟨_, rfl, x, rfl, sz, _, rfl, _, _, rfl, rfl, _, rfl, ?_⟩
    refine ite2 (fun c => ?_) (fun c => ?_)
    · have c' := of_decide_eq_true c
      have e : decide ((x.length : Int) ≤ m) = false := decide_eq_false (by omega)
      have q := k H (fun _ _ z => z)
      rw [e] at q
      exact q
    · have c' : ¬ ((x.length : Int) > m) := fun z => c (decide_eq_true z)
      have e : decide ((x.length : Int) ≤ m) = true := decide_eq_true (by omega)
      refine ⟨_, rfl, x, rfl, fun D hD => lc_it walk_str (fun i H' => Same H H' ∧ H' D = some (.lst (((x.cps.toList.take i).map lowC).map V.bl)))
        ⟨same_new hD, by rw [upd_same]; rfl⟩ (fun _ _ _ _ => trivial) ?_ ?_⟩
      · rintro i y H1 H2 hi ⟨s1, hD1⟩ ⟨rfl, c0, hc0, rfl⟩
        have hc1 : x.cps.toList[i]? = some c0 := by rw [Array.getElem?_toList]; exact hc0
        refine ⟨rfl, ?_⟩
        have acc : ∀ b : Bool, b = lowC c0 → ∃ ac, H2 D = some (.lst ac) ∧ ac.length < sizeLine ∧ Same H (upd H2 D (.lst (ac ++ [V.bl b]))) ∧ (upd H2 D (.lst (ac ++ [V.bl b]))) D = some (.lst (((x.cps.toList.take (i + 1)).map lowC).map V.bl)) := by
          rintro b rfl
          refine ⟨_, hD1, ?_, same_mut s1 hD, ?_⟩
          · rw [List.length_map, List.length_map, List.length_take, Array.length_toList]
            have q : x.cps.size ≤ 1000 := hl
            exact Nat.lt_of_le_of_lt (Nat.le_trans (Nat.min_le_right _ _) q) (by decide)
          · rw [upd_same, take_at hc1, List.map_append, List.map_append]
            rfl
        refine ⟨_, rfl, _, _, rfl, rfl, _, rfl, ?_⟩
        rw [ge_sign c0 97 _ (by decide +kernel)]
        refine ite2 (fun a => ?_) (fun a => ?_)
        · refine ⟨_, _, rfl, rfl, ?_⟩
          rw [le_sign c0 122 _ (by decide +kernel)]
          exact acc _ (by unfold lowC; rw [a] <;> rfl)
        · exact acc _ (by unfold lowC; rw [Bool.eq_false_iff.mpr a] <;> rfl)
      · rintro H1 ⟨s1, hD1⟩
        refine ⟨D, _, rfl, SqL.of hD1, ?_⟩
        have q := k H1 s1
        rw [e] at q
        have full : x.cps.toList.take x.cps.size = x.cps.toList := List.take_of_length_le (by rw [Array.length_toList]; exact Nat.le_refl _)
        rw [full, List.all_map]
        exact q
end
end Mk

set_option Elab.async false
set_option maxRecDepth 100000
set_option maxHeartbeats 4000000
namespace Mk
open PySem L2 Pk
abbrev rLeS : R2 := fun x y H Q => ∃ i j, x = V.str i ∧ y = V.str j ∧ Q (V.bl !decide (j.cps.toList < i.cps.toList)) H
theorem ch_sign {σ : L2.St} {H : Hp} {i c lo hi : Nat} {zl zh : PySem.Str} {Q : VK} (hl : zl.cps.toList = [lo]) (hh : zh.cps.toList = [hi]) (e : σ[i]? = some (some (.str ⟨#[c]⟩))) (q : Q (.bl (decide (lo ≤ c) && decide (c ≤ hi))) H) :
    tChain rLeS rLeS (tC (.str zl)) (tVar i) (tC (.str zh)) σ H Q := by
  refine ⟨_, e, _, _, rfl, rfl, _, rfl, ?_⟩
  rw [ge_sign c lo _ hl]
  refine ite2 (fun a => ?_) (fun a => ?_)
  · refine ⟨_, _, rfl, rfl, ?_⟩
    rw [le_sign c hi _ hh]
    rw [a] at q
    exact q
  · rw [Bool.eq_false_iff.mpr a] at q
    exact q
/-- x or y, of which x gives a bool -/
theorem or_bool {ta tb : TE} {σ : L2.St} {H : Hp} {Q : VK} {a : Bool} (h : ∀ Q' : VK, Q' (.bl a) H → ta σ H Q') (g : a = false → tb σ H Q) (q : a = true → Q (.bl true) H) : tOrV ta tb σ H Q := by
  refine h _ ⟨a, rfl, ?_⟩
  cases a
  · exact iteF (g rfl)
  · exact iteT (q rfl)
section
variable {P : Program} {w : World} {K : PySem.W.Frag} {mg : PySem.Str → Option Value} {base : Heap}
/-! is_symbol_mark -/
def markC (c : Nat) : Bool := (decide (97 ≤ c) && decide (c ≤ 122)) || ((decide (65 ≤ c) && decide (c ≤ 90)) || (decide (48 ≤ c) && decide (c ≤ 57)))
def spMark : Sp := fun vs H Q _ => ∃ c : Nat, vs = [.str ⟨#[c]⟩] ∧ Q (.bl (markC c)) H
theorem scMark : FnScope ["mark"] ["mark"] (defScope sMark) := ⟨rfl, rfl, rfl, by decide +kernel, rfl, by decide +kernel, by decide +kernel⟩
theorem ok_mark {f : Addr} {fd : FuncData} (F : Fun K "is_symbol_mark" "is_symbol_mark" sMark f fd) : FnOk P w K mg base CX0 1 f fd ["mark"] spMark := by
  refine F.ok scMark (fun vs H Q E h => ?_) (fun cdv A outer s H vs Q E hr h => ?_)
  · obtain ⟨c, rfl, _⟩ := h
    rfl
  · obtain ⟨c, rfl, k⟩ := h
    refine ⟨_, pss_one (ps_ret (pe_or (pe_chain op_le_str op_le_str pe_str (pv 0) pe_str) (pe_or (pe_chain op_le_str op_le_str pe_str (pv 0) pe_str) (pe_one (pe_chain op_le_str op_le_str pe_str (pv 0) pe_str))))), ?_⟩
    unfold markC at k
    have a0 : ∀ {zl zh : PySem.Str} {lo hi : Nat}, zl.cps.toList = [lo] → zh.cps.toList = [hi] → ∀ {H : Hp} {Q' : VK}, Q' (.bl (decide (lo ≤ c) && decide (c ≤ hi))) H → tChain rLeS rLeS (tC (.str zl)) (tVar 0) (tC (.str zh)) (L2.start ["mark"] [.str ⟨#[c]⟩]) H Q' :=
      by
        intro zl zh lo hi hl hh H Q' q
        exact ch_sign hl hh rfl q
    refine or_bool (a := decide (97 ≤ c) && decide (c ≤ 122)) (fun Q' q => a0 (by decide +kernel) (by decide +kernel) q) (fun e => ?_) (fun e => ?_)
    · rw [e, Bool.false_or] at k
      refine or_bool (a := decide (65 ≤ c) && decide (c ≤ 90)) (fun Q' q => a0 (by decide +kernel) (by decide +kernel) q) (fun e => ?_) (fun e => ?_)
      · rw [e, Bool.false_or] at k
        exact a0 (by decide +kernel) (by decide +kernel) k
      · rw [e, Bool.true_or] at k
        exact k
    · rw [e, Bool.true_or] at k
      exact k
/-! is_symbol -/
def symB (x : PySem.Str) : Bool := (decide (1 ≤ x.length) && decide (x.length ≤ 8)) && x.cps.toList.all markC
def spSymbol : Sp := fun vs H Q _ => ∃ x : PySem.Str, vs = [.str x] ∧ x.length ≤ 1000 ∧ ∀ H', Same H H' → Q (.bl (symB x)) H'
theorem scSymbol : FnScope ["value", "mark"] ["value"] (defScope sSymbol) := ⟨rfl, rfl, rfl, by decide +kernel, rfl, by decide +kernel, by decide +kernel⟩
theorem ok_symbol {f : Addr} {fd : FuncData} (F : Fun K "is_symbol" "is_symbol" sSymbol f fd) (T : TM mg) (G : Got P w K mg base "is_symbol_mark" 1 ["mark"] spMark) : FnOk P w K mg base CX0 2 f fd ["value"] spSymbol := by
  refine F.ok scSymbol (fun vs H Q E h => ?_) (fun cdv A outer s H vs Q E hr h => ?_)
  · obtain ⟨x, rfl, _⟩ := h
    rfl
  · obtain ⟨x, rfl, hl, k⟩ := h
    refine ⟨_, pss_cons (ps_if (PW.pt (pw_or (pt_not (pt_val (pe_callB call_isi (by rfl) T.isi (by decide +kernel) (pa_cons (pv 0) (pa_cons (pe_bltn (v := .ty "str") (by rfl) T.str PyProof.Rows.Boot.str rfl) pa_nil)))))
        (pw_or1 (pt_not (pt_chain op_le op_le pe_int (pe_callB call_len_str (by rfl) T.len PySem.boot_len (pa_cons (pv 0) pa_nil)) pe_int))))) (pss_one (ps_ret pe_bl)) pss_nil)
      (pss_one (ps_ret (pe_callB (cr_all rfl) (by rfl) T.all (by decide +kernel) (pa_cons (pe_lc (own := [("mark", 1)]) (g := gName 1) (tt := tYes) (by rfl) scSymbol.nd (pi_str (pv 0))
        (blkOk_by (own := [("mark", 1)]) (N := ["value", "mark"]) (sc := defScope sSymbol) (by decide +kernel))
        (fun _ _ _ _ _ => pg_name (i := 1) scSymbol.nd rfl (Or.inl rfl)) (fun _ _ _ _ _ => pts_nil) (fun _ _ _ _ _ => pe_got G hr (by rfl) (pa_cons (pv 1) pa_nil))) pa_nil)))), ?_⟩
    have sz : x.length ≤ sizeLine := Nat.le_trans hl (by decide)
    refine ⟨_, rfl, _, _, _, _, true, rfl, .ty _, .base (.str _), kit_ty (by decide +kernel), _, rfl, ?_⟩
    refine iteF ?_
    unfold symB at k
    refine ⟨_, rfl, x, rfl, sz, _, _, rfl, rfl, _, rfl, ?_⟩
    have stop : (decide (1 ≤ x.length) && decide (x.length ≤ 8)) = false → Q (.bl false) H := fun e => by
      have q := k H (fun _ _ z => z)
      rw [e] at q
      exact q
    refine ite2 (fun c1 => ?_) (fun c1 => ?_)
    · have c1' : (1 : Int) ≤ (x.length : Int) := of_decide_eq_true c1
      refine ⟨_, _, rfl, rfl, _, rfl, ?_⟩
      refine ite2 (fun c2 => ?_) (fun c2 => ?_)
      · have c2' : ¬ ((x.length : Int) ≤ 8) := by simpa using c2
        exact stop (by rw [decide_eq_false (p := x.length ≤ 8) (by omega), Bool.and_false])
      · have c2' : (x.length : Int) ≤ 8 := by simpa using c2
        have e : (decide (1 ≤ x.length) && decide (x.length ≤ 8)) = true := by rw [decide_eq_true (by omega), decide_eq_true (by omega)] <;> rfl
        refine ⟨_, rfl, x, rfl, fun D hD => lc_it walk_str (fun i H' => Same H H' ∧ H' D = some (.lst (((x.cps.toList.take i).map markC).map V.bl)))
          ⟨same_new hD, by rw [upd_same]; rfl⟩ (fun _ _ _ _ => trivial) ?_ ?_⟩
        · rintro i y H1 H2 hi ⟨s1, hD1⟩ ⟨rfl, c0, hc0, rfl⟩
          have hc1 : x.cps.toList[i]? = some c0 := by rw [Array.getElem?_toList]; exact hc0
          refine ⟨rfl, ?_⟩
          refine ⟨_, rfl, c0, rfl, _, hD1, ?_, same_mut s1 hD, ?_⟩
          · rw [List.length_map, List.length_map, List.length_take, Array.length_toList]
            have q : x.cps.size ≤ 1000 := hl
            exact Nat.lt_of_le_of_lt (Nat.le_trans (Nat.min_le_right _ _) q) (by decide)
          · rw [upd_same, take_at hc1, List.map_append, List.map_append]
            rfl
        · rintro H1 ⟨s1, hD1⟩
          refine ⟨D, _, rfl, SqL.of hD1, ?_⟩
          have q := k H1 s1
          rw [e] at q
          have full : x.cps.toList.take x.cps.size = x.cps.toList := List.take_of_length_le (by rw [Array.length_toList]; exact Nat.le_refl _)
          rw [full, List.all_map]
          exact q
    · have c1' : ¬ ((1 : Int) ≤ (x.length : Int)) := fun z => c1 (decide_eq_true z)
      refine ⟨_, rfl, ?_⟩
      exact iteT (stop (by rw [decide_eq_false (p := 1 ≤ x.length) (by omega), Bool.false_and]))
end
end Mk

set_option Elab.async false
set_option maxRecDepth 100000
set_option maxHeartbeats 4000000
namespace Mk
open PySem L2 Pk
section
variable {P : Program} {w : World} {K : PySem.W.Frag} {mg : PySem.Str → Option Value} {base : Heap}
/-! is_alphabet -/
structure Alpha (x : PySem.Str) : Prop where
  low : lowB x = true
  pos : 1 ≤ x.length
  most : x.length ≤ 26
  up : ∀ (i c d : Nat), x.cps.toList[i]? = some c → x.cps.toList[i + 1]? = some d → c < d
def spAlphabet : Sp := fun vs H Q _ => ∃ x : PySem.Str, vs = [.str x] ∧ Alpha x ∧ ∀ H', Same H H' → Q (.bl true) H'
theorem scAlphabet : FnScope ["value", "at"] ["value"] (defScope sAlphabet) := ⟨rfl, rfl, rfl, by decide +kernel, rfl, by decide +kernel, by decide +kernel⟩
theorem dec_str (x y : PySem.Str) : decide (V.str x = V.str y) = decide (x = y) := by simp
theorem same_tr {H H' H'' : Hp} (a : Same H H') (b : Same H' H'') : Same H H'' := a.trans b
theorem ok_alphabet {f : Addr} {fd : FuncData} (F : Fun K "is_alphabet" "is_alphabet" sAlphabet f fd) (T : TM mg) (G : Got P w K mg base "are_letters" 1 ["value", "most"] spLetters) : FnOk P w K mg base CX0 2 f fd ["value"] spAlphabet := by
  refine F.ok scAlphabet (fun vs H Q E h => ?_) (fun cdv A outer s H vs Q E hr h => ?_)
  · obtain ⟨x, rfl, _⟩ := h
    rfl
  · obtain ⟨x, rfl, a, k⟩ := h
    have most := a.most
    have pos := a.pos
    refine ⟨_, pss_cons (ps_if (PW.pt (pw_or (pt_not (pt_val (pe_got G hr (by rfl) (pa_cons (pv 0) (pa_cons pe_int pa_nil)))))
        (pw_or1 (pt_cmpR op_eq (pv 0) pe_str (nomark _))))) (pss_one (ps_ret pe_bl)) pss_nil)
      (pss_one (ps_ret (pe_callB (cr_all rfl) (by rfl) T.all (by decide +kernel) (pa_cons (pe_lc (own := [("at", 1)]) (g := gName 1) (tt := tYes) (by rfl) scAlphabet.nd
        (pi_range1 (by rfl) T.range (pa_cons (pe_op op_sub (pe_callB call_len_str (by rfl) T.len PySem.boot_len (pa_cons (pv 0) pa_nil)) pe_int) pa_nil))
        (blkOk_by (own := [("at", 1)]) (N := ["value", "at"]) (sc := defScope sAlphabet) (by decide +kernel))
        (fun _ _ _ _ _ => pg_name (i := 1) scAlphabet.nd rfl (Or.inl rfl)) (fun _ _ _ _ _ => pts_nil)
        (fun _ _ _ _ _ => pe_cmpR op_lt_str (pe_ix ix_str (pv 0) (pv 1) fun _ _ => rfl) (pe_ix ix_str (pv 0) (pe_op op_add (pv 1) pe_int) fun _ _ => rfl) (nomark _))) pa_nil)))), ?_⟩
    have sz : x.length ≤ sizeLine := Nat.le_trans most (by decide)
    refine ⟨_, rfl, x, 26, rfl, Nat.le_trans most (by decide), fun H1 s1 => ⟨_, rfl, ?_⟩⟩
    rw [a.low, decide_eq_true (p := (x.length : Int) ≤ 26) (by omega)]
    refine iteF ?_
    refine ⟨_, rfl, rfl, _, rfl, ?_⟩
    have ne : ¬ x = (PySem.Str.ofString "") := fun e => by
      rw [e] at pos
      exact absurd pos (by decide +kernel)
    rw [dec_str, decide_eq_false ne]
    refine iteF ?_
    have sz2 : x.cps.size = x.length := rfl
    refine ⟨_, rfl, x, rfl, sz, _, _, rfl, rfl, _, rfl, by omega, by omega, fun D hD => lc_range (lo := 0) (n := ((x.length : Int) - 1).toNat) (fun i H' => Same H H' ∧ H' D = some (.lst ((List.replicate i true).map V.bl)))
        ⟨same_tr s1 (same_new hD), by rw [upd_same]; rfl⟩ ?_ ?_⟩
    · rintro i H2 hi ⟨s2, hD2⟩
      have h1 : i < x.cps.toList.length := by rw [Array.length_toList]; omega
      have h2 : i + 1 < x.cps.toList.length := by rw [Array.length_toList]; omega
      have e1 : x.cps.toList[i]? = some x.cps.toList[i] := List.getElem?_eq_getElem h1
      have e2 : x.cps.toList[i + 1]? = some x.cps.toList[i + 1] := List.getElem?_eq_getElem h2
      have lt := a.up i _ _ e1 e2
      refine ⟨rfl, ?_⟩
      refine ⟨_, rfl, _, rfl, x, _, _, rfl, rfl, sz, (by rw [Int.zero_add]; exact atI_nat e1), _, rfl, _, rfl, _, _, rfl, rfl, x, _, _, rfl, rfl, sz, (by rw [Int.zero_add]; exact atI_nat (j := i + 1) e2), _, _, rfl, rfl, _, hD2, ?_, same_mut s2 (s1.free hD), ?_⟩
      · rw [List.length_map, List.length_replicate]
        exact Nat.lt_of_lt_of_le (show i < 26 by omega) (by decide)
      · rw [upd_same, List.replicate_succ', List.map_append]
        show some (HO.lst (_ ++ [V.bl (decide (([x.cps.toList[i]] : List Nat) < [x.cps.toList[i + 1]]))])) = _
        rw [lt_one, decide_eq_true lt]
        rfl
    · rintro H2 ⟨s2, hD2⟩
      refine ⟨D, _, rfl, SqL.of hD2, ?_⟩
      rw [show (List.replicate ((x.length : Int) - 1).toNat true).all id = true by simp]
      exact k H2 s2
/-! is_sign -/
def Sgn (letters s : PySem.Str) : Prop := ∃ c : Nat, s = ⟨#[c]⟩ ∧ (c = 60 ∨ c = 62 ∨ c ∈ letters.cps.toList)
def spSign : Sp := fun vs H Q _ => ∃ l s : PySem.Str, vs = [.str l, .str s] ∧ Sgn l s ∧ Q (.bl true) H
theorem scSign : FnScope ["letters", "value"] ["letters", "value"] (defScope sSign) := ⟨rfl, rfl, rfl, by decide +kernel, rfl, by decide +kernel, by decide +kernel⟩
theorem ok_sign {f : Addr} {fd : FuncData} (F : Fun K "is_sign" "is_sign" sSign f fd) (T : TM mg) : FnOk P w K mg base CX0 1 f fd ["letters", "value"] spSign := by
  refine F.ok scSign (fun vs H Q E h => ?_) (fun cdv A outer s H vs Q E hr h => ?_)
  · obtain ⟨l, s, rfl, _⟩ := h
    rfl
  · obtain ⟨l, _, rfl, ⟨c, rfl, hc⟩, k⟩ := h
    refine ⟨_, pss_one (ps_ret (pe_and (pe_callB call_isi (by rfl) T.isi (by decide +kernel) (pa_cons (pv 1) (pa_cons (pe_bltn (v := .ty "str") (by rfl) T.str PyProof.Rows.Boot.str rfl) pa_nil)))
      (pe_and (pe_cmpR op_eq (pe_callB call_len_str (by rfl) T.len PySem.boot_len (pa_cons (pv 1) pa_nil)) pe_int (nomark _))
      (pe_one (pe_or (pe_cmpR op_in_sign (pv 1) pe_str rfl) (pe_one (pe_cmpR op_in_sign (pv 1) (pv 0) rfl))))))), ?_⟩
    refine ⟨_, rfl, _, _, _, _, true, rfl, .ty _, .base (.str _), kit_ty (by decide +kernel), _, rfl, ?_⟩
    refine iteT ?_
    refine ⟨_, rfl, _, rfl, (show 1 ≤ sizeLine by decide), rfl, _, rfl, ?_⟩
    refine iteT ?_
    refine or_bool (a := decide (c ∈ (PySem.Str.ofString "<>").cps.toList)) (fun Q' q => ⟨_, rfl, c, _, rfl, rfl, q⟩) (fun e => ?_) fun _ => k
    refine ⟨_, rfl, _, rfl, c, l, rfl, rfl, ?_⟩
    have e' : c ∉ ([60, 62] : List Nat) := of_decide_eq_false e
    have m : c ∈ l.cps.toList := by
      rcases hc with z | z | z
      · exact absurd (by rw [z]; decide) e'
      · exact absurd (by rw [z]; decide) e'
      · exact z
    rw [decide_eq_true m]
    exact k
end
end Mk

set_option Elab.async false
set_option maxRecDepth 100000
set_option maxHeartbeats 4000000
namespace Mk
open PySem L2 Pk
/-- x and y, of which x gives a bool -/
theorem and_bool {ta tb : TE} {σ : L2.St} {H : Hp} {Q : VK} {a : Bool} (h : ∀ Q' : VK, Q' (.bl a) H → ta σ H Q') (g : a = true → tb σ H Q) (q : a = false → Q (.bl false) H) : tAndV ta tb σ H Q := by
  refine h _ ⟨a, rfl, ?_⟩
  cases a
  · exact iteF (q rfl)
  · exact iteT (g rfl)
theorem skip_if {tA : TT} {ta u : TS} {D : Ends} {σ : L2.St} {H : Hp} (h : ∀ R : Bool → Hp → Prop, (∀ H1, Same H H1 → R false H1) → tA σ H R) (g : ∀ H1, Same H H1 → u D σ H1) : tSeq (tIfS tA ta tNext) u D σ H :=
  h _ fun H1 s1 => iteF (g H1 s1)
section
variable {P : Program} {w : World} {K : PySem.W.Frag} {mg : PySem.Str → Option Value} {base : Heap}
abbrev nil0 : PySem.Str := PySem.Str.ofString ""
/-! is_top -/
def Top (x : PySem.Str) : Prop := symB x = true ∨ x = nil0
theorem top_len {x : PySem.Str} (h : Top x) : x.length ≤ 8 := by
  rcases h with h | h
  · unfold symB at h
    rw [Bool.and_eq_true, Bool.and_eq_true, decide_eq_true_eq, decide_eq_true_eq] at h
    exact h.1.2
  · rw [h]
    decide +kernel
def spTop : Sp := fun vs H Q _ => ∃ x : PySem.Str, vs = [.str x] ∧ Top x ∧ ∀ H', Same H H' → Q (.bl true) H'
theorem scTop : FnScope ["value"] ["value"] (defScope sTop) := ⟨rfl, rfl, rfl, by decide +kernel, rfl, by decide +kernel, by decide +kernel⟩
theorem ok_top {f : Addr} {fd : FuncData} (F : Fun K "is_top" "is_top" sTop f fd) (T : TM mg) (G : Got P w K mg base "is_symbol" 2 ["value"] spSymbol) : FnOk P w K mg base CX0 3 f fd ["value"] spTop := by
  refine F.ok scTop (fun vs H Q E h => ?_) (fun cdv A outer s H vs Q E hr h => ?_)
  · obtain ⟨x, rfl, _⟩ := h
    rfl
  · obtain ⟨x, rfl, ht, k⟩ := h
    refine ⟨_, pss_one (ps_ret (pe_or (pe_got G hr (by rfl) (pa_cons (pv 0) pa_nil)) (pe_one (pe_and (pe_callB call_isi (by rfl) T.isi (by decide +kernel) (pa_cons (pv 0) (pa_cons (pe_bltn (v := .ty "str") (by rfl) T.str PyProof.Rows.Boot.str rfl) pa_nil)))
      (pe_one (pe_cmpR op_eq (pv 0) pe_str (nomark _))))))), ?_⟩
    refine ⟨_, rfl, x, rfl, Nat.le_trans (top_len ht) (by decide), fun H1 s1 => ⟨_, rfl, ?_⟩⟩
    rcases ht with e | e
    · rw [e]
      exact iteT (k H1 s1)
    · refine ite2 (fun _ => k H1 s1) fun _ => ?_
      refine ⟨_, rfl, _, _, _, _, true, rfl, .ty _, .base (.str _), kit_ty (by decide +kernel), _, rfl, ?_⟩
      refine iteT ?_
      refine ⟨_, rfl, rfl, ?_⟩
      rw [dec_str, e, decide_eq_true rfl]
      exact k H1 s1
/-! is_move -/
abbrev lt0 : PySem.Str := PySem.Str.ofString "<"
abbrev gt0 : PySem.Str := PySem.Str.ofString ">"
structure Mv (s : PySem.Str) (v : Int) : Prop where
  lo : -1 ≤ v
  hi : v ≤ 1
  l : s = lt0 → v ≠ -1
  r : s = gt0 → v ≠ 1
def spMove : Sp := fun vs H Q _ => ∃ (s : PySem.Str) (v : Int), vs = [.str s, .int v] ∧ Mv s v ∧ Q (.bl true) H
theorem scMove : FnScope ["sign", "value"] ["sign", "value"] (defScope sMove) := ⟨rfl, rfl, rfl, by decide +kernel, rfl, by decide +kernel, by decide +kernel⟩
theorem dec_intV (x y : Int) : decide (V.int x = V.int y) = decide (x = y) := by simp
theorem ok_move {f : Addr} {fd : FuncData} (F : Fun K "is_move" "is_move" sMove f fd) (G : Got P w K mg base "is_between" 2 ["value", "least", "most"] spBetween) : FnOk P w K mg base CX0 3 f fd ["sign", "value"] spMove := by
  refine F.ok scMove (fun vs H Q E h => ?_) (fun cdv A outer s H vs Q E hr h => ?_)
  · obtain ⟨x, v, rfl, _⟩ := h
    rfl
  · obtain ⟨x, v, rfl, m, k⟩ := h
    refine ⟨_, pss_cons (ps_if (pt_not (pt_val (pe_got G hr (by rfl) (pa_cons (pv 1) (pa_cons (pe_un un_neg pe_int) (pa_cons pe_int pa_nil)))))) (pss_one (ps_ret pe_bl)) pss_nil)
      (pss_one (ps_ret (pe_not (pe_or (pe_and (pe_cmpR op_eq (pv 0) pe_str (nomark _)) (pe_one (pe_cmpR op_eq (pv 1) (pe_un un_neg pe_int) (nomark _))))
        (pe_one (pe_and (pe_cmpR op_eq (pv 0) pe_str (nomark _)) (pe_one (pe_cmpR op_eq (pv 1) pe_int (nomark _))))))))), ?_⟩
    refine ⟨_, rfl, _, rfl, v, -1, 1, rfl, _, rfl, ?_⟩
    rw [decide_eq_true m.lo, decide_eq_true m.hi]
    refine iteF ?_
    have fin : ∀ b : Bool, b = false → ∃ c, V.bl b = V.bl c ∧ Q (.bl (!c)) H := fun b e => by
      rw [e]
      exact ⟨false, rfl, k⟩
    dsimp only [tNext, tRet, tNotV]
    refine or_bool (a := decide (x = lt0) && decide (v = -1)) (fun Q' q => ?_) (fun e => ?_) (fun e => ?_)
    · refine and_bool (a := decide (x = lt0)) (fun Q2 q2 => ⟨_, rfl, rfl, by rw [dec_str]; exact q2⟩) (fun e => ?_) (fun e => ?_)
      · refine ⟨_, rfl, _, rfl, rfl, ?_⟩
        rw [dec_intV]
        rw [e] at q
        exact q
      · rw [e] at q
        exact q
    · refine and_bool (a := decide (x = gt0)) (fun Q2 q2 => ⟨_, rfl, rfl, by rw [dec_str]; exact q2⟩) (fun e => ?_) (fun e => ?_)
      · refine ⟨_, rfl, rfl, ?_⟩
        rw [dec_intV, decide_eq_false (m.r (of_decide_eq_true e))]
        exact fin _ rfl
      · exact fin _ rfl
    · rw [Bool.and_eq_true, decide_eq_true_eq, decide_eq_true_eq] at e
      exact absurd e.2 (m.l e.1)
/-! is_deed -/
abbrev keep0 : PySem.Str := PySem.Str.ofString "keep"
abbrev pop0 : PySem.Str := PySem.Str.ofString "pop"
abbrev push0 : PySem.Str := PySem.Str.ofString "push"
abbrev swap0 : PySem.Str := PySem.Str.ofString "swap"
structure Deed (t d s : PySem.Str) : Prop where
  one : d = keep0 ∨ d = pop0 ∨ d = push0 ∨ d = swap0
  low : t = nil0 → d = keep0 ∨ d = push0
  sym : d = push0 ∨ d = swap0 → symB s = true
  no : d = keep0 ∨ d = pop0 → s = nil0
/-- the module's tuple DEEDS -/
def Deeds (K : PySem.W.Frag) (mg : PySem.Str → Option Value) : Prop := ∃ a, mg "DEEDS" = some (.ref a) ∧ ∀ H : Hp, SqT K H a [.str keep0, .str pop0, .str push0, .str swap0]
def spDeed : Sp := fun vs H Q _ => ∃ t d s : PySem.Str, vs = [.str t, .str d, .str s] ∧ Deed t d s ∧ ∀ H', Same H H' → Q (.bl true) H'
theorem scDeed : FnScope ["top", "deed", "symbol"] ["top", "deed", "symbol"] (defScope sDeed) := ⟨rfl, rfl, rfl, by decide +kernel, rfl, by decide +kernel, by decide +kernel⟩
theorem ok_deed {f : Addr} {fd : FuncData} (F : Fun K "is_deed" "is_deed" sDeed f fd) (T : TM mg) (D : Deeds K mg) (G : Got P w K mg base "is_symbol" 2 ["value"] spSymbol) : FnOk P w K mg base CX0 3 f fd ["top", "deed", "symbol"] spDeed := by
  refine F.ok scDeed (fun vs H Q E h => ?_) (fun cdv A outer s H vs Q E hr h => ?_)
  · obtain ⟨t, d, x, rfl, _⟩ := h
    rfl
  · obtain ⟨t, d, x, rfl, m, k⟩ := h
    obtain ⟨aD, gD, hD⟩ := D
    refine ⟨_, pss_cons (ps_if (PW.pt (pw_or (pt_not (pt_val (pe_callB call_isi (by rfl) T.isi (by decide +kernel) (pa_cons (pv 1) (pa_cons (pe_bltn (v := .ty "str") (by rfl) T.str PyProof.Rows.Boot.str rfl) pa_nil)))))
        (pw_or1 (pt_cmpR op_notIn_seq (pv 1) (pe_glob (v := .ref aD) (by rfl) gD rfl) rfl)))) (pss_one (ps_ret pe_bl)) pss_nil)
      (pss_cons (ps_if (PW.pt (pw_and (pt_cmpR op_eq (pv 0) pe_str (nomark _)) (pw_and1 (pt_cmpR op_notIn_seq (pv 1) (pe_tup (pa_cons pe_str (pa_cons pe_str pa_nil))) rfl)))) (pss_one (ps_ret pe_bl)) pss_nil)
      (pss_cons (ps_if (pt_cmpR op_in_seq (pv 1) (pe_tup (pa_cons pe_str (pa_cons pe_str pa_nil))) rfl) (pss_one (ps_ret (pe_got G hr (by rfl) (pa_cons (pv 2) pa_nil)))) pss_nil)
      (pss_one (ps_ret (pe_and (pe_callB call_isi (by rfl) T.isi (by decide +kernel) (pa_cons (pv 2) (pa_cons (pe_bltn (v := .ty "str") (by rfl) T.str PyProof.Rows.Boot.str rfl) pa_nil)))
        (pe_one (pe_cmpR op_eq (pv 2) pe_str (nomark _)))))))), ?_⟩
    refine ⟨_, rfl, _, _, _, _, true, rfl, .ty _, .base (.str _), kit_ty (by decide +kernel), _, rfl, ?_⟩
    refine iteF ?_
    have rest : ∀ H1 : Hp, Same H H1 → (∀ H2, Same H1 H2 → Q (.bl true) H2) := fun H1 s1 H2 s2 => k H2 (s1.trans s2)
    have inD : inV (.str d) [.str keep0, .str pop0, .str push0, .str swap0] = true := by
      rcases m.one with e | e | e | e <;> rw [e] <;> decide +kernel
    refine ⟨_, rfl, aD, _, rfl, .inr (hD H), rfl, rfl, _, rfl, ?_⟩
    rw [inD]
    refine iteF ?_
    have two : ∀ {a b : PySem.Str} {p : Addr} {H1 : Hp}, SqT K (upd H1 p (.tup [.str a, .str b])) p [.str a, .str b] := .inl (.inl upd_same)
    dsimp only [tNext]
    refine skip_if (fun R r => ?_) (fun H1 s1 => ?_)
    · refine ⟨_, rfl, rfl, _, rfl, ?_⟩
      refine ite2 (fun e => ?_) (fun _ => r H (fun _ _ z => z))
      rw [dec_str, decide_eq_true_eq] at e
      refine ⟨_, rfl, by decide, fun p hp => ⟨p, _, rfl, .inr two, rfl, rfl, _, rfl, ?_⟩⟩
      have z : inV (.str d) [.str keep0, .str push0] = true := by
        rcases m.low e with e | e <;> rw [e] <;> decide +kernel
      rw [z]
      exact r _ (same_new hp)
    · by_cases e : d = push0 ∨ d = swap0
      · have z : inV (.str d) [.str push0, .str swap0] = true := by
          rcases e with e | e <;> rw [e] <;> decide +kernel
        refine ⟨_, rfl, by decide, fun p hp => ⟨p, _, rfl, .inr two, rfl, rfl, _, rfl, ?_⟩⟩
        rw [z]
        refine iteT ?_
        have y := m.sym e
        refine ⟨_, rfl, x, rfl, Nat.le_trans (top_len (.inl y)) (by decide), fun H2 s2 => ?_⟩
        rw [y]
        exact k H2 ((s1.trans (same_new hp)).trans s2)
      · have e2 : d = keep0 ∨ d = pop0 := by
          rcases m.one with z | z | z | z
          · exact .inl z
          · exact .inr z
          · exact absurd (.inl z) e
          · exact absurd (.inr z) e
        have z : inV (.str d) [.str push0, .str swap0] = false := by
          rcases e2 with e | e <;> rw [e] <;> decide +kernel
        refine ⟨_, rfl, by decide, fun p hp => ⟨p, _, rfl, .inr two, rfl, rfl, _, rfl, ?_⟩⟩
        rw [z]
        refine iteF ?_
        refine ⟨_, rfl, _, _, _, _, true, rfl, .ty _, .base (.str _), kit_ty (by decide +kernel), _, rfl, ?_⟩
        refine iteT ?_
        refine ⟨_, rfl, rfl, ?_⟩
        rw [dec_str, m.no e2, decide_eq_true rfl]
        exact k _ (s1.trans (same_new hp))
end
end Mk

set_option Elab.async false
set_option maxRecDepth 100000
set_option maxHeartbeats 4000000
namespace Mk
open PySem L2 Pk
def gSq (b : Bool) (K : PySem.W.Frag) (n : Nat) (t : TGs) : TG := match b with
  | true => gLst K n t
  | false => gTup K n t
theorem pg_sq {X : Cx} {pos : Pos} {es : List Expr} {k : Nat} {t : TGs} {n : Nat} (b : Bool) (hc : X.calm = true) (h : PGs X es t)
    (hn : (assignEach es X.env).length = n := by rfl) (hst : (assignEach es X.env).findIdx? (·.1) = none := by rfl) : PG X (.Tuple es k pos) (gSq b X.K n t) := by
  cases b
  · exact pg_tup hc h hn hst
  · exact pg_lst hc h hn hst
theorem gsq_of {b : Bool} {K : PySem.W.Frag} {n : Nat} {t : TGs} {v : V} {σ : L2.St} {H : Hp} {Q} (h : ∃ a xs, v = .ref a ∧ SqB b K H a xs ∧ xs.length = n ∧ t xs σ H Q) : gSq b K n t v σ H Q := by
  cases b
  · exact h
  · exact h
/-- a rule -/
structure Rl where
  st : Int
  sg : PySem.Str
  tp : PySem.Str
  af : Int
  mv : Int
  de : PySem.Str
  sy : PySem.Str
  sa : PySem.Str
  deriving DecidableEq
def Rl.vs (r : Rl) : List V := [.int r.st, .str r.sg, .str r.tp, .int r.af, .int r.mv, .str r.de, .str r.sy, .str r.sa]
structure RlOk (l : PySem.Str) (n : Int) (r : Rl) : Prop where
  st : 0 ≤ r.st ∧ r.st ≤ n - 1
  sg : Sgn l r.sg
  tp : Top r.tp
  af : 0 ≤ r.af ∧ r.af ≤ n - 1
  mv : Mv r.sg r.mv
  de : Deed r.tp r.de r.sy
  sa : lowB r.sa = true ∧ r.sa.length ≤ 3
section
variable {P : Program} {w : World} {K : PySem.W.Frag} {mg : PySem.Str → Option Value} {base : Heap}
/-! is_state -/
def spState : Sp := fun vs H Q _ => ∃ n v : Int, vs = [.int n, .int v] ∧ Q (.bl (decide (0 ≤ v) && decide (v ≤ n - 1))) H
theorem scState : FnScope ["states", "value"] ["states", "value"] (defScope sState) := ⟨rfl, rfl, rfl, by decide +kernel, rfl, by decide +kernel, by decide +kernel⟩
theorem ok_state {f : Addr} {fd : FuncData} (F : Fun K "is_state" "is_state" sState f fd) (G : Got P w K mg base "is_between" 2 ["value", "least", "most"] spBetween) : FnOk P w K mg base CX0 3 f fd ["states", "value"] spState := by
  refine F.ok scState (fun vs H Q E h => ?_) (fun cdv A outer s H vs Q E hr h => ?_)
  · obtain ⟨n, v, rfl, _⟩ := h
    rfl
  · obtain ⟨n, v, rfl, k⟩ := h
    refine ⟨_, pss_one (ps_ret (pe_got G hr (by rfl) (pa_cons (pv 1) (pa_cons pe_int (pa_cons (pe_op op_sub (pv 0) pe_int) pa_nil))))), ?_⟩
    exact ⟨_, rfl, _, rfl, _, _, rfl, rfl, v, 0, n - 1, rfl, k⟩
/-! is_rule -/
structure RuleDefs (P : Program) (w : World) (K : PySem.W.Frag) (mg : PySem.Str → Option Value) (base : Heap) : Prop where
  row : Got P w K mg base "is_row" 2 ["value", "length"] (spRow K)
  state : Got P w K mg base "is_state" 3 ["states", "value"] spState
  sign : Got P w K mg base "is_sign" 1 ["letters", "value"] spSign
  top : Got P w K mg base "is_top" 3 ["value"] spTop
  move : Got P w K mg base "is_move" 3 ["sign", "value"] spMove
  deed : Got P w K mg base "is_deed" 3 ["top", "deed", "symbol"] spDeed
  letters : Got P w K mg base "are_letters" 1 ["value", "most"] spLetters
def spRule (K : PySem.W.Frag) : Sp := fun vs H Q _ => ∃ (l : PySem.Str) (n : Int) (a : Addr) (b : Bool) (r : Rl), vs = [.str l, .int n, .ref a] ∧ SqB b K H a r.vs ∧ RlOk l n r ∧ ∀ H', Same H H' → Q (.bl true) H'
abbrev nRule : List PySem.Str := ["letters", "states", "value", "state", "sign", "top", "after", "move", "deed", "symbol", "said"]
theorem scRule : FnScope nRule ["letters", "states", "value"] (defScope sRule) := ⟨rfl, rfl, rfl, by decide +kernel, rfl, by decide +kernel, by decide +kernel⟩
theorem ok_rule {f : Addr} {fd : FuncData} (F : Fun K "is_rule" "is_rule" sRule f fd) (G : RuleDefs P w K mg base) : FnOk P w K mg base CX0 4 f fd ["letters", "states", "value"] (spRule K) := by
  refine F.ok scRule (fun vs H Q E h => ?_) (fun cdv A outer s H vs Q E hr h => ?_)
  · obtain ⟨l, n, a, b, r, rfl, _⟩ := h
    rfl
  · obtain ⟨l, n, a, b, r, rfl, hS, ok, k⟩ := h
    have h2 := hr.mono (show 2 ≤ 3 by decide)
    have h1 := hr.mono (show 1 ≤ 3 by decide)
    refine ⟨_, pss_cons (ps_if (pt_not (pt_val (pe_got G.row h2 (by rfl) (pa_cons (pv 2) (pa_cons pe_int pa_nil))))) (pss_one (ps_ret pe_bl)) pss_nil)
      (pss_cons (ps_asg (pv 2) (pg_sq b (by rfl) (pgs_cons (pg_name (i := 3) scRule.nd rfl (Or.inl rfl)) (pgs_cons (pg_name (i := 4) scRule.nd rfl (Or.inl rfl)) (pgs_cons (pg_name (i := 5) scRule.nd rfl (Or.inl rfl))
        (pgs_cons (pg_name (i := 6) scRule.nd rfl (Or.inl rfl)) (pgs_cons (pg_name (i := 7) scRule.nd rfl (Or.inl rfl)) (pgs_cons (pg_name (i := 8) scRule.nd rfl (Or.inl rfl)) (pgs_cons (pg_name (i := 9) scRule.nd rfl (Or.inl rfl)) (pgs_cons (pg_name (i := 10) scRule.nd rfl (Or.inl rfl)) pgs_nil))))))))))
      (pss_cons (ps_if (pt_not (PW.pt (pw_and (pt_val (pe_got G.state hr (by rfl) (pa_cons (pv 1) (pa_cons (pv 3) pa_nil)))) (pw_and (pt_val (pe_got G.sign h1 (by rfl) (pa_cons (pv 0) (pa_cons (pv 4) pa_nil)))) (pw_and1 (pt_val (pe_got G.top hr (by rfl) (pa_cons (pv 5) pa_nil))))))) ) (pss_one (ps_ret pe_bl)) pss_nil)
      (pss_cons (ps_if (pt_not (PW.pt (pw_and (pt_val (pe_got G.state hr (by rfl) (pa_cons (pv 1) (pa_cons (pv 6) pa_nil)))) (pw_and1 (pt_val (pe_got G.move hr (by rfl) (pa_cons (pv 4) (pa_cons (pv 7) pa_nil))))))) ) (pss_one (ps_ret pe_bl)) pss_nil)
      (pss_one (ps_ret (pe_and (pe_got G.deed hr (by rfl) (pa_cons (pv 5) (pa_cons (pv 8) (pa_cons (pv 9) pa_nil)))) (pe_one (pe_got G.letters h1 (by rfl) (pa_cons (pv 10) (pa_cons pe_int pa_nil)))))))))), ?_⟩
    refine ⟨_, rfl, a, b, r.vs, 8, rfl, hS, fun H1 s1 => ⟨_, rfl, ?_⟩⟩
    rw [show decide (((r.vs.length : Nat) : Int) = 8) = true from rfl]
    refine iteF ?_
    refine ⟨_, rfl, gsq_of ⟨a, r.vs, rfl, hS.mono s1, rfl, _, _, rfl, _, _, rfl, _, _, rfl, _, _, rfl, _, _, rfl, _, _, rfl, _, _, rfl, _, _, rfl, rfl, ?_⟩⟩
    refine ⟨_, rfl, _, rfl, n, r.st, rfl, _, rfl, ?_⟩
    rw [decide_eq_true ok.st.1, decide_eq_true ok.st.2]
    refine iteT ?_
    refine ⟨_, rfl, _, rfl, l, r.sg, rfl, ok.sg, _, rfl, ?_⟩
    refine iteT ?_
    refine ⟨_, rfl, r.tp, rfl, ok.tp, fun H2 s2 => ⟨_, rfl, ?_⟩⟩
    refine iteF ?_
    refine ⟨_, rfl, _, rfl, n, r.af, rfl, _, rfl, ?_⟩
    rw [decide_eq_true ok.af.1, decide_eq_true ok.af.2]
    refine iteT ?_
    refine ⟨_, rfl, _, rfl, r.sg, r.mv, rfl, ok.mv, _, rfl, ?_⟩
    refine iteF ?_
    refine ⟨_, rfl, _, rfl, _, rfl, r.tp, r.de, r.sy, rfl, ok.de, fun H3 s3 => ⟨_, rfl, ?_⟩⟩
    refine iteT ?_
    refine ⟨_, rfl, r.sa, 3, rfl, Nat.le_trans ok.sa.2 (by decide), fun H4 s4 => ?_⟩
    rw [ok.sa.1, decide_eq_true (p := (r.sa.length : Int) ≤ 3) (by have := ok.sa.2; omega)]
    exact k H4 (((s1.trans s2).trans s3).trans s4)
end
end Mk

set_option Elab.async false
set_option maxRecDepth 100000
set_option maxHeartbeats 4000000
namespace Mk
open PySem L2 Pk
def iSq (b : Bool) (K : PySem.W.Frag) (tl : TE) : TI := match b with
  | true => iList K tl
  | false => iTup K tl
theorem pi_sq {X : Cx} {tg l : Expr} {tl : TE} (b : Bool) (hl : PE X l tl) : PI X tg l (iSq b X.K tl) := by
  cases b
  · exact pi_tup hl
  · exact pi_list hl
def ItB (b : Bool) (K : PySem.W.Frag) (a : Addr) := match b with
  | true => Itl K a
  | false => Itt K a
theorem isq_of {b : Bool} {K : PySem.W.Frag} {tl : TE} {σ : L2.St} {H : Hp} {R} (h : tl σ H fun x H1 => ∃ a, x = .ref a ∧ (∃ xs, SqB b K H1 a xs) ∧ R (ItB b K a) H1) : iSq b K tl σ H R := by
  cases b
  · exact h
  · exact h
/-- a walk over a list or a tuple that stays -/
theorem walk_sq {b : Bool} {K : PySem.W.Frag} {a : Addr} {xs : List V} : Walk (ItB b K a) xs.length (fun H => SqB b K H a xs) (YAt xs) := by
  cases b
  · exact walk_tup
  · exact walk_list
theorem ix_sq {b : Bool} {K : PySem.W.Frag} {H : Hp} {a : Addr} {xs : List V} {i : Int} {v : V} {Q : VK} (h : SqB b K H a xs) (e : atI xs i = some v) (q : Q v H) : rIx K (.ref a) (.int i) H Q := by
  cases b
  · exact .inr (.inl ⟨a, xs, i, v, rfl, rfl, h, e, q⟩)
  · exact .inl ⟨a, xs, i, v, rfl, rfl, h, e, q⟩
abbrev sCheck : Stmt := top 46
/-- rules as they are handed in -/
abbrev Hand := List (Addr × Bool × Rl)
structure HandOk (K : PySem.W.Frag) (H : Hp) (l : PySem.Str) (n : Int) (R : Hand) : Prop where
  at_ : ∀ p ∈ R, SqB p.2.1 K H p.1 p.2.2.vs
  ok : ∀ p ∈ R, RlOk l n p.2.2
  most : R.length ≤ 20000
theorem HandOk.mono {K : PySem.W.Frag} {H H' : Hp} {l : PySem.Str} {n : Int} {R : Hand} (h : HandOk K H l n R) (e : Same H H') : HandOk K H' l n R := ⟨fun p m => (h.at_ p m).mono e, h.ok, h.most⟩
section
variable {P : Program} {w : World} {K : PySem.W.Frag} {mg : PySem.Str → Option Value} {base : Heap}
structure ChkDefs (P : Program) (w : World) (K : PySem.W.Frag) (mg : PySem.Str → Option Value) (base : Heap) : Prop where
  alphabet : Got P w K mg base "is_alphabet" 2 ["value"] spAlphabet
  between : Got P w K mg base "is_between" 2 ["value", "least", "most"] spBetween
  sequence : Got P w K mg base "is_sequence" 1 ["value"] (spSequence K)
  rule : Got P w K mg base "is_rule" 4 ["letters", "states", "value"] (spRule K)
  state : Got P w K mg base "is_state" 3 ["states", "value"] spState
  ms : ∃ t, mg "MOST_STATES" = some (.int 2000 t)
  mr : ∃ t, mg "MOST_RULES" = some (.int 20000 t)
def refsH (R : Hand) : List V := R.map fun p => .ref p.1
structure ArgsOk (K : PySem.W.Frag) (H : Hp) (l : PySem.Str) (n : Int) (aR aY : Addr) (bR bY : Bool) (R : Hand) (ys : List Int) : Prop where
  alpha : Alpha l
  num : 1 ≤ n ∧ n ≤ 2000
  rs : SqB bR K H aR (refsH R)
  hand : HandOk K H l n R
  yes : SqB bY K H aY (ys.map V.int)
  in_ : ∀ y ∈ ys, 0 ≤ y ∧ y ≤ n - 1
  few : ys.length ≤ 100000
def spCheck (K : PySem.W.Frag) : Sp := fun vs H Q _ => ∃ (l : PySem.Str) (n : Int) (aR aY : Addr) (bR bY : Bool) (R : Hand) (ys : List Int), vs = [.str l, .int n, .ref aR, .ref aY] ∧ ArgsOk K H l n aR aY bR bY R ys ∧ ∀ H', Same H H' → Q .non H'
abbrev nCheck : List PySem.Str := ["letters", "states", "rules", "yes", "index", "state"]
theorem scCheck : FnScope nCheck ["letters", "states", "rules", "yes"] (defScope sCheck) := ⟨rfl, rfl, rfl, by decide +kernel, rfl, by decide +kernel, by decide +kernel⟩
theorem ok_check {f : Addr} {fd : FuncData} (F : Fun K "check_arguments" "check_arguments" sCheck f fd) (T : TM mg) (G : ChkDefs P w K mg base) : FnOk P w K mg base CX0 5 f fd ["letters", "states", "rules", "yes"] (spCheck K) := by
  refine F.ok scCheck (fun vs H Q E h => ?_) (fun cdv A outer s H vs Q E hr h => ?_)
  · obtain ⟨l, n, aR, aY, bR, bY, R, ys, rfl, _⟩ := h
    rfl
  · obtain ⟨l, n, aR, aY, bR, bY, R, ys, rfl, a, k⟩ := h
    obtain ⟨t1, gS⟩ := G.ms
    obtain ⟨t2, gR⟩ := G.mr
    have h1 := hr.mono (show 1 ≤ 4 by decide)
    have h2 := hr.mono (show 2 ≤ 4 by decide)
    have h3 := hr.mono (show 3 ≤ 4 by decide)
    have most := a.hand.most
    refine ⟨_, pss_cons (ps_if (pt_not (pt_val (pe_got G.alphabet h2 (by rfl) (pa_cons (pv 0) pa_nil)))) pss_never pss_nil)
      (pss_cons (ps_if (pt_not (pt_val (pe_got G.between h2 (by rfl) (pa_cons (pv 1) (pa_cons pe_int (pa_cons (pe_glob (v := .int 2000) (by rfl) gS ⟨t1, rfl⟩) pa_nil)))))) pss_never pss_nil)
      (pss_cons (ps_if (PW.pt (pw_or (pt_not (pt_val (pe_got G.sequence h1 (by rfl) (pa_cons (pv 2) pa_nil)))) (pw_or1 (pt_cmpR op_gt (pe_callB call_len_seq (by rfl) T.len PySem.boot_len (pa_cons (pv 2) pa_nil)) (pe_glob (v := .int 20000) (by rfl) gR ⟨t2, rfl⟩) (nomark _))))) pss_never pss_nil)
      (pss_cons (ps_for PassesOwn.never rfl (pi_range1 (by rfl) T.range (pa_cons (pe_callB call_len_seq (by rfl) T.len PySem.boot_len (pa_cons (pv 2) pa_nil)) pa_nil)) (pg_name (i := 4) scCheck.nd rfl (Or.inl rfl))
        (pss_one (ps_if (pt_not (pt_val (pe_got G.rule hr (by rfl) (pa_cons (pv 0) (pa_cons (pv 1) (pa_cons (pe_ix ix_seq (pv 2) (pv 4) fun _ _ => rfl) pa_nil)))))) pss_never pss_nil)))
      (pss_one (ps_if (PW.pt (pw_or (pt_not (pt_val (pe_got G.sequence h1 (by rfl) (pa_cons (pv 3) pa_nil)))) (pw_or1 (pt_not (pt_val (pe_callB (cr_all rfl) (by rfl) T.all (by decide +kernel) (pa_cons (pe_lc (own := [("state", 5)]) (g := gName 5) (tt := tYes) (by rfl) scCheck.nd (pi_sq bY (pv 3))
        (blkOk_by (own := [("state", 5)]) (N := nCheck) (sc := defScope sCheck) (by decide +kernel))
        (fun _ _ _ _ _ => pg_name (i := 5) scCheck.nd rfl (Or.inl rfl)) (fun _ _ _ _ _ => pts_nil) (fun _ _ _ _ _ => pe_got G.state h3 (by rfl) (pa_cons (pv 1) (pa_cons (pv 5) pa_nil)))) pa_nil))))))) pss_never pss_nil))))), ?_⟩
    refine ⟨_, rfl, l, rfl, a.alpha, fun H1 s1 => ⟨_, rfl, ?_⟩⟩
    refine iteF ?_
    refine ⟨_, rfl, n, 1, 2000, rfl, _, rfl, ?_⟩
    rw [decide_eq_true a.num.1, decide_eq_true a.num.2]
    refine iteF ?_
    refine ⟨_, rfl, aR, bR, _, rfl, a.rs.mono s1, fun H2 s2 => ⟨_, rfl, ?_⟩⟩
    refine iteF ?_
    have s12 := s1.trans s2
    have lR : (refsH R).length = R.length := List.length_map ..
    refine ⟨_, rfl, aR, _, rfl, (a.rs.mono s12).any, _, _, rfl, rfl, _, rfl, ?_⟩
    rw [decide_eq_false (p := ((refsH R).length : Int) > 20000) (by rw [lR]; omega)]
    refine iteF ?_
    refine ⟨_, rfl, aR, _, rfl, (a.rs.mono s12).any, _, rfl, by omega, by omega, for_range (lo := 0) (n := (((refsH R).length : Nat) : Int).toNat) (fun i σ H' => Same H H' ∧ ∃ v : Option V, σ = [some (.str l), some (.int n), some (.ref aR), some (.ref aY), v, none])
      ⟨s12, none, rfl⟩ ?_ ?_⟩
    · rintro i σ H3 hi ⟨s3, v, rfl⟩
      have hi' : i < R.length := by omega
      have hx : (refsH R)[i]? = some (.ref R[i].1) := by unfold refsH; rw [List.getElem?_map, List.getElem?_eq_getElem hi'] <;> rfl
      have m : R[i] ∈ R := List.getElem_mem hi'
      refine ⟨_, rfl, _, rfl, _, rfl, _, rfl, ix_sq (a.rs.mono s3) (by rw [Int.zero_add]; exact atI_nat hx) ?_⟩
      refine ⟨l, n, _, _, R[i].2.2, rfl, (a.hand.at_ _ m).mono s3, a.hand.ok _ m, fun H4 s4 => ⟨_, rfl, ?_⟩⟩
      refine iteF ?_
      exact ⟨s3.trans s4, _, rfl⟩
    · rintro σ H3 ⟨s3, v, rfl⟩
      refine ⟨_, rfl, aY, bY, _, rfl, a.yes.mono s3, fun H4 s4 => ⟨_, rfl, ?_⟩⟩
      refine iteF ?_
      have s34 := s3.trans s4
      refine isq_of ⟨_, rfl, aY, rfl, ⟨_, a.yes.mono s34⟩, fun D hD => lc_it (walk_sq (b := bY) (K := K) (a := aY) (xs := ys.map V.int)) (fun i H' => Same H H' ∧ H' D = some (.lst ((List.replicate i true).map V.bl)))
        ⟨s34.trans (same_new hD), by rw [upd_same]; rfl⟩ (fun i H' _ h => a.yes.mono h.1) ?_ ?_⟩
      · rintro i y H5 H6 hi ⟨s5, hD5⟩ ⟨rfl, ey⟩
        obtain ⟨z, ez, rfl⟩ := mapInt ey
        have iz := a.in_ z (List.mem_of_getElem? ez)
        rw [List.length_map] at hi
        refine ⟨rfl, ?_⟩
        refine ⟨_, rfl, _, rfl, n, z, rfl, _, hD5, ?_, same_mut s5 (s34.free hD), ?_⟩
        · rw [List.length_map, List.length_replicate]
          exact Nat.lt_of_lt_of_le (Nat.lt_of_lt_of_le hi a.few) (by decide)
        · rw [upd_same, List.replicate_succ', List.map_append, decide_eq_true iz.1, decide_eq_true iz.2]
          rfl
      · rintro H5 ⟨s5, hD5⟩
        refine ⟨D, _, rfl, SqL.of hD5, _, rfl, ?_⟩
        rw [show (List.replicate (ys.map V.int).length true).all id = true by simp]
        refine iteF ?_
        exact k H5 s5
end
end Mk

/-! the map x ↦ 5 x + 1 modulo a power of two runs through all places -/
namespace Sx
/-- 1 + 5 + .. + 5^(n-1) -/
def geo : Nat → Nat
  | 0 => 0
  | n + 1 => geo n * 5 + 1
theorem geo_pow : ∀ n, 4 * geo n + 1 = 5 ^ n
  | 0 => rfl
  | n + 1 => by
    have h := geo_pow n
    show 4 * (geo n * 5 + 1) + 1 = 5 ^ n * 5
    omega
theorem geo_add (a : Nat) : ∀ b, geo (a + b) = geo a * 5 ^ b + geo b
  | 0 => by show geo a = geo a * 1 + 0; omega
  | b + 1 => by
    have h := geo_add a b
    show geo (a + b) * 5 + 1 = geo a * (5 ^ b * 5) + (geo b * 5 + 1)
    rw [h, Nat.add_mul, Nat.mul_assoc]
    omega
theorem geo_odd : ∀ n, geo n % 2 = n % 2
  | 0 => rfl
  | n + 1 => by
    have h := geo_odd n
    show (geo n * 5 + 1) % 2 = (n + 1) % 2
    omega
theorem pow5_mod4 (n : Nat) : 5 ^ n % 4 = 1 := by
  have h := geo_pow n
  omega
/-- geo (2 n) = geo n times twice an odd number -/
theorem geo_two (n : Nat) : ∃ q, geo (2 * n) = geo n * (2 * (2 * q + 1)) := by
  have h4 := pow5_mod4 n
  refine ⟨5 ^ n / 4, ?_⟩
  have e : 5 ^ n + 1 = 2 * (2 * (5 ^ n / 4) + 1) := by omega
  rw [← e, show 2 * n = n + n by omega, geo_add, Nat.mul_add, Nat.mul_one]
theorem odd_drop {k a q : Nat} (h : 2 ^ k ∣ a * (2 * q + 1)) : 2 ^ k ∣ a := by
  induction k generalizing a with
  | zero => exact ⟨a, by simp⟩
  | succ k ih =>
    have h1 : 2 ^ k ∣ a * (2 * q + 1) := Nat.dvd_trans ⟨2, by rw [Nat.pow_succ]⟩ h
    obtain ⟨b, rfl⟩ := ih h1
    obtain ⟨c, hc⟩ := h
    have hp : 0 < 2 ^ k := Nat.pow_pos (by decide)
    have e : b * (2 * q + 1) = 2 * c := by
      have : 2 ^ k * (b * (2 * q + 1)) = 2 ^ k * (2 * c) := by
        rw [← Nat.mul_assoc, hc, Nat.pow_succ, Nat.mul_assoc]
      exact Nat.eq_of_mul_eq_mul_left hp this
    have e2 : b * (2 * q) + b = 2 * c := by rw [← e, Nat.mul_add, Nat.mul_one]
    have e3 : b * (2 * q) = 2 * (b * q) := by rw [← Nat.mul_assoc, Nat.mul_comm b 2, Nat.mul_assoc]
    have hb : b % 2 = 0 := by omega
    obtain ⟨d, rfl⟩ : ∃ d, b = 2 * d := ⟨b / 2, by omega⟩
    exact ⟨d, by rw [Nat.pow_succ, Nat.mul_assoc]⟩
theorem geo_dvd : ∀ (k n : Nat), 2 ^ k ∣ geo n → 2 ^ k ∣ n
  | 0, n, _ => ⟨n, by simp⟩
  | k + 1, n, h => by
    have h2 : 2 ∣ geo n := Nat.dvd_trans ⟨2 ^ k, by rw [Nat.pow_succ, Nat.mul_comm]⟩ h
    have ev : n % 2 = 0 := by
      have o := geo_odd n
      omega
    obtain ⟨m, rfl⟩ : ∃ m, n = 2 * m := ⟨n / 2, by omega⟩
    obtain ⟨q, e⟩ := geo_two m
    rw [e] at h
    have h3 : 2 ^ k ∣ geo m * (2 * q + 1) := by
      obtain ⟨c, hc⟩ := h
      refine ⟨c, ?_⟩
      have : 2 * (geo m * (2 * q + 1)) = 2 * (2 ^ k * c) := by
        have l : geo m * (2 * (2 * q + 1)) = 2 * (geo m * (2 * q + 1)) := by rw [← Nat.mul_assoc, Nat.mul_comm (geo m) 2, Nat.mul_assoc]
        rw [← l, hc, Nat.pow_succ, Nat.mul_comm (2 ^ k) 2, Nat.mul_assoc]
      exact Nat.eq_of_mul_eq_mul_left (by decide) this
    obtain ⟨c, hc⟩ := geo_dvd k m (odd_drop h3)
    exact ⟨c, by rw [hc, Nat.pow_succ, Nat.mul_comm (2 ^ k) 2, Nat.mul_assoc]⟩
/-- the n-th place from i -/
def orb (M i : Nat) : Nat → Nat
  | 0 => i
  | n + 1 => (orb M i n * 5 + 1) % M
theorem orb_val {M i : Nat} (hi : i < M) : ∀ n, orb M i n = (5 ^ n * i + geo n) % M
  | 0 => by show i = (1 * i + 0) % M; rw [Nat.one_mul, Nat.add_zero, Nat.mod_eq_of_lt hi]
  | n + 1 => by
    show (orb M i n * 5 + 1) % M = (5 ^ n * 5 * i + (geo n * 5 + 1)) % M
    rw [orb_val hi n, Nat.add_mod, Nat.mul_mod, Nat.mod_mod, ← Nat.mul_mod, ← Nat.add_mod]
    congr 1
    rw [Nat.add_mul, Nat.mul_right_comm]
    omega
theorem mod_eq_dvd {M a b : Nat} (h : a % M = b % M) : M ∣ b - a := by
  have e : (b - a) % M = 0 := Nat.sub_mod_eq_zero_of_mod_eq h.symm
  exact Nat.dvd_of_mod_eq_zero e
theorem orb_inj {k i a b : Nat} (hi : i < 2 ^ k) (hab : a ≤ b) (hb : b < 2 ^ k) (h : orb (2 ^ k) i a = orb (2 ^ k) i b) : a = b := by
  rw [orb_val hi, orb_val hi] at h
  have d := mod_eq_dvd h
  obtain ⟨c, rfl⟩ : ∃ c, b = c + a := ⟨b - a, by omega⟩
  have ga := geo_pow a
  have gb := geo_pow (c + a)
  have gs := geo_add c a
  have e : 5 ^ (c + a) * i + geo (c + a) - (5 ^ a * i + geo a) = geo c * 5 ^ a * (2 * (2 * i) + 1) := by
    have l : geo (c + a) = geo c * 5 ^ a + geo a := gs
    rw [← gb, l]
    generalize geo c * 5 ^ a = x
    rw [← ga]
    have e1 : (4 * (x + geo a) + 1) * i = 4 * (x * i) + (4 * geo a + 1) * i := by
      rw [Nat.mul_add, Nat.add_assoc, Nat.add_mul, Nat.mul_assoc]
    have e2 : x * (2 * (2 * i) + 1) = 4 * (x * i) + x := by
      rw [Nat.mul_add, Nat.mul_one, ← Nat.mul_assoc 2 2 i, Nat.mul_left_comm]
    rw [e1, e2]
    omega
  rw [e] at d
  have d2 := odd_drop d
  obtain ⟨q, hq⟩ : ∃ q, 5 ^ a = 2 * q + 1 := ⟨5 ^ a / 2, by have := pow5_mod4 a; omega⟩
  rw [hq] at d2
  obtain ⟨t, ht⟩ := geo_dvd k c (odd_drop d2)
  cases t with
  | zero => rw [Nat.mul_zero] at ht; omega
  | succ t =>
    have : 2 ^ k ≤ c := by rw [ht, Nat.mul_succ]; omega
    omega
theorem nd_len {α : Type} [DecidableEq α] : ∀ (l D : List α), l.Nodup → (∀ x ∈ l, x ∈ D) → l.length ≤ D.length
  | [], _, _, _ => Nat.zero_le _
  | a :: l, D, h, s => by
    have ha := s a List.mem_cons_self
    have hn := List.nodup_cons.mp h
    have ih := nd_len l (D.erase a) hn.2 fun x hx => (List.mem_erase_of_ne (fun e => hn.1 (by rw [← e]; exact hx))).2 (s x (List.mem_cons_of_mem _ hx))
    rw [List.length_erase_of_mem ha] at ih
    have : 0 < D.length := List.length_pos_of_mem ha
    rw [List.length_cons]
    omega
theorem orb_lt {M i : Nat} (hi : i < M) : ∀ n, orb M i n < M
  | 0 => hi
  | _ + 1 => Nat.mod_lt _ (by omega)
/-- every place is met -/
theorem orb_all {k i j : Nat} (hi : i < 2 ^ k) (hj : j < 2 ^ k) : ∃ n, n < 2 ^ k ∧ orb (2 ^ k) i n = j := by
  apply Classical.byContradiction
  intro no
  have miss : ∀ n, n < 2 ^ k → orb (2 ^ k) i n ≠ j := fun n hn e => no ⟨n, hn, e⟩
  have nd : (j :: (List.range (2 ^ k)).map (orb (2 ^ k) i)).Nodup := by
    refine List.nodup_cons.mpr ⟨fun hm => ?_, ?_⟩
    · obtain ⟨n, hn, e⟩ := List.mem_map.mp hm
      exact miss n (List.mem_range.mp hn) e
    · refine List.Pairwise.map _ (fun a b h => h) ?_
      refine List.Pairwise.imp_of_mem ?_ (List.nodup_range (n := 2 ^ k))
      intro a b ha hb hne e
      have ha' := List.mem_range.mp ha
      have hb' := List.mem_range.mp hb
      rcases Nat.le_total a b with c | c
      · exact hne (orb_inj hi c hb' e)
      · exact hne (orb_inj hi c ha' e.symm).symm
  have l := nd_len _ (List.range (2 ^ k)) nd fun x hx => by
    rcases List.mem_cons.mp hx with rfl | hx
    · exact List.mem_range.mpr hj
    · obtain ⟨n, _, rfl⟩ := List.mem_map.mp hx
      exact List.mem_range.mpr (orb_lt hi n)
  rw [List.length_cons, List.length_map, List.length_range] at l
  omega
end Sx

set_option linter.all false
set_option maxRecDepth 100000
/-! sets whose table has any mask 2^k - 1: the search finds what stands there -/
namespace Sx
open PySem PyProof.Rows L2

/-- the masks of tables of fewer than some thousand items -/
def MaskG (m : Nat) : Prop := ∃ k, 3 ≤ k ∧ k ≤ 13 ∧ m + 1 = 2 ^ k
theorem MaskG.odd {m : Nat} (h : MaskG m) : m % 2 = 1 := by
  obtain ⟨k, h3, _, e⟩ := h
  obtain ⟨q, rfl⟩ : ∃ q, k = q + 1 := ⟨k - 1, by omega⟩
  rw [Nat.pow_succ] at e
  omega
theorem MaskG.top {m : Nat} (h : MaskG m) : m ≤ 8191 := by
  obtain ⟨k, _, h13, e⟩ := h
  have q : 2 ^ k ≤ 2 ^ 13 := Nat.pow_le_pow_right (by decide) h13
  have z : (2 : Nat) ^ 13 = 8192 := by decide
  omega
theorem lcg_is_orb (m i : Nat) : ∀ n, lcgI m i n = orb (m + 1) i n
  | 0 => rfl
  | n + 1 => by
    show (lcgI m i n * 5 + 1) % (m + 1) = (orb (m + 1) i n * 5 + 1) % (m + 1)
    rw [lcg_is_orb m i n]
theorem runs_come {m : Nat} (g : MaskG m) (h : Int) {j : Nat} (hj : j ≤ m) : ∃ n, n ≤ m + 12 ∧ runI m (SetTable.bits h) n = j := by
  obtain ⟨k, _, _, e⟩ := g
  have lo := runI_le m (SetTable.bits h) 12
  obtain ⟨n, hn, q⟩ := orb_all (k := k) (i := runI m (SetTable.bits h) 12) (j := j) (by omega) (by omega)
  refine ⟨12 + n, by omega, ?_⟩
  rw [runI_tail (bits_lt h), lcg_is_orb, e]
  exact q
theorem slots_come {m : Nat} (g : MaskG m) (h : Int) {j : Nat} (hj : j ≤ m) : ∃ k, k < 10 * SetTable.turns m ∧ way m h k = j := by
  obtain ⟨n, a, b⟩ := runs_come g h hj
  obtain ⟨k, c, d⟩ := run_nth m (SetTable.bits h) n
  have t : SetTable.turns m = m + 15 := rfl
  refine ⟨k, by omega, ?_⟩
  show (nth m (runAt m (SetTable.bits h % (m + 1)) (SetTable.bits h)) k).j = j
  rw [d]
  exact b
theorem way_in {m : Nat} {h : Int} {k : Nat} : way m h k ≤ m := by
  have first : SetTable.bits h % (m + 1) ≤ m := Nat.le_of_lt_succ (Nat.mod_lt _ (Nat.succ_pos _))
  have q := runEnd_bd first
  have z := nth_in k (runAt m (SetTable.bits h % (m + 1)) (SetTable.bits h)) (m := m) (show SetTable.bits h % (m + 1) + (SetTable.runEnd m (SetTable.bits h % (m + 1)) - SetTable.bits h % (m + 1)) ≤ m by omega)
  exact Nat.le_trans (Nat.le_add_right _ _) z

/-- each item's slot is found from its hash -/
structure Tab (t : SetTable) (hs : List Int) : Prop where
  up : Ris t.place.toList
  clean : t.dummies = #[]
  size : t.place.size = hs.length
  mask : MaskG t.mask
  le : ∀ x ∈ t.place.toList, x ≤ t.mask
  found : ∀ (i : Nat) (h : Int) (j : Nat), hs[i]? = some h → t.place.toList[i]? = some j → ∃ k, way t.mask h k = j ∧ ∀ c, c < k → way t.mask h c ∈ t.place.toList

section
variable {t : SetTable} {hs : List Int}
theorem Tab.gap (T : Tab t hs) (few : hs.length ≤ t.mask) (h : Int) : ∃ K, K < 10 * SetTable.turns t.mask ∧ way t.mask h K ∉ t.place.toList ∧ ∀ k, k < K → way t.mask h k ∈ t.place.toList := by
  have size := T.size
  obtain ⟨j, lt, no⟩ := st_missing t.place.toList (t.mask + 1) (by rw [Array.length_toList]; omega)
  obtain ⟨k, hk, rfl⟩ := slots_come T.mask h (Nat.le_of_lt_succ lt)
  obtain ⟨K, le, nK, below⟩ := st_least (p := fun k => way t.mask h k ∉ t.place.toList) k no
  exact ⟨K, by omega, nK, fun c hc => Classical.byContradiction (below c hc)⟩
theorem Tab.sooner (T : Tab t hs) {h : Int} {K i j : Nat} (nK : way t.mask h K ∉ t.place.toList) (hi : hs[i]? = some h) (hj : t.place.toList[i]? = some j) : ∃ k, k < K ∧ way t.mask h k = j := by
  obtain ⟨k, e, all⟩ := T.found i h j hi hj
  refine ⟨k, Nat.lt_of_not_le fun le => ?_, e⟩
  rcases Nat.lt_or_eq_of_le le with c | c
  · exact nK (all K c)
  · exact nK (by rw [c, e]; exact List.mem_of_getElem? hj)
/-- one more, at the first gap of its way -/
theorem Tab.one_more (T : Tab t hs) {h : Int} {K : Nat} (nK : way t.mask h K ∉ t.place.toList) (all : ∀ k, k < K → way t.mask h k ∈ t.place.toList) :
    SetTable.below t.place (way t.mask h K) ≤ hs.length ∧
    Tab (t.put (way t.mask h K)).1 (hs.take (SetTable.below t.place (way t.mask h K)) ++ h :: hs.drop (SetTable.below t.place (way t.mask h K))) ∧
    (t.put (way t.mask h K)).1.fill = hs.length + 1 := by
  have inside : way t.mask h K ≤ t.mask := way_in
  generalize ej : way t.mask h K = j at nK inside ⊢
  obtain ⟨low, _, _⟩ := below_cut T.up j
  have ps := T.size
  have lp : SetTable.below t.place j ≤ t.place.toList.length := by rw [Array.length_toList]; exact low
  have lh : SetTable.below t.place j ≤ hs.length := ps ▸ low
  have pl := put_place t j
  have keep : ∀ {x : Nat}, x ∈ t.place.toList → x ∈ (t.put j).1.place.toList := fun m => by rw [pl]; exact mem_ins.2 (.inr m)
  have sz : (t.put j).1.place.size = hs.length + 1 := by
    rw [← Array.length_toList, pl, len_ins _ lp, Array.length_toList, ps]
  have nw : t.place[SetTable.below t.place j]? ≠ some j := fun e => nK (List.mem_of_getElem? (by rw [Array.getElem?_toList]; exact e))
  refine ⟨lh, ?_, ?_⟩
  · constructor
    · exact ris_insert T.up nw
    · exact put_dm T.clean j
    · rw [len_ins _ lh]; exact sz
    · exact T.mask
    · intro x m
      rw [pl] at m
      rcases mem_ins.1 m with e | m
      · rw [e]; exact inside
      · exact T.le x m
    · intro i h' j' e1 e2
      rw [tins_get hs lh] at e1
      rw [pl, tins_get _ lp] at e2
      show ∃ k, way t.mask h' k = j' ∧ ∀ c, c < k → way t.mask h' c ∈ (t.put j).1.place.toList
      split at e1
      · rename_i c
        rw [if_pos c] at e2
        obtain ⟨k, e, z⟩ := T.found i h' j' e1 e2
        exact ⟨k, e, fun q hq => keep (z q hq)⟩
      · rename_i c
        rw [if_neg c] at e2
        split at e1
        · rename_i d
          rw [if_pos d] at e2
          cases e1
          cases e2
          exact ⟨K, ej, fun q hq => keep (all q hq)⟩
        · rename_i d
          rw [if_neg d] at e2
          obtain ⟨k, e, z⟩ := T.found (i - 1) h' j' e1 e2
          exact ⟨k, e, fun q hq => keep (z q hq)⟩
  · show (t.put j).1.place.size + (t.put j).1.dummies.size = hs.length + 1
    rw [put_dm T.clean j, sz] <;> rfl
end

/-! ### all laid anew -/
theorem gap_found {m : Nat} (g : MaskG m) (owner : Array (Option Nat)) (h : Int) {j : Nat} (hj : j ≤ m) (free : oAt owner j = none) :
    ∃ K, SetTable.layClean.free m owner (SetTable.turns m) (SetTable.bits h % (m + 1)) (SetTable.bits h) = some (way m h K) ∧ oAt owner (way m h K) = none ∧ ∀ k, k < K → oAt owner (way m h k) ≠ none := by
  obtain ⟨n, le, e⟩ := runs_come g h hj
  generalize hb : SetTable.bits h = b at e
  have st : way m h (off m (b % (m + 1)) b n) = j := by
    unfold way
    rw [hb, nth_off, itL_run]
    exact e
  have free' : oAt owner (way m h (off m (b % (m + 1)) b n)) = none := by rw [st]; exact free
  obtain ⟨K, leK, eK, below⟩ := st_least (p := fun k => oAt owner (way m h k) = none) _ free'
  have wb : ∀ k, way m h k = (nth m (runAt m (b % (m + 1)) b) k).j := fun k => by unfold way; rw [hb]
  refine ⟨K, ?_, eK, below⟩
  have q := free_spec m owner (SetTable.turns m) n (b % (m + 1)) b K (show n < m + 15 by omega) leK (fun k hk => ?_) ?_
  · rw [q, wb]
  · rw [← wb, Option.isNone_eq_false_iff, Option.isSome_iff_ne_none]
    exact below k hk
  · rw [← wb, eK] <;> rfl
theorem own_step {m : Nat} (g : MaskG m) {done : List Int} {owner : Array (Option Nat)} (W : Own m done owner) (few : done.length ≤ m) (h : Int) :
    ∃ j, SetTable.layClean.free m owner (SetTable.turns m) (SetTable.bits h % (m + 1)) (SetTable.bits h) = some j ∧ Own m (done ++ [h]) (owner.setIfInBounds j (some done.length)) := by
  obtain ⟨ps, lps, cov⟩ := W.ps
  obtain ⟨j0, lt0, nin⟩ := st_missing ps (m + 1) (by omega)
  have f0 : oAt owner j0 = none := Classical.byContradiction fun z => nin (cov j0 (Nat.le_of_lt_succ lt0) z)
  obtain ⟨K, got, fK, below⟩ := gap_found g owner h (Nat.le_of_lt_succ lt0) f0
  have le : way m h K ≤ m := way_in
  have osz := W.sz
  have self := oAt_set_self (owner := owner) (j := way m h K) (some done.length) (by omega)
  refine ⟨_, got, ?_⟩
  generalize ep : way m h K = p at got fK le self ⊢
  have more : ∀ {i : Nat}, oAt owner i ≠ none → oAt (owner.setIfInBounds p (some done.length)) i ≠ none := fun {i} ne => by
    by_cases c : i = p
    · subst c; rw [self]; exact Option.some_ne_none _
    · rw [oAt_set_ne _ c]; exact ne
  have osz2 : (owner.setIfInBounds p (some done.length)).size = m + 1 := by rw [Array.size_setIfInBounds]; exact osz
  constructor
  · exact osz2
  · intro j k hj e
    by_cases c : j = p
    · subst c
      rw [self] at e
      cases e
      exact ⟨h, K, by simp, ep, fun q hq => more (below q hq)⟩
    · rw [oAt_set_ne _ c] at e
      obtain ⟨x, k0, e1, e2, e3⟩ := W.at_ j k hj e
      have lt := (List.getElem?_eq_some_iff.mp e1).1
      exact ⟨x, k0, by rw [List.getElem?_append_left lt]; exact e1, e2, fun q hq => more (e3 q hq)⟩
  · intro k hk
    rcases Nat.lt_or_ge k done.length with c | c
    · obtain ⟨j, hj, e⟩ := W.all k c
      have np : j ≠ p := fun z => by rw [z, fK] at e; cases e
      exact ⟨j, hj, by rw [oAt_set_ne _ np]; exact e⟩
    · rw [List.length_append] at hk
      have ek : done.length = k := by
        have : [h].length = 1 := rfl
        omega
      exact ⟨p, le, by rw [self, ek]⟩
  · refine ⟨p :: ps, by simp [lps], fun j hj ne => ?_⟩
    by_cases c : j = p
    · exact c ▸ List.mem_cons_self
    · rw [oAt_set_ne _ c] at ne
      exact List.mem_cons_of_mem _ (cov j hj ne)
theorem lay_some {m : Nat} (g : MaskG m) : ∀ (rest done : List Int) (owner : Array (Option Nat)), Own m done owner → done.length + rest.length ≤ m →
    ∃ o2, rest.foldl (stepF m) (some (owner, done.length)) = some (o2, (done ++ rest).length) ∧ Own m (done ++ rest) o2 := by
  intro rest
  induction rest with
  | nil => intro done owner W _; exact ⟨owner, by simp, by simpa using W⟩
  | cons h rest ih =>
    intro done owner W le
    have l1 : (h :: rest).length = rest.length + 1 := rfl
    have l2 : (done ++ [h]).length = done.length + 1 := by simp
    obtain ⟨j, e, W2⟩ := own_step g W (by omega) h
    obtain ⟨o2, f, W3⟩ := ih (done ++ [h]) _ W2 (by omega)
    rw [l2] at f
    have ap : done ++ [h] ++ rest = done ++ h :: rest := by simp
    rw [ap] at f W3
    exact ⟨o2, by rw [List.foldl_cons, stepF_some e]; exact f, W3⟩
theorem lay_clean {m : Nat} (g : MaskG m) {hs : Array Int} (few : hs.size ≤ m) : ∃ owner, SetTable.layClean m hs = some owner ∧ Own m hs.toList owner := by
  obtain ⟨owner, f, W⟩ := lay_some g hs.toList [] _ (Own.init m) (by simpa using few)
  refine ⟨owner, ?_, by simpa using W⟩
  rw [layClean_eq, show (some (Array.replicate (m + 1) (none : Option Nat), 0)) = some (Array.replicate (m + 1) none, ([] : List Int).length) from rfl, f] <;> rfl
/-- the table laid anew -/
theorem laid_anew (t : SetTable) {hs : Array Int} {wanted M : Nat} (hw : SetTable.sizeAbove wanted - 1 = M) (g : MaskG M) (few : hs.size ≤ M) :
    ∃ t2 order, t.relaid hs wanted = some (t2, order) ∧ order.toList.Perm (List.range hs.size) ∧ Tab t2 (order.toList.map fun i => hs.getD i 0) ∧ t2.mask = M ∧ t2.led = t.led ∧ t2.plain = t.plain := by
  obtain ⟨owner, e, W⟩ := lay_clean g few
  have rel : t.relaid hs wanted = some (tabOf t M owner, ((liveOf M owner).map (·.2)).toArray) := by rw [relaid_eq, hw, e] <;> rfl
  obtain ⟨up, inr⟩ := ris_live (fun j => owner.getD j none) (List.range (M + 1)) (by unfold Ris; exact List.pairwise_lt_range)
  have up' : Ris ((liveOf M owner).map (·.1)) := up
  have inr' : ∀ x ∈ (liveOf M owner).map (·.1), x ∈ List.range (M + 1) := inr
  have dist : ((liveOf M owner).map (·.1)).Nodup := up'.imp fun lt => Nat.ne_of_lt lt
  have len : (liveOf M owner).length = hs.size := by
    obtain ⟨ps, lps, cov⟩ := W.ps
    have a : (liveOf M owner).length ≤ ps.length := by
      have z := nd_len ((liveOf M owner).map (·.1)) ps dist fun x hx => by
        obtain ⟨⟨y, k⟩, hq, ey⟩ := List.mem_map.mp hx
        cases ey
        obtain ⟨le, own⟩ := (mem_live W.sz).1 hq
        exact cov y le (by rw [own]; exact Option.some_ne_none _)
      rwa [List.length_map] at z
    have b : hs.size ≤ (liveOf M owner).length := by
      have z := nd_len (List.range hs.size) ((liveOf M owner).map (·.2)) List.nodup_range fun k hk => by
        obtain ⟨j, le, own⟩ := W.all k (by simpa using hk)
        exact List.mem_map.mpr ⟨(j, k), (mem_live W.sz).2 ⟨le, own⟩, rfl⟩
      rwa [List.length_map, List.length_range] at z
    have c : hs.toList.length = hs.size := rfl
    omega
  refine ⟨_, _, rel, ?_, ?_, rfl, rfl, rfl⟩
  · refine perm_range hs.size _ (by show ((liveOf M owner).map (·.2)).length = hs.size; rw [List.length_map, len]) fun k hk => ?_
    obtain ⟨j, le, own⟩ := W.all k (by simpa using hk)
    exact List.mem_map.mpr ⟨(j, k), (mem_live W.sz).2 ⟨le, own⟩, rfl⟩
  · constructor
    · exact up'
    · rfl
    · show ((liveOf M owner).map (·.1)).toArray.size = (((liveOf M owner).map (·.2)).map fun i => hs.getD i 0).length
      simp
    · exact g
    · intro x hx
      exact Nat.le_of_lt_succ (List.mem_range.mp (inr' x hx))
    · intro i h j e1 e2
      have e1' : (((liveOf M owner).map (·.2)).map fun i => hs.getD i 0)[i]? = some h := e1
      have e2' : ((liveOf M owner).map (·.1))[i]? = some j := e2
      rw [List.getElem?_map, List.getElem?_map] at e1'
      rw [List.getElem?_map] at e2'
      rcases hq : (liveOf M owner)[i]? with _ | ⟨y, k⟩
      · rw [hq] at e2'; cases e2'
      · rw [hq] at e1' e2'
        cases e2'
        have eh : hs.getD k 0 = h := Option.some.inj e1'
        obtain ⟨le, own⟩ := (mem_live W.sz).1 (List.mem_of_getElem? hq)
        obtain ⟨x, K, f1, f2, f3⟩ := W.at_ y k le own
        have ex : x = h := by
          rw [← eh, Array.getD_eq_getD_getElem?, ← Array.getElem?_toList, f1] <;> rfl
        subst ex
        refine ⟨K, f2, fun c hc => ?_⟩
        show way M x c ∈ (liveOf M owner).map (·.1)
        rcases z : oAt owner (way M x c) with _ | k2
        · exact absurd z (f3 c hc)
        · exact List.mem_map.mpr ⟨(way M x c, k2), (mem_live W.sz).2 ⟨way_in, z⟩, rfl⟩
/-- the size of a new table: a power of two above what is wanted -/
theorem size_go (n : Nat) : ∀ (f k : Nat), n < 2 ^ (k + f) → 3 ≤ k → (k = 3 ∨ 2 ^ (k - 1) ≤ n) → ∃ q, 3 ≤ q ∧ SetTable.sizeAbove.go n f (2 ^ k) = 2 ^ q ∧ n < 2 ^ q ∧ (q = 3 ∨ 2 ^ (q - 1) ≤ n)
  | 0, k, h, h3, c => ⟨k, h3, rfl, h, c⟩
  | f + 1, k, h, h3, c => by
    have e : SetTable.sizeAbove.go n (f + 1) (2 ^ k) = if 2 ^ k ≤ n then SetTable.sizeAbove.go n f (2 ^ k * 2) else 2 ^ k := rfl
    rw [e]
    by_cases le : 2 ^ k ≤ n
    · rw [if_pos le, ← Nat.pow_succ]
      exact size_go n f (k + 1) (by rw [show k + 1 + f = k + (f + 1) by omega]; exact h) (by omega) (.inr le)
    · rw [if_neg le]
      exact ⟨k, h3, rfl, by omega, c⟩
theorem size_above {n : Nat} (h : n ≤ 8191) : ∃ q, 3 ≤ q ∧ q ≤ 13 ∧ SetTable.sizeAbove n = 2 ^ q ∧ n < 2 ^ q := by
  obtain ⟨q, h3, e, lt, c⟩ := size_go n 64 3 (Nat.lt_of_le_of_lt h (by decide)) (Nat.le_refl _) (.inl rfl)
  refine ⟨q, h3, ?_, e, lt⟩
  rcases c with c | c
  · omega
  · refine Nat.le_of_not_lt fun z => ?_
    have y : 2 ^ 13 ≤ 2 ^ (q - 1) := Nat.pow_le_pow_right (by decide) (by omega)
    have x : (2 : Nat) ^ 13 = 8192 := by decide
    omega
end Sx

set_option linter.all false
set_option maxRecDepth 100000
/-! sets of tuples of ints and texts -/
namespace Sx
open PySem PySem.Spec PyProof.Rows L2

abbrev MixT (P : Program) (w : World) (h : Heap) (k : List Key) (a : Addr) : Prop := IsTupleKey (mixKind P w) h k a
abbrev mh (P : Program) (w : World) (k : List Key) : Int := tupleKeyHash (mixKind P w) k
/-- ints and texts: no class of the program's, hashed by value -/
def Flat (v : Value) : Prop := (∃ i t, v = Value.int i t) ∨ ∃ x t, v = Value.str x t
theorem Flat.noClass {v : Value} (n : Nat) (h : Flat v) : ofAClassStatement n v = pure false := by
  rcases h with ⟨i, t, rfl⟩ | ⟨x, t, rfl⟩ <;> cases n <;> rfl
theorem strNotByVal (n : Nat) (x : Str) (t : Tok) : hashByValue n (.str x t) = pure false := by
  unfold hashByValue; rfl
section
variable {P : Program} {w : World} {A : Around} {E : Value → Shared → Prop} {s : Shared}
theorem flat_items {k : List Key} {vs : List Value} (h : ItemsAre (mixKind P w) k vs) : ∀ v ∈ vs, Flat v := by
  induction h with
  | nil => exact fun v m => absurd m List.not_mem_nil
  | cons h1 _ ih =>
    intro v m
    rcases List.mem_cons.mp m with rfl | m
    · rcases keyIs_shape h1 with ⟨i, t, _, e⟩ | ⟨x, t, _, e⟩
      · exact .inl ⟨i, t, e⟩
      · exact .inr ⟨x, t, e⟩
    · exact ih v m
theorem noClass_mix {k : List Key} {b : Addr} {Q : Bool → Shared → Prop} (hk : MixT P w s.heap k b) (h : Q false s) : wpAny (model P w) A (ofAClassStatement 8 (.ref b)) Q E s := by
  have ty := hk.typeIs
  obtain ⟨o, items, n, ho, _, hd, hi⟩ := hk
  unfold ofAClassStatement
  refine wpAny_bind (wpAny_typeOf ty ?_)
  dsimp only
  simp only [show (("tuple" : String) == "tuple") = true from by decide, if_true, Bool.not_true, Bool.false_eq_true, if_false]
  try refine wpAny_bind (wpAny_pure ?_)
  try simp only [Bool.not_true, Bool.false_eq_true, if_false]
  refine wpAny_bind (show wpAny _ _ (seqItems? (.ref b)) _ _ s from wpAny_seqItems ho hd ?_)
  dsimp only
  refine wpAny_bind (show wpAny _ _ (forIn items _ _) _ _ s from ?_)
  rw [← Array.forIn_toList]
  refine wpAny_forIn_list _ (fun rest r s' => s' = s ∧ r.1 = none ∧ ∀ v ∈ rest, Flat v) _ ?_ ?_ _ _ ⟨rfl, rfl, flat_items hi⟩
  · rintro v rest r s' ⟨rfl, hr, all⟩
    rw [(all v List.mem_cons_self).noClass]
    refine wpAny_bind (wpAny_pure ?_)
    simp only [Bool.false_eq_true, if_false]
    exact wpAny_pure ⟨rfl, rfl, fun u m => all u (List.mem_cons_of_mem _ m)⟩
  · rintro ⟨r1, r2⟩ s' ⟨rfl, hr, _⟩
    cases (show r1 = none from hr)
    exact wpAny_pure h
theorem byVal_mix {k : List Key} {b : Addr} {Q : Bool → Shared → Prop} (hk : MixT P w s.heap k b) (h : ∀ c, Q c s) : wpAny (model P w) A (hashByValue 8 (.ref b)) Q E s := by
  have ty := hk.typeIs
  obtain ⟨o, items, n, ho, _, hd, hi⟩ := hk
  unfold hashByValue
  refine wpAny_bind (wpAny_specialOf ty F.slot_tuple_hash.lookup ?_)
  refine wpAny_bind (show wpAny _ _ (seqItems? (.ref b)) _ _ s from wpAny_seqItems ho hd ?_)
  refine wpAny_bind (show wpAny _ _ (forIn items _ _) _ _ s from ?_)
  rw [← Array.forIn_toList]
  refine wpAny_forIn_list _ (fun rest r s' => s' = s ∧ r.1 = none ∧ ∀ v ∈ rest, Flat v) _ ?_ ?_ _ _ ⟨rfl, rfl, flat_items hi⟩
  · rintro v rest r s' ⟨rfl, hr, all⟩
    rcases all v List.mem_cons_self with ⟨i, t, rfl⟩ | ⟨x, t, rfl⟩
    · rw [hashBy_int]
      refine wpAny_bind (wpAny_pure ?_)
      simp only [Bool.not_true, Bool.false_eq_true, if_false]
      exact wpAny_pure ⟨rfl, rfl, fun u m => all u (List.mem_cons_of_mem _ m)⟩
    · rw [strNotByVal]
      refine wpAny_bind (wpAny_pure ?_)
      simp only [Bool.not_false, if_true]
      exact wpAny_pure (wpAny_pure (h false))
  · rintro ⟨r1, r2⟩ s' ⟨rfl, hr, _⟩
    cases (show r1 = none from hr)
    exact wpAny_pure (h true)
/-- a search among such tuples shows nothing -/
theorem unseen_mix {k : List Key} {b : Addr} {Q : Bool → Shared → Prop} (hk : MixT P w s.heap k b) {ys : List Value} (hy : ∀ y ∈ ys, ∃ k2 c, y = Value.ref c ∧ MixT P w s.heap k2 c) (h : Q false s) :
    wpAny (model P w) A (searchCouldBeSeen (.ref b) ys) Q E s := by
  unfold searchCouldBeSeen
  refine wpAny_bind (wpAny_forIn_list _ (fun rest r s' => s' = s ∧ r.1 = none ∧ ∀ y ∈ rest, ∃ k2 c, y = Value.ref c ∧ MixT P w s.heap k2 c) _ ?_ ?_ _ _ ⟨rfl, rfl, hy⟩)
  · rintro v rest r s' ⟨rfl, hr, all⟩
    obtain ⟨k2, c, rfl, hc⟩ := all v List.mem_cons_self
    have all2 := fun u m => all u (List.mem_cons_of_mem (Value.ref c) m)
    dsimp only
    by_cases hv : (b == c || (carriedByValue (.ref b) && carriedByValue (.ref c))) = true
    · exact wp_if_pos hv (wpAny_pure ⟨rfl, rfl, all2⟩)
    · refine wp_if_neg hv (wpAny_bind (wpAny_eqIsQuiet_tuple hk ?_))
      simp only [Bool.not_true, Bool.false_eq_true, if_false]
      refine wpAny_bind (wpAny_eqIsQuiet_tuple hc ?_)
      simp only [Bool.not_true, Bool.false_eq_true, if_false]
      refine wpAny_bind (noClass_mix hk ?_)
      simp only [Bool.false_eq_true, if_false]
      refine wpAny_bind (noClass_mix hc ?_)
      simp only [Bool.false_eq_true, if_false]
      exact wpAny_pure ⟨rfl, rfl, all2⟩
  · rintro ⟨r1, r2⟩ s' ⟨rfl, hr, _⟩
    cases (show r1 = none from hr)
    exact wpAny_pure h

/-! ### what the set is -/
abbrev Rows := List (Addr × List Key)
def cells (P : Program) (w : World) (L : Rows) : List (Int × Value) := L.map fun p => (mh P w p.2, Value.ref p.1)
theorem cells_len (L : Rows) : (cells P w L).length = L.length := List.length_map ..
structure MSet (P : Program) (w : World) (h : Heap) (a : Addr) (L : Rows) (es : Array (Int × Value)) (ep : Nat) (t : SetTable) : Prop where
  ob : ∃ o, h.get? a = some o ∧ o.ExactSet ∧ o.data = .set es ep t
  rows : es.toList = cells P w L
  tab : Tab t (L.map fun p => mh P w p.2)
  nd : (L.map (·.2)).Nodup
  tup : ∀ p ∈ L, MixT P w h p.2 p.1
  led : w.params.followText "set-order" = true ∨ t.led = true
  room : L.length * 5 < t.mask * 3
  few : L.length ≤ 2000
variable {a : Addr} {L : Rows} {es : Array (Int × Value)} {ep : Nat} {t : SetTable}
theorem cells_size (r : es.toList = cells P w L) : es.size = L.length := by
  rw [← Array.length_toList, r, cells_len]
theorem MSet.fits (R : MSet P w s.heap a L es ep t) : t.fits es.size = true := by
  have ts := R.tab.size
  have room := R.room
  rw [List.length_map] at ts
  rw [cells_size R.rows]
  unfold SetTable.fits SetTable.fill
  rw [R.tab.clean]
  simp
  omega
theorem cells_at (r : es.toList = cells P w L) {i : Nat} {p : Addr × List Key} (h : L[i]? = some p) : es[i]? = some (mh P w p.2, Value.ref p.1) := by
  rw [← Array.getElem?_toList, r]
  unfold cells
  rw [List.getElem?_map, h] <;> rfl
theorem MSet.steady (R : MSet P w s.heap a L es ep t) : ¬ t.gaveWay = true := by
  unfold SetTable.gaveWay
  rw [R.tab.mask.odd]
  decide

/-- the probe's start for a hash -/
abbrev pst (t : SetTable) (h : Int) (c : Nat) : SetTable.Probe := nth t.mask (runAt t.mask (SetTable.bits h % (t.mask + 1)) (SetTable.bits h)) c
theorem pst_add (t : SetTable) (h : Int) (c q : Nat) : nth t.mask (pst t h c) q = pst t h (c + q) := (nth_add t.mask c _ q).symm
theorem pst_j (t : SetTable) (h : Int) (c q : Nat) : (nth t.mask (pst t h c) q).j = way t.mask h (c + q) := by rw [pst_add]
theorem pst_free (t : SetTable) (h : Int) : ∀ c, (pst t h c).dummy = none := by
  intro c
  induction c with
  | zero => rfl
  | succ c ih =>
    rw [← pst_add t h c 1]
    show (adv t.mask (pst t h c)).dummy = none
    unfold adv
    split <;> exact ih

/-- the search from the c-th step of its way on -/
theorem find_from (R : MSet P w s.heap a L es ep t) {x : Addr} {k : List Key} (hx : MixT P w s.heap k x) (hu : A.units < cLine) {K : Nat} (hf : K < 10 * SetTable.turns t.mask)
    (nK : way t.mask (mh P w k) K ∉ t.place.toList) (low : ∀ c, c < K → way t.mask (mh P w k) c ∈ t.place.toList) {Q : SetFound → Shared → Prop}
    (yes : k ∈ L.map (·.2) → Q (.there none) s) (no : k ∉ L.map (·.2) → Q (.free (way t.mask (mh P w k) K) false) s) :
    ∀ (f c : Nat) (stand : Option SetTable.Probe), stand.getD (t.probeStart (mh P w k)) = pst t (mh P w k) c → c ≤ K → K - c < f →
      (∀ (i : Nat) p, L[i]? = some p → p.2 = k → ∃ q, c ≤ q ∧ q < K ∧ t.place.toList[i]? = some (way t.mask (mh P w k) q)) →
      wpAny (model P w) A (setSearchFrom a (.ref x) (mh P w k) true f stand) Q E s := by
  intro f
  induction f with
  | zero => intro c _ _ _ z; exact absurd z (Nat.not_lt_zero _)
  | succ f ih =>
    intro c stand st le lt reach
    obtain ⟨o, ho, _, hd⟩ := R.ob
    rw [setSearchFrom_succ]
    refine wpAny_bind (wpAny_setState_of ho hd R.fits ?_)
    dsimp only
    refine wp_if_neg R.steady ?_
    try refine wpAny_bind (wpAny_pure ?_)
    have hashes : ∀ (i : Nat) p, L[i]? = some p → (fun i => (es[i]?.map (·.1)).getD 0) i = mh P w p.2 := fun i p e => by
      show (es[i]?.map (·.1)).getD 0 = _
      rw [cells_at R.rows e] <;> rfl
    rcases go_spec t R.tab.up R.tab.clean (fun i => (es[i]?.map (·.1)).getD 0) (mh P w k) (10 * SetTable.turns t.mask) (K - c) (pst t (mh P w k) c) (pst_free ..) (by omega)
      (fun q hq => by rw [pst_j]; exact low _ (by omega)) (by rw [pst_j, show c + (K - c) = K by omega]; exact nK) with ⟨q, i, hq, at_, same, before, pr⟩ | ⟨before, pr⟩
    · rw [pst_j] at at_ pr
      rw [pst_add] at pr
      have met : t.probe (fun i => (es[i]?.map (·.1)).getD 0) (mh P w k) (stand.getD (t.probeStart (mh P w k))) = some (.candidate (way t.mask (mh P w k) (c + q)) i (pst t (mh P w k) (c + (q + 1)))) := by
        rw [st]; exact pr
      rw [met]
      dsimp only
      have il : i < L.length := by
        have z1 := (List.getElem?_eq_some_iff.mp at_).1
        have z2 := R.tab.size
        rw [List.length_map] at z2
        rw [Array.length_toList, z2] at z1
        exact z1
      obtain ⟨p, ep'⟩ : ∃ p, L[i]? = some p := ⟨_, List.getElem?_eq_getElem il⟩
      have pm := List.mem_of_getElem? ep'
      have live : t.slot (way t.mask (mh P w k) (c + q)) = .live i := slot_live R.tab.up at_
      have go : wpAny (model P w) A (searchRest a (.ref x) (mh P w k) true f es t (way t.mask (mh P w k) (c + q)) i (pst t (mh P w k) (c + (q + 1)))) Q E s := by
        unfold searchRest
        rw [cells_at R.rows ep']
        dsimp only
        refine wpAny_bind (wpAny_holding (wpAny_eqBool_tuple hu (R.tup p pm) hx ?_))
        refine wpAny_bind (wpAny_setState_of ho hd R.fits ?_)
        dsimp only
        by_cases ek : p.2 = k
        · exact wp_if_pos (by simp [ek]) (wpAny_pure (yes (List.mem_map.mpr ⟨p, pm, ek⟩)))
        · refine wp_if_neg (by simp [ek]) ?_
          try refine wpAny_bind (wpAny_pure ?_)
          rw [sameMem]
          dsimp only
          simp only [if_true, live, cells_at R.rows ep']
          refine wpAny_bind (wpAny_isSame_ref_self (wpAny_bind (wpAny_pure ?_)))
          simp only [if_true]
          refine wp_if_neg (by simp [ek]) (ih (c + (q + 1)) _ rfl (by omega) (by omega) fun i0 p0 h0 k0 => ?_)
          obtain ⟨d, d1, d2, d3⟩ := reach i0 p0 h0 k0
          refine ⟨d, Nat.lt_of_not_le fun (z : d ≤ c + q) => ?_, d2, d3⟩
          rcases Nat.lt_or_eq_of_le z with z | z
          · refine before (d - c) i0 (by omega) (by rw [pst_j, show c + (d - c) = d by omega]; exact d3) ?_
            exact (hashes i0 p0 h0).trans (by rw [k0])
          · rw [z] at d3
            have l2 := slot_live R.tab.up d3
            rw [live] at l2
            injection l2 with l2
            rw [← l2, ep'] at h0
            cases h0
            exact ek k0
      by_cases hl : t.led = true
      · refine wp_if_neg (by simp [hl]) ?_
        try refine wpAny_bind (wpAny_pure ?_)
        exact go
      · refine wp_if_pos (by simp [hl]) (wpAny_bind (unseen_mix hx (fun y hy => ?_) ?_))
        · obtain ⟨e, he, rfl⟩ := List.mem_map.mp hy
          have he2 : e ∈ es.toList := by
            have z : e ∈ es ∧ e.1 = mh P w k := by simpa using he
            simpa using z.1
          rw [R.rows] at he2
          obtain ⟨p2, hp2, rfl⟩ := List.mem_map.mp he2
          exact ⟨p2.2, p2.1, rfl, R.tup p2 hp2⟩
        · refine wp_if_neg (by decide) ?_
          try refine wpAny_bind (wpAny_pure ?_)
          exact go
    · rw [pst_j, show c + (K - c) = K by omega] at pr
      have met : t.probe (fun i => (es[i]?.map (·.1)).getD 0) (mh P w k) (stand.getD (t.probeStart (mh P w k))) = some (.empty (way t.mask (mh P w k) K) none) := by
        rw [st]; exact pr
      rw [met]
      dsimp only
      refine wpAny_pure (no fun m => ?_)
      obtain ⟨p0, h0, k0⟩ := List.mem_map.mp m
      obtain ⟨i0, _, e0⟩ := List.getElem_of_mem h0
      have at0 : L[i0]? = some p0 := by rw [← e0]; exact List.getElem?_eq_getElem _
      obtain ⟨d, d1, d2, d3⟩ := reach i0 p0 at0 k0
      refine before (d - c) i0 (by omega) (by rw [pst_j, show c + (d - c) = d by omega]; exact d3) ?_
      exact (hashes i0 p0 at0).trans (by rw [k0])
theorem find_at (R : MSet P w s.heap a L es ep t) {x : Addr} {k : List Key} (hx : MixT P w s.heap k x) (hu : A.units < cLine) {Q : SetFound → Shared → Prop}
    (yes : k ∈ L.map (·.2) → Q (.there none) s)
    (no : ∀ K, k ∉ L.map (·.2) → way t.mask (mh P w k) K ∉ t.place.toList → (∀ c, c < K → way t.mask (mh P w k) c ∈ t.place.toList) → Q (.free (way t.mask (mh P w k) K) false) s) :
    wpAny (model P w) A (setSearch a (.ref x) (mh P w k) true) Q E s := by
  have room := R.room
  obtain ⟨K, hf, nK, low⟩ := R.tab.gap (by rw [List.length_map]; omega) (mh P w k)
  have top := R.tab.mask.top
  have tn : SetTable.turns t.mask = t.mask + 15 := rfl
  unfold setSearch
  refine find_from R hx hu hf nK low yes (fun m => no K m nK low) 100000 0 none rfl (Nat.zero_le _) (by omega) fun i p hp hk => ?_
  have il := (List.getElem?_eq_some_iff.mp hp).1
  have z2 := R.tab.size
  rw [List.length_map] at z2
  have at_ : t.place.toList[i]? = some (t.place.toList[i]'(by rw [Array.length_toList, z2]; exact il)) := List.getElem?_eq_getElem _
  have hi : (L.map fun p => mh P w p.2)[i]? = some (mh P w k) := by rw [List.getElem?_map, hp, ← hk] <;> rfl
  obtain ⟨c, hc, e⟩ := R.tab.sooner nK hi at_
  exact ⟨c, Nat.zero_le _, hc, by rw [at_, e]⟩
end
end Sx

set_option linter.all false
set_option maxRecDepth 100000
/-! adding to a set of tuples -/
namespace Sx
open PySem PySem.Spec PyProof.Rows L2
section
variable {P : Program} {w : World} {A : Around} {E : Value → Shared → Prop} {s : Shared}
theorem mix_other {h h' : Heap} {k : List Key} {a b : Addr} {o : Obj} {es : Array (Int × Value)} {ep : Nat} {t : SetTable} (hb : MixT P w h k b) (ho : h.get? a = some o) (hd : o.data = .set es ep t) (sb : Heap.SameBut a h h') : MixT P w h' k b := by
  obtain ⟨ob, items, n, hob, hc, hod, hi⟩ := hb
  refine ⟨ob, items, n, ?_, hc, hod, hi⟩
  rw [sb.2 b ?_, hob]
  intro e
  subst e
  rw [hob] at ho
  cases ho
  rw [hod] at hd
  cases hd
theorem cells_put (L : Rows) (p : Nat) (x : Addr) (k : List Key) : cells P w (L.take p ++ (x, k) :: L.drop p) = (cells P w L).take p ++ (mh P w k, Value.ref x) :: (cells P w L).drop p := by
  simp [cells, List.map_take, List.map_drop]
theorem pick_all {α : Type} (L : List α) : (List.range L.length).filterMap (fun i => L[i]?) = L := by
  induction L with
  | nil => rfl
  | cons x L ih =>
    rw [List.length_cons, List.range_succ_eq_map, List.filterMap_cons_some (show (x :: L)[0]? = some x from rfl), List.filterMap_map]
    exact congrArg (x :: ·) ih
theorem cells_order (L : Rows) (es : Array (Int × Value)) (order : Array Nat) (r : es.toList = cells P w L) (pm : order.toList.Perm (List.range L.length)) :
    ∃ L2, (order.filterMap (es[·]?)).toList = cells P w L2 ∧ L2.Perm L ∧ (L2.map fun p => mh P w p.2) = order.toList.map fun i => (es.map (·.1)).getD i 0 := by
  have at_ : ∀ (i : Nat) (h : i < L.length), es[i]? = some (mh P w L[i].2, Value.ref L[i].1) := fun i h => cells_at r (List.getElem?_eq_getElem h)
  refine ⟨order.toList.filterMap fun i => L[i]?, ?_, ?_, ?_⟩
  · rw [Array.toList_filterMap]
    have all : ∀ i ∈ order.toList, i < L.length := fun i m => List.mem_range.mp (pm.mem_iff.mp m)
    revert all
    generalize order.toList = l
    intro all
    induction l with
    | nil => rfl
    | cons i l ih =>
      have hi := all i List.mem_cons_self
      rw [List.filterMap_cons_some (at_ i hi), List.filterMap_cons_some (List.getElem?_eq_getElem hi), ih fun j m => all j (List.mem_cons_of_mem _ m)] <;> rfl
  · have z := pm.filterMap (fun i => L[i]?)
    rw [pick_all] at z
    exact z
  · have all : ∀ i ∈ order.toList, i < L.length := fun i m => List.mem_range.mp (pm.mem_iff.mp m)
    revert all
    generalize order.toList = l
    intro all
    induction l with
    | nil => rfl
    | cons i l ih =>
      have hi := all i List.mem_cons_self
      rw [List.filterMap_cons_some (List.getElem?_eq_getElem hi), List.map_cons, List.map_cons, ih fun j m => all j (List.mem_cons_of_mem _ m)]
      congr 1
      have z : (es.map (·.1))[i]? = some (mh P w L[i].2) := by rw [Array.getElem?_map, at_ i hi] <;> rfl
      rw [Array.getD_eq_getD_getElem?, z] <;> rfl

variable {a : Addr} {L : Rows} {es : Array (Int × Value)} {ep : Nat} {t : SetTable}
/-- a full table is laid anew -/
theorem relay_mix {o : Obj} (ho : s.heap.get? a = some o) (ex : o.ExactSet) (hd : o.data = .set es ep t) (rows : es.toList = cells P w L) (T : Tab t (L.map fun p => mh P w p.2)) (fill : es.size ≤ t.mask)
    (nd : (L.map (·.2)).Nodup) (tup : ∀ p ∈ L, MixT P w s.heap p.2 p.1) (ld : w.params.followText "set-order" = true ∨ t.led = true) (few : L.length ≤ 2000) (pos : 1 ≤ L.length) {Q : Unit → Shared → Prop}
    (hQ : ∀ h' L2 es2 ep2 t2, Heap.SameBut a s.heap h' → MSet P w h' a L2 es2 ep2 t2 → L2.Perm L → Q () { s with heap := h' }) : wpAny (model P w) A (setRelay a (SetTable.grown L.length)) Q E s := by
  have n1 := cells_size rows
  have gr : SetTable.grown L.length = L.length * 4 := by
    unfold SetTable.grown
    rw [if_neg (by omega)]
  obtain ⟨q, q3, q13, sz, above⟩ := size_above (n := SetTable.grown L.length) (by rw [gr]; omega)
  have two : 2 ^ q ≤ 2 ^ 13 := Nat.pow_le_pow_right (by decide) q13
  have c13 : (2 : Nat) ^ 13 = 8192 := by decide
  have ps := T.size
  rw [List.length_map] at ps
  have fits : t.fits es.size = true := by
    unfold SetTable.fits SetTable.fill
    rw [T.clean]
    simp
    omega
  obtain ⟨t2, order, e, pm, T2, em, el, _⟩ := laid_anew t (hs := es.map (·.1)) (wanted := SetTable.grown L.length) (M := 2 ^ q - 1) (by rw [sz]) ⟨q, q3, q13, by omega⟩ (by rw [Array.size_map, n1]; omega)
  rw [Array.size_map, n1] at pm
  obtain ⟨L2, r2, p2, m2⟩ := cells_order L es order rows pm
  rw [← m2] at T2
  have n2 : (order.filterMap (es[·]?)).size = es.size := by
    rw [cells_size r2, p2.length_eq, n1]
  rw [setRelay_eq]
  refine wpAny_bind (wpAny_setState_of ho hd fits ?_)
  dsimp only
  refine wp_if_neg (by rw [sz, sizeLine_eq]; omega) ?_
  try refine wpAny_bind (wpAny_pure ?_)
  rw [e]
  dsimp only
  refine wpAny_bind (wp_if_neg (by rw [n2]; simp) ?_)
  try refine wpAny_bind (wpAny_pure ?_)
  refine wpAny_pure ?_
  dsimp only
  have sb : Heap.SameBut a s.heap (s.heap.update a (Obj.putSet (order.filterMap (es[·]?)) t2)) := Heap.SameBut.update ..
  refine wpAny_storeSet_of ho hd (hQ _ L2 (order.filterMap (es[·]?)) (ep + 1) t2 sb ?_ p2) (by rw [n2, n1, sizeLine_eq]; omega)
  constructor
  · exact ⟨_, store_at ho hd, ⟨ex.1, ex.2.1, ex.2.2⟩, rfl⟩
  · exact r2
  · exact T2
  · exact (p2.map (·.2)).nodup_iff.mpr nd
  · exact fun p m => mix_other (tup p (p2.mem_iff.mp m)) ho hd sb
  · rw [el]; exact ld
  · rw [p2.length_eq, em]; omega
  · rw [p2.length_eq]; exact few
/-- one tuple is put in -/
theorem add_mix (R : MSet P w s.heap a L es ep t) {x : Addr} {k : List Key} (hx : MixT P w s.heap k x) (hu : A.units < cLine) (few : L.length + 1 ≤ 2000) {Q : Bool → Shared → Prop}
    (hQ : ∀ b h' L2 es2 ep2 t2, Heap.SameBut a s.heap h' → MSet P w h' a L2 es2 ep2 t2 → (k ∈ L.map (·.2) → L2 = L) → (k ∉ L.map (·.2) → L2.Perm ((x, k) :: L)) → Q b { s with heap := h' }) :
    wpAny (model P w) A (setAddHashed a (.ref x) (mh P w k)) Q E s := by
  obtain ⟨o, ho, ex, hd⟩ := R.ob
  have n1 := cells_size R.rows
  have room := R.room
  unfold setAddHashed
  refine wpAny_holding ?_
  rw [show (100000 : Nat) = 99999 + 1 from rfl, setAddHashedIn_succ]
  refine wpAny_bind (wpAny_setState_of ho hd R.fits ?_)
  dsimp only
  refine wp_if_neg (by simp [byScan, Value.scannable]) ?_
  try refine wpAny_bind (wpAny_pure ?_)
  refine wpAny_bind (find_at R hx hu (fun m => ?_) fun K m nK low => ?_)
  · dsimp only
    exact wpAny_pure (hQ false s.heap L es ep t (Heap.SameBut.refl a s.heap) R (fun _ => rfl) fun z => absurd m z)
  · dsimp only
    refine wpAny_bind (wpAny_setState_of ho hd R.fits ?_)
    dsimp only
    obtain ⟨le, T1, fl⟩ := R.tab.one_more nK low
    have snd : (t.put (way t.mask (mh P w k) K)).2 = SetTable.below t.place (way t.mask (mh P w k) K) := rfl
    have msk : (t.put (way t.mask (mh P w k) K)).1.mask = t.mask := rfl
    have ledE : (t.put (way t.mask (mh P w k) K)).1.led = t.led := rfl
    rw [List.length_map] at le fl
    generalize t.put (way t.mask (mh P w k) K) = pt at T1 fl snd msk ledE ⊢
    obtain ⟨t1, p⟩ := pt
    dsimp only at T1 fl snd msk ledE ⊢
    rw [← snd] at le T1
    have perm : (L.take p ++ (x, k) :: L.drop p).Perm ((x, k) :: L) := put_perm L p (x, k)
    have len := perm.length_eq
    rw [List.length_cons] at len
    have hs : (L.take p ++ (x, k) :: L.drop p).map (fun p => mh P w p.2) = (L.map fun p => mh P w p.2).take p ++ mh P w k :: (L.map fun p => mh P w p.2).drop p := by
      rw [List.map_append, List.map_cons, List.map_take, List.map_drop]
    rw [← hs] at T1
    have rows1 : (SetTable.insertAt es p (mh P w k, Value.ref x)).toList = cells P w (L.take p ++ (x, k) :: L.drop p) := by
      rw [SetTable.toList_insertAt, cells_put, R.rows]
    have nd1 : ((L.take p ++ (x, k) :: L.drop p).map (·.2)).Nodup := (perm.map (·.2)).nodup_iff.mpr (by rw [List.map_cons]; exact List.nodup_cons.mpr ⟨m, R.nd⟩)
    generalize SetTable.insertAt es p (mh P w k, Value.ref x) = es1 at rows1 ⊢
    generalize L.take p ++ (x, k) :: L.drop p = L1 at perm len T1 rows1 nd1
    have n2 := cells_size rows1
    have rest : ∀ t2 : SetTable, t2.place = t1.place → t2.dummies = t1.dummies → t2.mask = t1.mask → t2.led = t1.led → wpAny (model P w) A (do
        storeSet a es1 t2
        if (!false && t2.tooFull) = true then setRelay a (SetTable.grown (es.size + 1))
        return true) Q E s := fun t2 e1 e2 e3 e4 => by
      have T2 : Tab t2 (L1.map fun p => mh P w p.2) := by
        refine ⟨by rw [e1]; exact T1.up, by rw [e2]; exact T1.clean, by rw [e1]; exact T1.size, by rw [e3]; exact T1.mask, by rw [e1, e3]; exact T1.le, ?_⟩
        rw [e1, e3]
        exact T1.found
      have fl2 : t2.fill = L.length + 1 := by rw [← fl]; unfold SetTable.fill; rw [e1, e2]
      have ld2 : w.params.followText "set-order" = true ∨ t2.led = true := by rw [e4, ledE]; exact R.led
      refine wpAny_bind (wpAny_storeSet_of ho hd ?_ (by rw [n2, len, sizeLine_eq]; omega))
      have sb : Heap.SameBut a s.heap (s.heap.update a (Obj.putSet es1 t2)) := Heap.SameBut.update ..
      have ho1 := store_at (es' := es1) (t' := t2) ho hd
      generalize s.heap.update a (Obj.putSet es1 t2) = h1 at sb ho1 ⊢
      have tup1 : ∀ q ∈ L1, MixT P w h1 q.2 q.1 := fun q hq => by
        rcases List.mem_cons.mp (perm.mem_iff.mp hq) with e | hq
        · rw [e]; exact mix_other hx ho hd sb
        · exact mix_other (R.tup q hq) ho hd sb
      by_cases full : t2.tooFull = true
      · have big := full
        unfold SetTable.tooFull at big
        rw [decide_eq_true_eq, fl2, e3, msk] at big
        rw [n1]
        have go : wpAny (model P w) A (setRelay a (SetTable.grown (L.length + 1))) (fun _ s' => wpAny (model P w) A (pure true) Q E s') E { s with heap := h1 } := by
          rw [← len]
          refine relay_mix (s := { s with heap := h1 }) ho1 ⟨ex.1, ex.2.1, ex.2.2⟩ rfl rows1 T2 (by rw [n2, len, e3, msk]; omega) nd1 tup1 ld2 (by omega) (by omega) ?_
          intro h2 L2 es2 ep2 t3 sb2 R2 p2
          exact wpAny_pure (hQ true h2 L2 es2 ep2 t3 (sb.trans sb2) R2 (fun z => absurd z m) fun _ => p2.trans perm)
        first
          | exact wpAny_bind (wp_if_pos (by simp [full]) go)
          | exact wp_if_pos (by simp [full]) (wpAny_bind go)
      · have small := full
        unfold SetTable.tooFull at small
        rw [decide_eq_true_eq, fl2, e3, msk] at small
        have fin : Q true { s with heap := h1 } := hQ true h1 L1 es1 (ep + 1) t2 sb ⟨⟨_, ho1, ⟨ex.1, ex.2.1, ex.2.2⟩, rfl⟩, rows1, T2, nd1, tup1, ld2, by rw [len, e3, msk]; omega, by omega⟩ (fun z => absurd z m) fun _ => perm
        first
          | exact wp_if_neg (by simp [full]) (wpAny_pure fin)
          | exact wpAny_bind (wp_if_neg (by simp [full]) (wpAny_pure (wpAny_pure fin)))
    have both : ∀ c : Bool, wpAny (model P w) A (do
        storeSet a es1 (if c = true then t1 else { t1 with plain := false })
        if (!false && (if c = true then t1 else { t1 with plain := false }).tooFull) = true then setRelay a (SetTable.grown (es.size + 1))
        return true) Q E s := fun c => by
      cases c
      · exact rest _ rfl rfl rfl rfl
      · exact rest _ rfl rfl rfl rfl
    by_cases pl : t1.plain = true
    · first
        | exact wpAny_bind (wp_if_pos pl (byVal_mix hx fun c => both c))
        | exact wp_if_pos pl (wpAny_bind (byVal_mix hx fun c => both c))
    · first
        | exact wpAny_bind (wp_if_neg pl (wpAny_pure (both true)))
        | exact wp_if_neg pl (wpAny_bind (wpAny_pure (both true)))
end
end Sx

set_option linter.all false
set_option maxRecDepth 100000
set_option maxHeartbeats 2000000
/-! {elt for target in iter if ..}, elt a tuple of ints and texts -/
namespace Sx
open PySem PySem.Spec PyProof.Rows L2

/-- the set at a; its tuples are things of their own -/
def MSet0 (P : Program) (w : World) (h : Heap) (a : Addr) (L : Rows) : Prop :=
  ∃ (es : Array (Int × Value)) (ep : Nat) (t : SetTable), (∃ o, h.get? a = some o ∧ o.ExactSet ∧ o.data = .set es ep t) ∧ es.toList = cells P w L ∧ Tab t (L.map fun p => mh P w p.2) ∧ (L.map (·.2)).Nodup ∧
    (w.params.followText "set-order" = true ∨ t.led = true) ∧ L.length * 5 < t.mask * 3 ∧ L.length ≤ 2000
def MSetO (P : Program) (w : World) (a : Addr) (L : Rows) : HO := .ext fun h => MSet0 P w h a L
/-- the rows' tuples are tracked -/
def TupsIn (H : Hp) (L : Rows) : Prop := ∀ p ∈ L, H p.1 = some (.tup (p.2.map kV))
section
variable {P : Program} {w : World} {H : Hp} {h : Heap} {a : Addr} {L : Rows}
theorem MSet.bare {es : Array (Int × Value)} {ep : Nat} {t : SetTable} (R : MSet P w h a L es ep t) : MSet0 P w h a L := ⟨es, ep, t, R.ob, R.rows, R.tab, R.nd, R.led, R.room, R.few⟩
theorem MSet0.full (R : MSet0 P w h a L) (ht : ∀ p ∈ L, MixT P w h p.2 p.1) : ∃ es ep t, MSet P w h a L es ep t := by
  obtain ⟨es, ep, t, h1, h2, h3, h4, h5, h6, h7⟩ := R
  exact ⟨es, ep, t, h1, h2, h3, h4, ht, h5, h6, h7⟩
theorem MSet0.ok (R : MSet0 P w h a L) : ObjOk P w H h a (MSetO P w a L) := by
  obtain ⟨es, ep, t, ⟨o, ho, r⟩, q⟩ := R
  refine ⟨⟨es, ep, t, ⟨o, ho, r⟩, q⟩, ⟨o, ho⟩, ?_⟩
  rintro h1 h2 ⟨es', ep', t', ⟨o', ho', r'⟩, q'⟩ k
  exact ⟨es', ep', t', ⟨o', k o' ho', r'⟩, q'⟩
theorem mset_fresh (ho : h.get? a = some { cls := .type "set", dict := none, data := .set #[] 0 (.fresh 0 0 (!w.params.followText "set-order")) }) : MSet0 P w h a [] := by
  refine ⟨#[], 0, .fresh 0 0 (!w.params.followText "set-order"), ⟨_, ho, ⟨rfl, rfl, rfl⟩, rfl⟩, rfl, ?_, List.nodup_nil, ?_, ?_, by decide⟩
  · constructor
    · exact List.Pairwise.nil
    · rfl
    · rfl
    · exact ⟨3, by decide, by decide, rfl⟩
    · exact fun x m => absurd m (by show x ∉ ([] : List Nat); simp)
    · exact fun i h j e => absurd e (by simp)
  · show _ ∨ (!w.params.followText "set-order") = true
    cases w.params.followText "set-order"
    · exact .inr rfl
    · exact .inl rfl
  · show 0 * 5 < 7 * 3
    decide
end
section
variable {X : Cx} {pins : List (Addr × Obj)} {σ : L2.St} {H : Hp} {s : Shared}
theorem tups_raw (I : Inv X pins σ H s) {L : Rows} (ht : TupsIn H L) : ∀ p ∈ L, MixT X.prog X.w s.heap p.2 p.1 := fun p m => key_of I.hok (ht p m)
theorem mset_get (I : Inv X pins σ H s) {a : Addr} {L : Rows} (ha : H a = some (MSetO X.prog X.w a L)) (ht : TupsIn H L) : ∃ es ep t, MSet X.prog X.w s.heap a L es ep t :=
  MSet0.full (I.hok a _ ha).1 (tups_raw I ht)
/-- S.add(tuple) -/
theorem add_tup {E : Value → Shared → Prop} {D x : Addr} {L : Rows} {k : List Key} {Q : Value → Shared → Prop} (hu : X.A.units + 64 < cLine) (I : Inv X pins σ H s) (hD : H D = some (MSetO X.prog X.w D L)) (ht : TupsIn H L) (hx : H x = some (.tup (k.map kV))) (few : L.length + 1 ≤ 2000)
    (h : ∀ s' L2, (k ∈ L.map (·.2) → L2 = L) → (k ∉ L.map (·.2) → L2.Perm ((x, k) :: L)) → Inv X pins σ (upd H D (MSetO X.prog X.w D L2)) s' → Q .none s') : wpAny (model X.prog X.w) X.A (call (.builtin "set.add") [.ref D, .ref x]) Q E s := by
  obtain ⟨es, ep, t, R⟩ := mset_get I hD ht
  have kx : MixT X.prog X.w s.heap k x := key_of I.hok hx
  obtain ⟨o, ho, ex, hd⟩ := R.ob
  have ty : s.TypeIs (.ref D) "set" := ⟨o, ho, ex.1⟩
  refine wpAny_call_entry F.slot_set_add ty F.entry_set_add ?_ (F.args_set_add_2 _ _)
  unfold Builtin.«set.add» Builtin.Frozenset.oneOther
  simp only [List.isEmpty_nil, bind_assoc]
  unfold Builtin.Frozenset.addrOf setAdd
  refine wpAny_bind (wpAny_pure ?_)
  try dsimp only
  refine wpAny_bind (wpAny_pure ?_)
  try dsimp only
  refine wpAny_bind (wpAny_holding (wpAny_bind (wpAny_pyHash_tuple (by simp only [Around.in1_units]; omega) kx ?_)))
  have kx2 : MixT X.prog X.w ({ s with toks := s.toks + (k.length + 1) } : Shared).heap k x := kx
  refine add_mix (s := { s with toks := s.toks + (k.length + 1) }) R kx2 (by simp only [Around.in1_units]; omega) few fun b h' L2 es2 ep2 t2 sb R2 c1 c2 => ?_
  show wpAny _ _ (ret Value.none) _ _ _
  obtain ⟨o2, ho2, _⟩ := R2.ob
  refine wpAny_pure ⟨_, rfl, h _ L2 c1 c2 (I.write (e := D) (t' := s.toks + (k.length + 1)) (by rw [hD]; trivial) (.inl rfl) (fun b u hb hu => (sb.2 b hb).trans hu) ⟨o2, ho2⟩ R2.bare.ok)⟩

/-- a new set D, filled turn by turn -/
def tSm (P : Program) (w : World) (wi : TI) (g : TG) (tt : TT) (te : TE) (vs : List Nat) : TE := fun σ H Q => wi σ H fun J H1 => ∀ D, H1 D = none → ∃ W : Nat → Nat → Hp → Prop, (∃ m, W 0 m (upd H1 D (MSetO P w D []))) ∧ ∀ i m H, W i m H →
  (J.stop i H ∧ Q (.ref D) H) ∨ (J.go i H ∧ ∃ Nx : Hp → Prop, (∀ H', Nx H' → ∃ m', m' < m ∧ W (i + 1) m' H') ∧ ∀ x H', J.yld i H x H' → g x (wipe σ vs) H' fun σ2 H2 => wipe σ2 vs = wipe σ vs ∧ tt σ2 H2 fun b H3 =>
    if b = true then te σ2 H3 fun y H4 => ∃ (x : Addr) (k : List Key) (L : Rows), y = .ref x ∧ H4 x = some (.tup (k.map kV)) ∧ H4 D = some (MSetO P w D L) ∧ TupsIn H4 L ∧ L.length + 1 ≤ 2000 ∧
      ∀ L2, (k ∈ L.map (·.2) → L2 = L) → (k ∉ L.map (·.2) → L2.Perm ((x, k) :: L)) → Nx (upd H4 D (MSetO P w D L2)) else Nx H3)
theorem sm_run {Q : VK} {elt tg iter : Expr} {ifs : List Expr} {scope : Scope} {own : List (PySem.Str × Nat)} {pos at_ : Pos} {wi : TI} {g : TG} {tt : TT} {te : TE} {use : Option (Value → Sem Unit)} {Qf : Value → Shared → Prop}
    (hu : X.A.units + 64 < cLine) (hc : X.calm = true) (hN : X.N.Nodup) (I : Inv X pins σ H s) (hi : PI X tg iter wi) (ok : BlkOk X.N X.env.scope scope own)
    (hg : ∀ s H C cl fp, PG (X.blk s H scope (compEnvC scope cl C X.env) fp) tg g) (ht : ∀ s H C cl fp, PTs (X.blk s H scope (compEnvC scope cl C X.env) fp) ifs tt)
    (he : ∀ s H C cl fp, PE (X.blk s H scope (compEnvC scope cl C X.env) fp) elt te) (hs : ∀ x, foldedSetIterable iter X.env x = pure x)
    (h : tSm X.prog X.w wi g tt te (own.map (·.2)) σ H Q)
    (hR : ∀ D C s' m H', Inv X pins σ H' s' → Q (.ref D) H' → s'.heap.Ns C m → FpOk X pins H' C → compPost (model X.prog X.w) X.A X.xe use Qf (.ref D) C (.ok .next) s') :
    wpAny (model X.prog X.w) X.A (comprehension (.SetComp elt [⟨tg, iter, ifs, 0⟩] scope pos) scope X.env at_ (newSet (.type "set")) false (eval iter X.env) use) Qf X.xe s := by
  have frees : ∀ y ∈ scope.names, y.2 = .free → ∃ c, X.env.cells.lookup y.1 = some c := fun y m e => (ok.free y m e).elim (fun k => I.ok.has _ (.inl k)) fun k => I.ok.has _ (.inr k)
  refine wpAny_comprehension_free (use := use) rfl hs (closure_ok frees) ok.kind (fun y m e => by rw [ok.uniq y m, e])
    (thn (hi.run pins s σ H _ I h) fun xv s1 hx => thn hx fun itv s2 h2 => ?_)
  obtain ⟨it, fp, tn, J, H2, rfl, I2, T, st2, f2, q⟩ := h2
  refine PpSet.newSet_ok (newEnv_comp ?_)
  generalize eD : s2.heap.objs.size = D
  obtain ⟨W, ⟨m0, w0⟩, turn⟩ := q D (I2.hok.fresh (Nat.le_of_eq eD))
  generalize e3 : ({ s2 with heap := s2.heap.push { cls := .type "set", dict := none, data := .set #[] 0 (.fresh 0 0 (!X.w.params.followText "set-order")) } } : Shared) = s3
  have p3 : s3.heap = s2.heap.push { cls := .type "set", dict := none, data := .set #[] 0 (.fresh 0 0 (!X.w.params.followText "set-order")) } := by rw [← e3]
  have I3 : Inv X pins σ (upd H2 D (MSetO X.prog X.w D [])) s3 := by
    rw [← e3]
    refine I2.laid (t' := s2.toks) (fun b o e => Heap.get?_push_of_some _ e) (Nat.le_of_eq eD) ?_
    rw [← eD]
    exact (mset_fresh (Heap.get?_push_size _ rfl)).ok
  have inOld : ∀ b ∈ fp, b < s2.heap.objs.size := fun b m => by
    obtain ⟨o, e, _⟩ := T.obj _ _ st2 b m
    exact Heap.lt_size e
  have f3 : ∀ b ∈ fp, FpOk X pins (upd H2 D (MSetO X.prog X.w D [])) b ∧ b < s3.heap.objs.size := fun b m => by
    have lt := inOld b m
    refine ⟨⟨?_, (f2 b m).2⟩, by rw [p3, Heap.size_push]; exact Nat.lt_succ_of_lt lt⟩
    rw [upd_ne (Nat.ne_of_lt (eD ▸ lt))]
    exact (f2 b m).1
  have st3 : tn 0 s3.heap := T.keep _ _ _ st2 fun b _ o e => by rw [p3]; exact Heap.get?_push_of_some _ e
  have I4 := block_start I3 ok hN f3
  have pg := hg s3 (upd H2 D (MSetO X.prog X.w D [])) s3.heap.objs.size (cellsFrom (s3.heap.objs.size + 1) scope.names (cloFrom X.env.cells scope.names [])) fp
  have pt := ht s3 (upd H2 D (MSetO X.prog X.w D [])) s3.heap.objs.size (cellsFrom (s3.heap.objs.size + 1) scope.names (cloFrom X.env.cells scope.names [])) fp
  have pe := he s3 (upd H2 D (MSetO X.prog X.w D [])) s3.heap.objs.size (cellsFrom (s3.heap.objs.size + 1) scope.names (cloFrom X.env.cells scope.names [])) fp
  show codeAny _ _ (.compStart (.SetComp elt [⟨tg, iter, ifs, 0⟩] scope pos) 0 (.ref it) (.ref D) (compEnvC scope (cellsFrom (s3.heap.objs.size + 1) scope.names (cloFrom X.env.cells scope.names [])) s3.heap.objs.size X.env)) (compPost (model X.prog X.w) X.A X.xe use Qf (.ref D) s3.heap.objs.size) { s3 with heap := pushCells (s3.heap.push { cls := .type "dict", data := .dict #[] }) scope.names }
  have none3 : ∀ b ∈ fp, (upd H2 D (MSetO X.prog X.w D [])) b = none := fun b m => (f3 b m).1.1
  generalize ece : compEnvC scope (cellsFrom (s3.heap.objs.size + 1) scope.names (cloFrom X.env.cells scope.names [])) s3.heap.objs.size X.env = ce at I4 pg pt pe ⊢
  have cl : ce.locals = s3.heap.objs.size := by rw [← ece]; rfl
  generalize upd H2 D (MSetO X.prog X.w D []) = H3 at I3 I4 pg pt pe w0 none3 f3
  generalize e4 : ({ s3 with heap := pushCells (s3.heap.push { cls := .type "dict", data := .dict #[] }) scope.names } : Shared) = s4 at I4 ⊢
  have st4 : tn 0 s4.heap := T.keep _ _ _ st3 fun b _ o e => by rw [← e4]; exact pushCells_keeps _ _ _ _ (Heap.get?_push_of_some _ e)
  have calmFp : ∀ {σ' : L2.St} {H' : Hp} {s' : Shared}, Inv (X.blk s3 H3 scope ce fp) [] σ' H' s' → (∀ b ∈ fp, H' b = none) → ∀ b ∈ fp, FpOk (X.blk s3 H3 scope ce fp) [] H' b := fun {σ' H' s'} I' n b m =>
    ⟨n b m, (I'.ok.exf b m).1, I'.ok.exfs b m, .inl m, fun x c e => (I'.ok.exf b m).2 x c e, fun p hp => absurd (show p ∈ ([] : List (Addr × Obj)) ++ [] from hp) (by simp)⟩
  have loop : codeAny (model X.prog X.w) X.A (.compLoop (.SetComp elt [⟨tg, iter, ifs, 0⟩] scope pos) 0 (.ref it) (.ref D) ce) (compPost (model X.prog X.w) X.A X.xe use Qf (.ref D) s3.heap.objs.size) s4 := by
    refine PpSet.compLoopS_any (fun n s' => ∃ i H', Inv (X.blk s3 H3 scope ce fp) [] (wipe σ (own.map (·.2))) H' s' ∧ tn i s'.heap ∧ (∀ b ∈ fp, H' b = none) ∧ W i n H') ?_ m0 ⟨0, H3, I4, st4, none3, w0⟩
    rintro n s5 ⟨i, H5, I5, st5, n5, w5⟩
    rcases turn i n H5 w5 with ⟨stop, fin⟩ | ⟨go, Nx, next, step⟩
    · refine thnF (T.done (X.blk s3 H3 scope ce fp) rfl rfl rfl hc i [] s5 _ H5 (fun _ _ => False) I5 (calmFp I5 n5) st5 stop) fun r s6 ⟨hr, I6⟩ => ?_
      subst hr
      have I7 : Inv X pins σ H5 s6 := I3.call' (ch := fp) I6.os I6.base I6.hok I6.bare fun b m => ⟨(f3 b m).1.2.2.2.1, (f3 b m).1.2.1, (f3 b m).1.2.2.2.2.1, (f3 b m).1.2.2.2.2.2⟩
      have nC : H5 s3.heap.objs.size = none := cl ▸ (show H5 ce.locals = none from I6.free)
      obtain ⟨m, hn, _⟩ := I6.loc
      exact hR D s3.heap.objs.size s6 m H5 I7 fin (cl ▸ (show s6.heap.Ns ce.locals m from hn)) (I3.fpOk (Nat.le_refl _) nC)
    · refine thnF (T.item (X.blk s3 H3 scope ce fp) rfl rfl rfl hc i [] s5 _ H5 (fun _ _ => False) I5 (calmFp I5 n5) st5 go) fun r s6 ⟨u, hr, h6⟩ => ?_
      subst hr
      refine thnF h6 fun _ s7 ⟨x, H7, I7, r7, y7, st7, n7⟩ => ?_
      have pinned := I7.pinned (calmFp I7 n7) (T.obj _ _ st7)
      refine thnF (pg.run _ s7 _ H7 x u _ pinned r7 (step x H7 y7)) fun _ s8 ⟨σ8, H8, I8, w8, q8⟩ => ?_
      refine thnF (pt.run _ s8 σ8 H8 _ I8 q8) fun b s9 ⟨H9, I9, q9⟩ => ?_
      have turnEnd : ∀ {s' : Shared} {H' : Hp}, Inv (X.blk s3 H3 scope ce fp) ([] ++ pinsAt fp s7.heap) σ8 H' s' → Nx H' → ∃ m, m < n ∧ ∃ i H', Inv (X.blk s3 H3 scope ce fp) [] (wipe σ (own.map (·.2))) H' s' ∧ tn i s'.heap ∧ (∀ b ∈ fp, H' b = none) ∧ W i m H' := fun {s' H'} I' nx => by
        obtain ⟨m', lt, w'⟩ := next H' nx
        have pin : ∀ b ∈ fp, ∀ o, s7.heap.get? b = some o → s'.heap.get? b = some o ∧ H' b = none := fun b m o e => by
          have z := I'.pin (b, o) (List.mem_append_right _ (List.mem_append_right _ (mem_pinsAt m e)))
          exact ⟨z.1, z.2.1⟩
        refine ⟨m', lt, i + 1, H', (I'.unpinned (pins := [])).weak (by rw [← w8, wipe_length]) (fun j v e => ?_), T.keep _ _ _ st7 fun b m o e => (pin b m o e).1, fun b m => ?_, w'⟩
        · rw [← w8] at e
          exact (wipe_some e).1
        · obtain ⟨o, e, _⟩ := T.obj _ _ st7 b m
          exact (pin b m o e).2
      cases b with
      | false =>
        simp only [Bool.false_eq_true, if_false] at q9 ⊢
        exact turnEnd I9 q9
      | true =>
        simp only [if_true] at q9 ⊢
        refine thnF (pe.run _ s9 σ8 H9 _ I9 q9) fun z s10 ⟨yv, H10, I10, r10, xa, k, L, ey, hx, hD, hT, few, nx⟩ => ?_
        subst ey
        cases (show z = Value.ref xa from r10)
        exact add_tup (X := X.blk s3 H3 scope ce fp) hu I10 hD hT hx few fun s11 L2 c1 c2 I11 => turnEnd I11 (nx L2 c1 c2)
  exact PpSet.codeAny_compStart_set loop (T.self X.A 0 _ _ _ st4 loop)
theorem pe_sm {elt tg iter : Expr} {ifs : List Expr} {scope : Scope} {own : List (PySem.Str × Nat)} {pos : Pos} {wi : TI} {g : TG} {tt : TT} {te : TE} (hu : X.A.units + 64 < cLine) (hc : X.calm = true) (hN : X.N.Nodup) (hi : PI X tg iter wi) (ok : BlkOk X.N X.env.scope scope own)
    (hg : ∀ s H C cl fp, PG (X.blk s H scope (compEnvC scope cl C X.env) fp) tg g) (ht : ∀ s H C cl fp, PTs (X.blk s H scope (compEnvC scope cl C X.env) fp) ifs tt)
    (he : ∀ s H C cl fp, PE (X.blk s H scope (compEnvC scope cl C X.env) fp) elt te) (hs : ∀ x, foldedSetIterable iter X.env x = pure x := by intro _; rfl) :
    PE X (.SetComp elt [⟨tg, iter, ifs, 0⟩] scope pos) (tSm X.prog X.w wi g tt te (own.map (·.2))) := by
  refine ⟨fun pins s σ H Q I h => ?_⟩
  rw [PpSet.eval_SetComp]
  refine sm_run hu hc hN I hi ok hg ht he hs h fun D C s' m H' I' q hn f => ⟨m, hn, fun h'' sb => ?_⟩
  obtain ⟨f0, f1, f2, f3, f4, f5⟩ := f
  exact ⟨.ref D, H', I'.turned (t' := s'.toks) (fun b o hb e => (sb.2 b hb).trans e) f0 f1 f3 f4 f5, rfl, q⟩
end
end Sx

set_option linter.all false
set_option maxRecDepth 100000
set_option maxHeartbeats 2000000
/-! the order of tuples of ints and texts; sorted lists of them -/
namespace Sx
open PySem PySem.Spec PyProof.Rows L2

/-! ### linear orders -/
structure Lin {α : Type} (lt : α → α → Bool) : Prop where
  irr : ∀ x, lt x x = false
  tr : ∀ x y z, lt x y = true → lt y z = true → lt x z = true
  tot : ∀ x y, x ≠ y → lt x y = true ∨ lt y x = true
section
variable {α β : Type} {lt : α → α → Bool}
theorem Lin.asym (O : Lin lt) {x y : α} (h : lt x y = true) : lt y x = false := by
  rcases e : lt y x with _ | _
  · rfl
  · have z := O.tr x y x h e
    rw [O.irr] at z
    cases z
theorem Lin.anti (O : Lin lt) {x y : α} (h1 : lt x y = false) (h2 : lt y x = false) : x = y := Classical.byContradiction fun ne => by
  rcases O.tot x y ne with z | z
  · rw [h1] at z; cases z
  · rw [h2] at z; cases z
theorem Lin.le_tr (O : Lin lt) {x y z : α} (h1 : lt y x = false) (h2 : lt z y = false) : lt z x = false := by
  rcases e : lt z x with _ | _
  · rfl
  · by_cases c : x = y
    · subst c; rw [e] at h2; cases h2
    · rcases O.tot x y c with q | q
      · have r := O.tr z x y e q
        rw [h2] at r; cases r
      · rw [h1] at q; cases q
theorem Lin.swo (O : Lin lt) (f : β → α) : SrtO.Swo fun x y => lt (f x) (f y) := ⟨fun _ _ h => O.asym h, fun _ _ _ h1 h2 => O.le_tr h1 h2⟩
/-- a rising list is known by its members -/
theorem Lin.uniq (O : Lin lt) : ∀ {l m : List α}, l.Pairwise (fun x y => lt y x = false) → m.Pairwise (fun x y => lt y x = false) → l.Perm m → l = m
  | [], m, _, _, p => (List.Perm.eq_nil p.symm).symm
  | x :: l, [], _, _, p => by cases List.Perm.eq_nil p
  | x :: l, y :: m, hl, hm, p => by
    have h1 := List.pairwise_cons.mp hl
    have h2 := List.pairwise_cons.mp hm
    have a : lt y x = false := by
      rcases List.mem_cons.mp (p.mem_iff.mpr List.mem_cons_self) with e | z
      · rw [e]; exact O.irr _
      · exact h1.1 y z
    have b : lt x y = false := by
      rcases List.mem_cons.mp (p.mem_iff.mp List.mem_cons_self) with e | z
      · rw [e]; exact O.irr _
      · exact h2.1 x z
    have e := O.anti b a
    subst e
    rw [O.uniq h1.2 h2.2 p.cons_inv]
variable [DecidableEq α]
/-- item by item, a beginning ahead of what goes on -/
def lexL (lt : α → α → Bool) : List α → List α → Bool
  | [], [] => false
  | [], _ :: _ => true
  | _ :: _, [] => false
  | a :: as, b :: bs => if a = b then lexL lt as bs else lt a b
theorem Lin.lex (O : Lin lt) : Lin (lexL lt) where
  irr := fun l => by
    induction l with
    | nil => rfl
    | cons a l ih => rw [lexL, if_pos rfl]; exact ih
  tr := fun l => by
    induction l with
    | nil =>
      intro m n h1 h2
      cases n with
      | nil => cases m <;> cases h2
      | cons => rfl
    | cons a l ih =>
      intro m n h1 h2
      cases m with
      | nil => cases h1
      | cons b m =>
        cases n with
        | nil => cases h2
        | cons c n =>
          rw [lexL] at h1 h2 ⊢
          by_cases ab : a = b
          · subst ab
            rw [if_pos rfl] at h1
            by_cases ac : a = c
            · rw [if_pos ac] at h2 ⊢
              exact ih m n h1 h2
            · rw [if_neg ac] at h2 ⊢
              exact h2
          · rw [if_neg ab] at h1
            by_cases bc : b = c
            · subst bc
              rw [if_neg ab]
              exact h1
            · rw [if_neg bc] at h2
              have ac := O.tr a b c h1 h2
              by_cases e : a = c
              · subst e; rw [O.irr] at ac; cases ac
              · rw [if_neg e]; exact ac
  tot := fun l => by
    induction l with
    | nil =>
      intro m ne
      cases m with
      | nil => exact absurd rfl ne
      | cons => exact .inl rfl
    | cons a l ih =>
      intro m ne
      cases m with
      | nil => exact .inr rfl
      | cons b m =>
        rw [lexL, lexL]
        by_cases ab : a = b
        · subst ab
          rw [if_pos rfl, if_pos rfl]
          exact ih m fun e => ne (by rw [e])
        · rw [if_neg ab, if_neg fun e => ab e.symm]
          exact O.tot a b ab
end
/-- ints ahead of texts -/
def ltKey : Key → Key → Bool
  | .inl a, .inl b => decide (a < b)
  | .inr x, .inr y => decide (x.cps.toList < y.cps.toList)
  | .inl _, .inr _ => true
  | .inr _, .inl _ => false
def ltText (x y : PySem.Str) : Bool := decide (x.cps.toList < y.cps.toList)
theorem lin_text : Lin ltText where
  irr := fun x => decide_eq_false (List.lt_irrefl _)
  tr := fun x y z h1 h2 => decide_eq_true (List.lt_trans (of_decide_eq_true h1) (of_decide_eq_true h2))
  tot := fun x y ne => by
    by_cases c : x.cps.toList < y.cps.toList
    · exact .inl (decide_eq_true c)
    · refine .inr (decide_eq_true (Classical.byContradiction fun d => ne ?_))
      have e := List.le_antisymm (List.not_lt.mp d) (List.not_lt.mp c)
      cases x
      cases y
      exact congrArg _ (Array.toList_inj.mp e)
theorem lin_key : Lin ltKey where
  irr := fun k => by
    cases k with
    | inl a => exact decide_eq_false (Int.lt_irrefl a)
    | inr x => exact lin_text.irr x
  tr := fun k l m h1 h2 => by
    cases k with
    | inl a =>
      cases m with
      | inr => rfl
      | inl c =>
        cases l with
        | inr => cases h2
        | inl b => exact decide_eq_true (Int.lt_trans (of_decide_eq_true h1) (of_decide_eq_true h2))
    | inr x =>
      cases l with
      | inl => cases h1
      | inr y =>
        cases m with
        | inl => cases h2
        | inr z => exact lin_text.tr x y z h1 h2
  tot := fun k l ne => by
    cases k with
    | inl a =>
      cases l with
      | inr => exact .inl rfl
      | inl b =>
        rcases Int.lt_trichotomy a b with c | c | c
        · exact .inl (decide_eq_true c)
        · exact absurd (by rw [c]) ne
        · exact .inr (decide_eq_true c)
    | inr x =>
      cases l with
      | inl => exact .inr rfl
      | inr y => exact lin_text.tot x y fun e => ne (by rw [e])
abbrev ltT : List Key → List Key → Bool := lexL ltKey
theorem lin_tup : Lin ltT := lin_key.lex
/-- a key list's shape: where ints stand -/
def shp (k : List Key) : List Bool := k.map Sum.isLeft

/-! ### the model's comparison -/
section
variable {P : Program} {w : World} {A : Around} {E : Value → Shared → Prop} {s : Shared}
theorem kat_items {b : Bool} : ∀ {ks ls : List Key} {us vs : List Value} {i : Nat}, ItemsAre (mixKind P w) ks us → ItemsAre (mixKind P w) ls vs → shp ks = shp ls → (b && i == 0) = true ∨ (b && i == 0) = false →
    PySem.W.KatLex P w A b false (fun r s' => s' = s ∧ r = ltT ks ls) (us.zip vs) i s := by
  intro ks
  induction ks with
  | nil =>
    intro ls us vs i h1 h2 e _
    cases h1
    cases ls with
    | nil => cases h2; exact PySem.W.kat_nil ⟨rfl, rfl⟩
    | cons => cases e
  | cons k ks ih =>
    intro ls us vs i h1 h2 e _
    cases ls with
    | nil => cases e
    | cons l ls =>
      cases h1 with
      | @cons _ u _ us k1 t1 =>
        cases h2 with
        | @cons _ v _ vs k2 t2 =>
          have e' : Sum.isLeft k :: shp ks = Sum.isLeft l :: shp ls := e
          injection e' with e1 e2
          refine PySem.W.kat_cons ((mixKind P w).eqBool k1 k2 ?_)
          refine PySem.W.kat_go (fun c => ?_) fun c => ?_
          · have kl : k = l := of_decide_eq_true c
            subst kl
            refine PySem.W.kat_yes ?_
            have q := ih (i := i + 1) t1 t2 e2 (by cases (b && i + 1 == 0) <;> simp)
            have z : ltT (k :: ks) (k :: ls) = ltT ks ls := if_pos rfl
            rw [z]
            exact q
          · have kl : ¬ k = l := of_decide_eq_false c
            have z : ltT (k :: ks) (l :: ls) = ltKey k l := if_neg kl
            rw [z]
            refine PySem.W.kat_no ?_
            rcases keyIs_shape k1 with ⟨i1, t, rfl, rfl⟩ | ⟨x, t, rfl, rfl⟩
            · rcases keyIs_shape k2 with ⟨i2, t', rfl, rfl⟩ | ⟨y, t', rfl, rfl⟩
              · cases (b && i == 0)
                · exact PySem.W.kat_one _ _ (PyProof.Rows.lt_int (show _ = _ ∧ _ = _ from ⟨rfl, rfl⟩))
                · exact oneLt_int ⟨rfl, rfl⟩
              · cases e1
            · rcases keyIs_shape k2 with ⟨i2, t', rfl, rfl⟩ | ⟨y, t', rfl, rfl⟩
              · cases e1
              · cases (b && i == 0)
                · exact PySem.W.kat_one _ _ (PySem.P.lt_str (show _ = _ ∧ _ = _ from ⟨rfl, rfl⟩))
                · exact oneLt_str ⟨rfl, rfl⟩
open Classical in
/-- the key that stands at v -/
noncomputable def keyAt (P : Program) (w : World) (h : Heap) (v : Value) : List Key := if c : ∃ k a, v = .ref a ∧ MixT P w h k a then c.choose else []
theorem keyAt_of {h : Heap} {k : List Key} {a : Addr} (hk : MixT P w h k a) : keyAt P w h (.ref a) = k := by
  unfold keyAt
  have c : ∃ k' b, Value.ref a = .ref b ∧ MixT P w h k' b := ⟨k, a, rfl, hk⟩
  rw [dif_pos c]
  obtain ⟨b, e, q⟩ := c.choose_spec
  cases e
  exact q.inj hk
/-- v is a tuple of this shape -/
def TupV (P : Program) (w : World) (h : Heap) (sh : List Bool) (v : Value) : Prop := ∃ k a, v = .ref a ∧ MixT P w h k a ∧ shp k = sh
theorem mix_cls {h h' : Heap} {a : Addr} {k : List Key} {L : Addr} (keep : ∀ b o, b ≠ L → h.get? b = some o → h'.get? b = some o) (lst : ∀ o, h.get? L = some o → o.cls ≠ .type "tuple") (hk : MixT P w h k a) : MixT P w h' k a := by
  obtain ⟨o, items, n, ho, hc, hd, hi⟩ := hk
  exact ⟨o, items, n, keep a o (fun e => lst o (by rw [← e]; exact ho) hc) ho, hc, hd, hi⟩
theorem tup_cmp {sh : List Bool} {b : Bool} {h0 : Heap} {vs : List Value} (h : ∀ v ∈ vs, ∃ k a, v = .ref a ∧ MixT P w h0 k a ∧ MixT P w s.heap k a ∧ shp k = sh) :
    SrtO.Cmp P w A s (tuples' b) (fun p => p.1 ∈ vs) (SrtO.lt2 fun v u => ltT (keyAt P w h0 v) (keyAt P w h0 u)) := by
  intro p q hp hq
  obtain ⟨k, x, ex, k0, kx, kS⟩ := h _ hp
  obtain ⟨l, y, ey, l0, ly, lS⟩ := h _ hq
  show wpAny (model P w) A (keyLt' (tuples' b) p.1 q.1) (fun r s' => s' = s ∧ r = ltT (keyAt P w h0 p.1) (keyAt P w h0 q.1)) (fun _ _ => False) s
  rw [ex, ey, keyAt_of k0, keyAt_of l0]
  obtain ⟨o, xs, n, ho, hc, hd, hi⟩ := kx
  obtain ⟨o', ys, n', ho', hc', hd', hi'⟩ := ly
  refine PySem.W.kat_lt ho hd ho' hd' ?_
  have len : k.length = l.length := by
    have z := congrArg List.length (kS.trans lS.symm)
    unfold shp at z
    rwa [List.length_map, List.length_map] at z
  have fin : decide (xs.size < ys.size) = false := by
    have z1 : k.length = xs.size := by rw [hi.length]; simp
    have z2 : l.length = ys.size := by rw [hi'.length]; simp
    exact decide_eq_false (by omega)
  rw [fin]
  exact kat_items hi hi' (kS.trans lS.symm) (by cases (b && 0 == 0) <;> simp)
theorem kat_heads {sh : List Bool} {c : Bool} {h : Heap} : ∀ vs : List Value, (∀ v ∈ vs, TupV P w h (c :: sh) v) → ∃ fs : List Value, PySem.W.KatTups h vs fs ∧ fs.length = vs.length ∧ ∀ f ∈ fs, (c = true ∧ ∃ i t, f = Value.int i t) ∨ (c = false ∧ ∃ x t, f = Value.str x t)
  | [], _ => ⟨[], PySem.W.KatTups.nil, rfl, fun _ m => absurd m List.not_mem_nil⟩
  | v :: vs, hv => by
    obtain ⟨fs, a1, a2, a3⟩ := kat_heads vs fun u m => hv u (List.mem_cons_of_mem _ m)
    obtain ⟨k, a, rfl, ⟨o, items, n, ho, hc, hd, hi⟩, e⟩ := hv _ List.mem_cons_self
    cases k with
    | nil => cases e
    | cons k ks =>
      have e' : Sum.isLeft k :: shp ks = c :: sh := e
      injection e' with e1 _
      generalize il : items.toList = il at hi
      cases hi with
      | @cons _ f _ us k1 t1 =>
        have h0 : items[0]? = some f := by rw [← Array.getElem?_toList, il] <;> rfl
        refine ⟨f :: fs, PySem.W.KatTups.cons ho hc hd h0 a1, by rw [List.length_cons, List.length_cons, a2], fun g m => ?_⟩
        rcases List.mem_cons.mp m with rfl | m
        · rcases keyIs_shape k1 with ⟨i, t, rfl, ef⟩ | ⟨x, t, rfl, ef⟩
          · exact .inl ⟨e1.symm, i, t, ef⟩
          · exact .inr ⟨e1.symm, x, t, ef⟩
        · exact a3 g m
theorem tups_sortable {sh : List Bool} {c : Bool} {a : Addr} {vs : List Value} (pos : 0 < vs.length) (hv : ∀ v ∈ vs, TupV P w s.heap (c :: sh) v) (ha : ∀ o, s.heap.get? a = some o → o.cls ≠ .type "tuple") :
    SrtO.SortableO P w A s a vs fun v u => ltT (keyAt P w s.heap v) (keyAt P w s.heap u) := by
  intro h' keep
  have hv' : ∀ v ∈ vs, TupV P w h' (c :: sh) v := fun v m => by
    obtain ⟨k, x, e, hk, es⟩ := hv v m
    exact ⟨k, x, e, mix_cls keep ha hk, es⟩
  obtain ⟨fs, f1, f2, f3⟩ := kat_heads vs hv'
  refine ⟨tuples' true, fun Q E hq => ?_, tup_cmp (sh := c :: sh) fun v m => ?_⟩
  · cases c with
    | true =>
      refine PySem.W.kat_kind (T := .type "int") f1 (by omega) (fun f m => ?_) (by rfl) ?_
      · rcases f3 f m with ⟨_, i, t, rfl⟩ | ⟨z, _⟩
        · exact PySem.W.Looks.now
        · cases z
      · rw [show (Value.type "int" != Value.type "tuple") = true from by decide +kernel]
        exact hq
    | false =>
      refine PySem.W.kat_kind (T := .type "str") f1 (by omega) (fun f m => ?_) (by rfl) ?_
      · rcases f3 f m with ⟨z, _⟩ | ⟨_, x, t, rfl⟩
        · cases z
        · exact PySem.W.Looks.now
      · rw [show (Value.type "str" != Value.type "tuple") = true from by decide +kernel]
        exact hq
  · obtain ⟨k, x, e, hk, es⟩ := hv v m
    exact ⟨k, x, e, hk, mix_cls keep ha hk, es⟩
end
end Sx

set_option linter.all false
set_option maxRecDepth 100000
set_option maxHeartbeats 2000000
/-! sorted of a list of tuples, of a set of tuples -/
namespace Sx
open PySem PySem.Spec PyProof.Rows L2
abbrev refsOf (R : Rows) : List V := R.map fun p => V.ref p.1
abbrev valsOf (R : Rows) : List Value := R.map fun p => Value.ref p.1
theorem vals_refs : ∀ R : Rows, Vals (refsOf R) (valsOf R)
  | [] => .nil
  | _ :: R => .cons rfl (vals_refs R)
theorem refs_vals : ∀ {R : Rows} {us : List Value}, Vals (refsOf R) us → us = valsOf R
  | [], _, .nil => rfl
  | _ :: R, _, .cons r t => by
    cases r
    rw [refs_vals t] <;> rfl
/-- rows picked by their values -/
theorem rows_back {R : Rows} {us : List Value} (h : ∀ u ∈ us, u ∈ valsOf R) : ∃ R2, us = valsOf R2 ∧ ∀ p ∈ R2, p ∈ R := by
  induction us with
  | nil => exact ⟨[], rfl, fun p m => absurd m List.not_mem_nil⟩
  | cons u us ih =>
    obtain ⟨R2, e, sub⟩ := ih fun v m => h v (List.mem_cons_of_mem _ m)
    obtain ⟨p, m, rfl⟩ := List.mem_map.mp (h u List.mem_cons_self)
    refine ⟨p :: R2, by show _ = Value.ref p.1 :: valsOf R2; rw [e], fun q hq => ?_⟩
    rcases List.mem_cons.mp hq with rfl | hq
    · exact m
    · exact sub q hq
/-- the same addresses in another order are the same rows -/
theorem rows_perm {R R2 : Rows} (inj : ∀ p ∈ R, ∀ q ∈ R, p.1 = q.1 → p = q) (sub : ∀ p ∈ R2, p ∈ R) (pm : (valsOf R2).Perm (valsOf R)) : R2.Perm R := by
  have z := pm
  clear pm
  induction R2 generalizing R with
  | nil =>
    have e : valsOf R = [] := List.Perm.eq_nil z.symm
    rw [List.map_eq_nil_iff.mp e]
  | cons p R2 ih =>
    obtain ⟨S, T, eR⟩ := List.append_of_mem (sub p List.mem_cons_self)
    have pe : R.Perm (p :: (S ++ T)) := by rw [eR]; exact List.perm_middle
    have old : ∀ r ∈ S ++ T, r ∈ R := fun r m => pe.mem_iff.mpr (List.mem_cons_of_mem _ m)
    have z2 : (valsOf R2).Perm (valsOf (S ++ T)) := (z.trans (pe.map fun p => Value.ref p.1)).cons_inv
    refine List.Perm.trans (List.Perm.cons p (ih (fun a ha b hb e => inj a (old a ha) b (old b hb) e) (fun q hq => ?_) z2)) pe.symm
    have hr : Value.ref q.1 ∈ valsOf (S ++ T) := z2.mem_iff.mp (List.mem_map.mpr ⟨q, hq, rfl⟩)
    obtain ⟨r, hr, e⟩ := List.mem_map.mp hr
    injection e with e
    rw [inj q (sub q (List.mem_cons_of_mem _ hq)) r (old r hr) e.symm]
    exact hr
theorem rising {P : Program} {w : World} {h : Heap} {R : Rows} (ht : ∀ p ∈ R, MixT P w h p.2 p.1) (hs : SrtO.Srtd (fun v u => ltT (keyAt P w h v) (keyAt P w h u)) (valsOf R)) : R.Pairwise fun x y => ltT y.2 x.2 = false := by
  refine List.Pairwise.imp_of_mem (fun {x y} hx hy z => ?_) (List.pairwise_map.mp hs)
  have z : ltT (keyAt P w h (.ref y.1)) (keyAt P w h (.ref x.1)) = false := z
  rw [keyAt_of (ht x hx), keyAt_of (ht y hy)] at z
  exact z
section
variable {X : Cx}
/-- sorted(xs), xs a list of tuples of one shape: a new list of the same, rising -/
def rSortM (K : PySem.W.Frag) : List V → Hp → VK → Prop := fun vs H Q => ∃ (a : Addr) (R : Rows) (c : Bool) (sh : List Bool), vs = [V.ref a] ∧ SqL K H a (refsOf R) ∧ TupsIn H R ∧ (∀ p ∈ R, shp p.2 = c :: sh) ∧
  ∀ (R2 : Rows) (p : Addr), R2.Perm R → R2.Pairwise (fun x y => ltT y.2 x.2 = false) → H p = none → Q (.ref p) (upd H p (.lst (refsOf R2)))
theorem tups_inj {H : Hp} {R : Rows} (ht : TupsIn H R) : ∀ p ∈ R, ∀ q ∈ R, p.1 = q.1 → p = q := fun p hp q hq e => by
  have a := ht p hp
  have b := ht q hq
  rw [e, b] at a
  injection a with a
  injection a with a
  have inj : ∀ k l : List Key, k.map kV = l.map kV → k = l := by
    intro k
    induction k with
    | nil => intro l e; cases l <;> first | rfl | cases e
    | cons k ks ih =>
      intro l e
      cases l with
      | nil => cases e
      | cons l ls =>
        injection e with e1 e2
        rw [ih ls e2]
        cases k <;> cases l <;> first | (injection e1 with e1; rw [e1]) | cases e1
  exact Prod.ext e (inj _ _ a.symm)
theorem cr_sortM : CallR X (.builtin "sorted") (rSortM X.K) := by
  intro pins s σ H vs us Q I r h
  obtain ⟨a, R, c, sh, rfl, hs, ht, hsh, q⟩ := h
  obtain ⟨its, rv, hl, hz⟩ := I.list hs
  rw [Vals.ref1 r]
  have ei := refs_vals rv
  subst ei
  have raw := tups_raw I ht
  have szR : (valsOf R).length ≤ sizeLine := by rw [← rv.length]; exact hz
  have ord := SrtO.sorted_ord (prog := X.prog) (w := X.w) (A := X.A) (E := X.xe) (s := s) (l := a) (vs := valsOf R) (ltv := fun v u => ltT (keyAt X.prog X.w s.heap v) (keyAt X.prog X.w s.heap u))
    (Q := EP X pins σ Q) (lin_tup.swo _) hl.isList szR
  refine ord (fun h2 h₁ a' ha' kk => ?_) fun out h1 h2 => ?_
  · have hv : ∀ v ∈ valsOf R, TupV X.prog X.w h₁ (c :: sh) v ∧ keyAt X.prog X.w h₁ v = keyAt X.prog X.w s.heap v := fun v m => by
      obtain ⟨p, mp, rfl⟩ := List.mem_map.mp m
      obtain ⟨o, items, n, ho, rest⟩ := raw p mp
      have z : MixT X.prog X.w h₁ p.2 p.1 := ⟨o, items, n, (kk _ o ho).2, rest⟩
      exact ⟨⟨p.2, p.1, rfl, z, hsh p mp⟩, by rw [keyAt_of z, keyAt_of (raw p mp)]⟩
    intro h' keep
    obtain ⟨κ, k1, k2⟩ := tups_sortable (P := X.prog) (w := X.w) (A := X.A.in1.in1) (s := { s with heap := h₁ }) (a := a') (vs := valsOf R) (sh := sh) (c := c) (by omega) (fun v m => (hv v m).1) (fun o e z => by
      rw [ha'] at e
      cases e
      exact absurd (Value.type.inj z) (by decide)) h' keep
    refine ⟨κ, k1, fun p q hp hq => ?_⟩
    have y := k2 p q hp hq
    refine wpAny_mono y (fun r s' ⟨e1, e2⟩ => ⟨e1, ?_⟩) fun _ _ f => f
    rw [e2]
    show ltT (keyAt X.prog X.w h₁ p.1) (keyAt X.prog X.w h₁ q.1) = ltT (keyAt X.prog X.w s.heap p.1) (keyAt X.prog X.w s.heap q.1)
    rw [(hv _ hp).2, (hv _ hq).2]
  · obtain ⟨ep, he'⟩ := PyProof.Rows.sortedAll_at s.heap (valsOf R) out.toArray
    obtain ⟨R2, rfl, sub⟩ := rows_back fun u m => h2.perm.mem_iff.mp m
    have pm := rows_perm (tups_inj ht) sub h2.perm
    have hlen : (refsOf R2).length ≤ sizeLine := by
      rw [List.length_map, pm.length_eq]
      rw [List.length_map] at szR
      exact szR
    exact ⟨.ref _, upd H (s.heap.objs.size + 1) (.lst (refsOf R2)), I.laid (t' := s.toks) (fun _ _ => PyProof.Rows.sortedAll_old) (Nat.le_succ _) ⟨hlen, valsOf R2, ep, vals_refs R2, he'⟩, rfl,
      q R2 _ pm (rising (fun p m => raw p (sub p m)) h1) (I.hok.fresh (Nat.le_succ _))⟩
end
end Sx

set_option linter.all false
set_option maxRecDepth 100000
set_option maxHeartbeats 2000000
/-! sorted of a set of tuples -/
namespace Sx
open PySem PySem.Spec PyProof.Rows L2
section
variable {P : Program} {w : World} {A : Around} {E : Value → Shared → Prop} {s : Shared}
theorem sorted_mset {a : Addr} {L : Rows} {es : Array (Int × Value)} {ep : Nat} {t : SetTable} {Q : Value → Shared → Prop} (R : MSet P w s.heap a L es ep t) (hh : A.handled = none) {c : Bool} {sh : List Bool} (hs : ∀ p ∈ L, shp p.2 = c :: sh)
    (hQ : ∀ s' p (L2 : Rows) (n : Nat), (∀ b o, s.heap.get? b = some o → s'.heap.get? b = some o) → s'.gens = s.gens → s'.os = s.os → s.heap.objs.size ≤ p →
      s'.heap.get? p = some (seqObj "list" (valsOf L2).toArray n) → L2.Perm L → L2.Pairwise (fun x y => ltT y.2 x.2 = false) → Q (.ref p) s') :
    wpAny (model P w) A (call (.builtin "sorted") [.ref a]) Q E s := by
  obtain ⟨o, ho, hex, hd⟩ := R.ob
  have n1 := cells_size R.rows
  have few := R.few
  refine Calls.call_function_entry kind_sorted plain_sorted entry_sorted (args_sorted1 _) ?_
  unfold Builtin.«sorted»
  refine wpAny_bind (m := checkCount "sorted" 1 1 _) (wpAny_pure ?_)
  refine wpAny_bind (collect_set (A := A.in1) hh ⟨o, ho, hex.1, hd⟩ R.fits (by unfold scanBound; omega) R.tab.up R.led fun s1 vs k1 hz g1 o1 pm => ?_)
  have esV : es.toList.map (·.2) = valsOf L := by
    rw [R.rows]
    unfold cells
    rw [List.map_map] <;> rfl
  rw [esV] at pm
  have inj : ∀ p ∈ L, ∀ q ∈ L, p.1 = q.1 → p = q := fun p hp q hq e => by
    have x := R.tup p hp
    rw [e] at x
    exact Prod.ext e (x.inj (R.tup q hq))
  have lv : vs.length = L.length := by rw [pm.length_eq, List.length_map]
  refine wpAny_bind (wpAny_newList ?_ (by rw [sizeLine_eq]; omega))
  have hoL : (s1.heap.push (seqObj "list" vs.toArray 0)).get? s1.heap.objs.size = some (seqObj "list" vs.toArray 0) := Heap.get?_push_size _ rfl
  have raw : ∀ p ∈ L, MixT P w (s1.heap.push (seqObj "list" vs.toArray 0)) p.2 p.1 := fun p m => by
    obtain ⟨ob, items, n, hob, rest⟩ := R.tup p m
    exact ⟨ob, items, n, Heap.get?_push_of_some _ (k1 _ _ hob), rest⟩
  have shape : ∀ v ∈ vs, TupV P w (s1.heap.push (seqObj "list" vs.toArray 0)) (c :: sh) v := fun v m => by
    obtain ⟨p, mp, rfl⟩ := List.mem_map.mp (pm.mem_iff.mp m)
    exact ⟨p.2, p.1, rfl, raw p mp, hs p mp⟩
  refine wpAny_bind (wpAny_holding (wpAny_call_entry PyProof.Rows.slot_list_sort ⟨_, hoL, rfl⟩ PyProof.Rows.entry_list_sort
    (SrtO.list_sort_ord (s := { s1 with heap := s1.heap.push (seqObj "list" vs.toArray 0) }) (ltv := fun v u => ltT (keyAt P w (s1.heap.push (seqObj "list" vs.toArray 0)) v) (keyAt P w (s1.heap.push (seqObj "list" vs.toArray 0)) u)) (lin_tup.swo _) hoL (by rw [sizeLine_eq]; omega)
      (fun h2 => tups_sortable (s := { s1 with heap := s1.heap.push (seqObj "list" vs.toArray 0) }) (by omega) shape fun ob e z => ?_) fun out h1 h2 => ⟨_, rfl, ?_⟩) (PyProof.Rows.args_list_sort _)))
  · have e2 : some ob = some (seqObj "list" vs.toArray 0) := (show (s1.heap.push (seqObj "list" vs.toArray 0)).get? s1.heap.objs.size = some ob from e).symm.trans hoL
    cases e2
    exact absurd (Value.type.inj z) (by decide)
  · obtain ⟨n, hn⟩ := PyProof.Rows.sortedHeap_at (vs := vs) (out := out.toArray) hoL
    obtain ⟨L2, rfl, sub⟩ := rows_back (R := L) fun u m => pm.mem_iff.mp (h2.perm.mem_iff.mp m)
    refine wpAny_pure ⟨_, rfl, hQ _ s1.heap.objs.size L2 n (fun b u e => ?_) g1 o1 hz hn (rows_perm inj sub (h2.perm.trans pm)) (rising (fun p m => raw p (sub p m)) h1)⟩
    have lt := Heap.lt_size (k1 b u e)
    show (sortedHeap (s1.heap.push (seqObj "list" vs.toArray 0)) s1.heap.objs.size vs _).get? b = some u
    rw [sortedHeap_old (Nat.ne_of_lt lt) (by rw [size_push']; exact Nat.lt_succ_of_lt lt)]
    exact Heap.get?_push_of_some _ (k1 b u e)
end
section
variable {X : Cx}
/-- sorted(S), S a set of tuples of one shape: a new list of its tuples, rising -/
def rSortMS (P : Program) (w : World) : List V → Hp → VK → Prop := fun vs H Q => ∃ (a : Addr) (L : Rows) (c : Bool) (sh : List Bool), vs = [V.ref a] ∧ H a = some (MSetO P w a L) ∧ TupsIn H L ∧ (∀ p ∈ L, shp p.2 = c :: sh) ∧
  ∀ (L2 : Rows) (p : Addr), L2.Perm L → (L2.map (·.2)).Nodup → L2.Pairwise (fun x y => ltT y.2 x.2 = false) → H p = none → Q (.ref p) (upd H p (.lst (refsOf L2)))
theorem cr_sortMS (hc : X.calm = true) : CallR X (.builtin "sorted") (rSortMS X.prog X.w) := by
  intro pins s σ H vs us Q I r h
  obtain ⟨a, L, c, sh, rfl, ha, ht, hs, q⟩ := h
  obtain ⟨es, ep, t, R⟩ := mset_get I ha ht
  rw [Vals.ref1 r]
  refine sorted_mset R (I.ok.hd hc) hs fun s' p L2 n k g o hp hg pm up => ?_
  have hn : H p = none := I.hok.fresh hp
  have few := R.few
  have hlen : (refsOf L2).length ≤ sizeLine := by rw [List.length_map, pm.length_eq, sizeLine_eq]; omega
  have J : Inv X pins σ (upd H p (.lst (refsOf L2))) { s with heap := s'.heap, gens := s'.gens, drawn := s'.drawn, toks := s'.toks } :=
    I.call (ch := []) (Un.laid k hp hn) (I.hok.laid k hp ⟨hlen, valsOf L2, n, vals_refs L2, hg⟩) (by rw [g]; exact I.bare) (fun _ z => nomatch z)
  have e : s' = { s with heap := s'.heap, gens := s'.gens, drawn := s'.drawn, toks := s'.toks } := by
    cases s'; cases s; cases o; rfl
  rw [e]
  exact ⟨.ref p, _, J, rfl, q L2 p pm ((pm.map (·.2)).nodup_iff.mpr R.nd) up hn⟩
end
end Sx

set_option linter.all false
set_option maxRecDepth 100000
set_option maxHeartbeats 2000000
/-! dicts with tuple keys: setdefault, the comprehension -/
namespace Sx
open PySem PySem.Spec PyProof.Rows L2
section
variable {X : Cx} {pins : List (Addr × Obj)} {σ : L2.St} {H : Hp} {s : Shared} {a b : Addr} {r : Value} {d : V} {k : List Key} {A : Around} {E : Value → Shared → Prop} {kvs : List (List Key × V)}
theorem dt_stored {h' : Heap} {t' : Nat} {xs : List (List Key × Addr × Value)} (I : Inv X pins σ H s) (e : H a = some (.dT kvs)) (eb : H b = some (.tup (k.map kV))) (fit : kvs.length < sizeLine) (no : (a == sysModules) = false) (rel : KT H kvs xs) (rd : RelV d r)
    (dd : h'.DictOfH (tupleKind (mixKind X.prog X.w)) a (storedH xs k b r)) (sb : Heap.SameBut a s.heap h') : Inv X pins σ (upd H a (.dT (putK kvs k d))) { s with heap := h', toks := t' } := by
  have len := length_putK kvs k d
  obtain ⟨q, es, ep, hq, h2, h3, h4, _, h5⟩ := dd
  refine d_write I (by rw [e]; exact True.intro) sb ⟨q, hq⟩ ⟨by omega, no, _, (rel.put k eb rd).keeps fun c ys ec => ?_, q, es, ep, hq, h2, h3, h4, h5⟩
  rw [upd_ne (ne_of ec e (fun z => nomatch z))]
  exact ec
theorem dt_setd {Q : Value → Shared → Prop} (hu : A.units + 1 < cLine) (I : Inv X pins σ H s) (e : H a = some (.dT kvs)) (eb : H b = some (.tup (k.map kV))) (rd : RelV d r) (fit : kvs.length < sizeLine)
    (h1 : ∀ v, valV kvs k = some v → ∀ w' s', Inv X pins σ H s' → RelV v w' → Q w' s') (h2 : valV kvs k = none → ∀ s', Inv X pins σ (upd H a (.dT (putK kvs k d))) s' → Q r s') :
    wpAny (model X.prog X.w) A (call (.builtin "dict.setdefault") [.ref a, .ref b, r]) Q E s := by
  obtain ⟨z, no, xs, rel, dd⟩ := dt_of I.hok e
  have lx : xs.length ≤ sizeLine := (Paired.length rel) ▸ z
  have v := rel.val k
  refine call_setdefault_heap (knd := tupleKind (mixKind X.prog X.w)) (hsz := lx) (tupleKind_room_in1 hu) (key_of I.hok eb) no dd (fun p hp => ?_) fun hn h' dd' sb => ?_
  · rw [hp] at v
    rcases q : valV kvs k with _ | v0
    · rw [q] at v; exact (show False from v).elim
    · rw [q] at v; exact h1 v0 q _ _ (I.tok _) v
  · rw [hn] at v
    rcases q : valV kvs k with _ | v0
    · exact h2 q _ (dt_stored I e eb fit no rel rd dd' sb)
    · rw [q] at v; exact (show False from v).elim
theorem dt_dictSet {Q : Unit → Shared → Prop} (hu : A.units + 1 < cLine) (I : Inv X pins σ H s) (e : H a = some (.dT kvs)) (eb : H b = some (.tup (k.map kV))) (rd : RelV d r) (fit : kvs.length < sizeLine)
    (h : ∀ s', Inv X pins σ (upd H a (.dT (putK kvs k d))) s' → Q () s') : wpAny (model X.prog X.w) A (dictSet a (.ref b) r) Q E s := by
  obtain ⟨z, no, xs, rel, dd⟩ := dt_of I.hok e
  have lx : xs.length ≤ sizeLine := (Paired.length rel) ▸ z
  exact wpAny_dictSet_heap (knd := tupleKind (mixKind X.prog X.w)) (hsz := lx) (show A.units < cLine by omega) (key_of I.hok eb) dd fun h' dd' sb => h _ (dt_stored I e eb fit no rel rd dd' sb)
end
/-- d.setdefault(k, z), d a dict with tuple keys -/
def tSetdT (td tk tz : TE) : TE := fun σ H Q => td σ H fun x H1 => ∃ a, x = .ref a ∧ IsD H1 a ∧ tk σ H1 fun y H2 => tz σ H2 fun z H3 => ∃ (kvs : List (List Key × V)) (k : List Key) (b : Addr), H3 a = some (.dT kvs) ∧ y = .ref b ∧ H3 b = some (.tup (k.map kV)) ∧ kvs.length < sizeLine ∧
  (∀ v, valV kvs k = some v → Q v H3) ∧ (valV kvs k = none → Q z (upd H3 a (.dT (putK kvs k z))))
section
variable {X : Cx} {o e f : Expr} {td tk tz : TE} {apos cpos : Pos}
theorem pe_setdT (hu : X.A.units + 1 < cLine) (ho : PE X o td) (he : PE X e tk) (hf : PE X f tz) (m : M2 X o "setdefault" apos e f cpos) : PE X (.Call (.Attribute o "setdefault" apos) [e, f] [] cpos) (tSetdT td tk tz) := by
  refine ⟨fun pins s σ H Q I h => ?_⟩
  refine wpAny_Call_method m.base m.few m.line PySem.F.plainAttrs_dict PySem.F.slot_dict_setdefault PySem.F.type_dict_setdefault (thn (ho.run pins s σ H _ I h) fun u s1 ⟨x, H1, I1, rx, a, ex, dd, q1⟩ => ?_)
  subst ex
  cases (show u = Value.ref a from rx)
  have tt := isD_at I1 dd
  refine ⟨tt.1, tt.2.1, ?_⟩
  rw [m.trees]
  refine Calls.callWith_builtin rfl (Calls.evalArgs_plain (Calls.spliced_cons (thn (he.run pins s1 σ H1 _ I1 q1) fun kv s2 ⟨y, H2, I2, ry, q2⟩ =>
    Calls.spliced_cons (thn (hf.run pins s2 σ H2 _ I2 q2) fun fv s3 ⟨z, H3, I3, rz, kvs, k, b, ea, ey, eb, fit, q3, q4⟩ => Calls.spliced_nil ?_))))
  subst ey
  cases (show kv = Value.ref b from ry)
  exact dt_setd hu I3 ea eb rz fit (fun v hv w' s4 I4 r4 => ⟨v, _, I4, r4, q3 v hv⟩) fun hn s4 I4 => ⟨z, _, I4, rz, q4 hn⟩
/-- {k: v for target in iter if ..}, keys tuples -/
def tDt (wi : TI) (g : TG) (tt : TT) (tk tv : TE) (vs : List Nat) : TE := fun σ H Q => wi σ H fun J H1 => ∀ D, H1 D = none → ∃ W : Nat → Nat → Hp → Prop, (∃ m, W 0 m (upd H1 D (.dT []))) ∧ ∀ i m H, W i m H →
  (J.stop i H ∧ Q (.ref D) H) ∨ (J.go i H ∧ ∃ Nx : Hp → Prop, (∀ H', Nx H' → ∃ m', m' < m ∧ W (i + 1) m' H') ∧ ∀ x H', J.yld i H x H' → g x (wipe σ vs) H' fun σ2 H2 => wipe σ2 vs = wipe σ vs ∧ tt σ2 H2 fun b H3 =>
    if b = true then tk σ2 H3 fun y H4 => tv σ2 H4 fun z H5 => ∃ (kvs : List (List Key × V)) (k : List Key) (p : Addr), y = .ref p ∧ H5 p = some (.tup (k.map kV)) ∧ H5 D = some (.dT kvs) ∧ kvs.length < sizeLine ∧ Nx (upd H5 D (.dT (putK kvs k z))) else Nx H3)
theorem dt_run {pins : List (Addr × Obj)} {s : Shared} {σ : L2.St} {H : Hp} {Q : VK} {kx vx tg iter : Expr} {ifs : List Expr} {scope : Scope} {own : List (PySem.Str × Nat)} {pos at_ : Pos} {wi : TI} {g : TG} {tt : TT} {tk tv : TE} {use : Option (Value → Sem Unit)} {Qf : Value → Shared → Prop}
    (hu : X.A.units + 64 < cLine) (hc : X.calm = true) (hN : X.N.Nodup) (I : Inv X pins σ H s) (hi : PI X tg iter wi) (ok : BlkOk X.N X.env.scope scope own)
    (hg : ∀ s H C cl fp, PG (X.blk s H scope (compEnvC scope cl C X.env) fp) tg g) (ht : ∀ s H C cl fp, PTs (X.blk s H scope (compEnvC scope cl C X.env) fp) ifs tt)
    (hk : ∀ s H C cl fp, PE (X.blk s H scope (compEnvC scope cl C X.env) fp) kx tk) (he : ∀ s H C cl fp, PE (X.blk s H scope (compEnvC scope cl C X.env) fp) vx tv) (hs : ∀ x, foldedSetIterable iter X.env x = pure x)
    (h : tDt wi g tt tk tv (own.map (·.2)) σ H Q)
    (hR : ∀ D C s' m H', Inv X pins σ H' s' → Q (.ref D) H' → s'.heap.Ns C m → FpOk X pins H' C → compPost (model X.prog X.w) X.A X.xe use Qf (.ref D) C (.ok .next) s') :
    wpAny (model X.prog X.w) X.A (comprehension (.DictComp kx vx [⟨tg, iter, ifs, 0⟩] scope pos) scope X.env at_ newDict false (eval iter X.env) use) Qf X.xe s := by
  have frees : ∀ y ∈ scope.names, y.2 = .free → ∃ c, X.env.cells.lookup y.1 = some c := fun y m e => (ok.free y m e).elim (fun k => I.ok.has _ (.inl k)) fun k => I.ok.has _ (.inr k)
  refine wpAny_comprehension_free (use := use) rfl hs (closure_ok frees) ok.kind (fun y m e => by rw [ok.uniq y m, e])
    (thn (hi.run pins s σ H _ I h) fun xv s1 hx => thn hx fun itv s2 h2 => ?_)
  obtain ⟨it, fp, tn, J, H2, rfl, I2, T, st2, f2, q⟩ := h2
  refine wpAny_newObj_type (newEnv_comp ?_)
  generalize eD : s2.heap.objs.size = D
  obtain ⟨W, ⟨m0, w0⟩, turn⟩ := q D (I2.hok.fresh (Nat.le_of_eq eD))
  generalize e3 : ({ s2 with heap := s2.heap.push { cls := .type "dict", data := .dict #[] } } : Shared) = s3
  have p3 : s3.heap = s2.heap.push { cls := .type "dict", data := .dict #[] } := by rw [← e3]
  have I3 : Inv X pins σ (upd H2 D (.dT [])) s3 := by
    rw [← e3]
    refine I2.laid (t' := s2.toks) (fun b o e => Heap.get?_push_of_some _ e) (Nat.le_of_eq eD) ?_
    rw [← eD]
    exact dt_empty s2.heap I2.big
  have inOld : ∀ b ∈ fp, b < s2.heap.objs.size := fun b m => by
    obtain ⟨o, e, _⟩ := T.obj _ _ st2 b m
    exact Heap.lt_size e
  have f3 : ∀ b ∈ fp, FpOk X pins (upd H2 D (.dT [])) b ∧ b < s3.heap.objs.size := fun b m => by
    have lt := inOld b m
    refine ⟨⟨?_, (f2 b m).2⟩, by rw [p3, Heap.size_push]; exact Nat.lt_succ_of_lt lt⟩
    rw [upd_ne (Nat.ne_of_lt (eD ▸ lt))]
    exact (f2 b m).1
  have st3 : tn 0 s3.heap := T.keep _ _ _ st2 fun b _ o e => by rw [p3]; exact Heap.get?_push_of_some _ e
  have I4 := block_start I3 ok hN f3
  have pg := hg s3 (upd H2 D (.dT [])) s3.heap.objs.size (cellsFrom (s3.heap.objs.size + 1) scope.names (cloFrom X.env.cells scope.names [])) fp
  have pt := ht s3 (upd H2 D (.dT [])) s3.heap.objs.size (cellsFrom (s3.heap.objs.size + 1) scope.names (cloFrom X.env.cells scope.names [])) fp
  have pk := hk s3 (upd H2 D (.dT [])) s3.heap.objs.size (cellsFrom (s3.heap.objs.size + 1) scope.names (cloFrom X.env.cells scope.names [])) fp
  have pe := he s3 (upd H2 D (.dT [])) s3.heap.objs.size (cellsFrom (s3.heap.objs.size + 1) scope.names (cloFrom X.env.cells scope.names [])) fp
  show codeAny _ _ (.compStart (.DictComp kx vx [⟨tg, iter, ifs, 0⟩] scope pos) 0 (.ref it) (.ref D) (compEnvC scope (cellsFrom (s3.heap.objs.size + 1) scope.names (cloFrom X.env.cells scope.names [])) s3.heap.objs.size X.env)) (compPost (model X.prog X.w) X.A X.xe use Qf (.ref D) s3.heap.objs.size) { s3 with heap := pushCells (s3.heap.push { cls := .type "dict", data := .dict #[] }) scope.names }
  have none3 : ∀ b ∈ fp, (upd H2 D (.dT [])) b = none := fun b m => (f3 b m).1.1
  generalize ece : compEnvC scope (cellsFrom (s3.heap.objs.size + 1) scope.names (cloFrom X.env.cells scope.names [])) s3.heap.objs.size X.env = ce at I4 pg pt pk pe ⊢
  have cl : ce.locals = s3.heap.objs.size := by rw [← ece]; rfl
  generalize upd H2 D (.dT []) = H3 at I3 I4 pg pt pk pe w0 none3 f3
  generalize e4 : ({ s3 with heap := pushCells (s3.heap.push { cls := .type "dict", data := .dict #[] }) scope.names } : Shared) = s4 at I4 ⊢
  have st4 : tn 0 s4.heap := T.keep _ _ _ st3 fun b _ o e => by rw [← e4]; exact pushCells_keeps _ _ _ _ (Heap.get?_push_of_some _ e)
  have calmFp : ∀ {σ' : L2.St} {H' : Hp} {s' : Shared}, Inv (X.blk s3 H3 scope ce fp) [] σ' H' s' → (∀ b ∈ fp, H' b = none) → ∀ b ∈ fp, FpOk (X.blk s3 H3 scope ce fp) [] H' b := fun {σ' H' s'} I' n b m =>
    ⟨n b m, (I'.ok.exf b m).1, I'.ok.exfs b m, .inl m, fun x c e => (I'.ok.exf b m).2 x c e, fun p hp => absurd (show p ∈ ([] : List (Addr × Obj)) ++ [] from hp) (by simp)⟩
  have loop : codeAny (model X.prog X.w) X.A (.compLoop (.DictComp kx vx [⟨tg, iter, ifs, 0⟩] scope pos) 0 (.ref it) (.ref D) ce) (compPost (model X.prog X.w) X.A X.xe use Qf (.ref D) s3.heap.objs.size) s4 := by
    refine compLoop_anyD (fun n s' => ∃ i H', Inv (X.blk s3 H3 scope ce fp) [] (wipe σ (own.map (·.2))) H' s' ∧ tn i s'.heap ∧ (∀ b ∈ fp, H' b = none) ∧ W i n H') ?_ m0 ⟨0, H3, I4, st4, none3, w0⟩
    rintro n s5 ⟨i, H5, I5, st5, n5, w5⟩
    rcases turn i n H5 w5 with ⟨stop, fin⟩ | ⟨go, Nx, next, step⟩
    · refine thnF (T.done (X.blk s3 H3 scope ce fp) rfl rfl rfl hc i [] s5 _ H5 (fun _ _ => False) I5 (calmFp I5 n5) st5 stop) fun r s6 ⟨hr, I6⟩ => ?_
      subst hr
      have I7 : Inv X pins σ H5 s6 := I3.call' (ch := fp) I6.os I6.base I6.hok I6.bare fun b m => ⟨(f3 b m).1.2.2.2.1, (f3 b m).1.2.1, (f3 b m).1.2.2.2.2.1, (f3 b m).1.2.2.2.2.2⟩
      have nC : H5 s3.heap.objs.size = none := cl ▸ (show H5 ce.locals = none from I6.free)
      obtain ⟨m, hn, _⟩ := I6.loc
      exact hR D s3.heap.objs.size s6 m H5 I7 fin (cl ▸ (show s6.heap.Ns ce.locals m from hn)) (I3.fpOk (Nat.le_refl _) nC)
    · refine thnF (T.item (X.blk s3 H3 scope ce fp) rfl rfl rfl hc i [] s5 _ H5 (fun _ _ => False) I5 (calmFp I5 n5) st5 go) fun r s6 ⟨u, hr, h6⟩ => ?_
      subst hr
      refine thnF h6 fun _ s7 ⟨x, H7, I7, r7, y7, st7, n7⟩ => ?_
      have pinned := I7.pinned (calmFp I7 n7) (T.obj _ _ st7)
      refine thnF (pg.run _ s7 _ H7 x u _ pinned r7 (step x H7 y7)) fun _ s8 ⟨σ8, H8, I8, w8, q8⟩ => ?_
      refine thnF (pt.run _ s8 σ8 H8 _ I8 q8) fun b s9 ⟨H9, I9, q9⟩ => ?_
      have turnEnd : ∀ {s' : Shared} {H' : Hp}, Inv (X.blk s3 H3 scope ce fp) ([] ++ pinsAt fp s7.heap) σ8 H' s' → Nx H' → ∃ m, m < n ∧ ∃ i H', Inv (X.blk s3 H3 scope ce fp) [] (wipe σ (own.map (·.2))) H' s' ∧ tn i s'.heap ∧ (∀ b ∈ fp, H' b = none) ∧ W i m H' := fun {s' H'} I' nx => by
        obtain ⟨m', lt, w'⟩ := next H' nx
        have pin : ∀ b ∈ fp, ∀ o, s7.heap.get? b = some o → s'.heap.get? b = some o ∧ H' b = none := fun b m o e => by
          have z := I'.pin (b, o) (List.mem_append_right _ (List.mem_append_right _ (mem_pinsAt m e)))
          exact ⟨z.1, z.2.1⟩
        refine ⟨m', lt, i + 1, H', (I'.unpinned (pins := [])).weak (by rw [← w8, wipe_length]) (fun j v e => ?_), T.keep _ _ _ st7 fun b m o e => (pin b m o e).1, fun b m => ?_, w'⟩
        · rw [← w8] at e
          exact (wipe_some e).1
        · obtain ⟨o, e, _⟩ := T.obj _ _ st7 b m
          exact (pin b m o e).2
      cases b with
      | false =>
        simp only [Bool.false_eq_true, if_false] at q9 ⊢
        exact turnEnd I9 q9
      | true =>
        simp only [if_true] at q9 ⊢
        refine thnF (pk.run _ s9 σ8 H9 _ I9 q9) fun z s10 ⟨yk, H10, I10, r10, q10⟩ => ?_
        refine thnF (pe.run _ s10 σ8 H10 _ I10 q10) fun z2 s11 ⟨yv, H11, I11, r11, kvs, k, p, ek, ep, hD11, fit, nx⟩ => ?_
        subst ek
        cases (show z = Value.ref p from r10)
        exact dt_dictSet (X := X.blk s3 H3 scope ce fp) (show X.A.units + 1 < cLine by omega) I11 hD11 ep r11 fit fun s12 I12 => turnEnd I12 nx
  exact codeAny_compStart_dict loop (T.self X.A 0 _ _ _ st4 loop)
theorem pe_dt {kx vx tg iter : Expr} {ifs : List Expr} {scope : Scope} {own : List (PySem.Str × Nat)} {pos : Pos} {wi : TI} {g : TG} {tt : TT} {tk tv : TE} (hu : X.A.units + 64 < cLine) (hc : X.calm = true) (hN : X.N.Nodup) (hi : PI X tg iter wi) (ok : BlkOk X.N X.env.scope scope own)
    (hg : ∀ s H C cl fp, PG (X.blk s H scope (compEnvC scope cl C X.env) fp) tg g) (ht : ∀ s H C cl fp, PTs (X.blk s H scope (compEnvC scope cl C X.env) fp) ifs tt)
    (hk : ∀ s H C cl fp, PE (X.blk s H scope (compEnvC scope cl C X.env) fp) kx tk) (he : ∀ s H C cl fp, PE (X.blk s H scope (compEnvC scope cl C X.env) fp) vx tv) (hs : ∀ x, foldedSetIterable iter X.env x = pure x := by intro _; rfl) :
    PE X (.DictComp kx vx [⟨tg, iter, ifs, 0⟩] scope pos) (tDt wi g tt tk tv (own.map (·.2))) := by
  refine ⟨fun pins s σ H Q I h => ?_⟩
  rw [arm_eval_DictComp]
  refine dt_run hu hc hN I hi ok hg ht hk he hs h fun D C s' m H' I' q hn f => ⟨m, hn, fun h'' sb => ?_⟩
  obtain ⟨f0, f1, f2, f3, f4, f5⟩ := f
  exact ⟨.ref D, H', I'.turned (t' := s'.toks) (fun b o hb e => (sb.2 b hb).trans e) f0 f1 f3 f4 f5, rfl, q⟩
end
end Sx

set_option linter.all false
set_option maxRecDepth 100000
set_option maxHeartbeats 2000000
/-! the one rising list of some things; sorted of texts, any number of them -/
namespace Sx
open PySem PySem.Spec PyProof.Rows L2
section
variable {α : Type}
def ins (lt : α → α → Bool) (x : α) : List α → List α
  | [] => [x]
  | y :: l => if lt y x = true then y :: ins lt x l else x :: y :: l
def srt (lt : α → α → Bool) : List α → List α
  | [] => []
  | x :: l => ins lt x (srt lt l)
theorem ins_perm (lt : α → α → Bool) (x : α) : ∀ l, (ins lt x l).Perm (x :: l)
  | [] => List.Perm.refl _
  | y :: l => by
    rw [ins]
    by_cases c : lt y x = true
    · rw [if_pos c]
      exact ((ins_perm lt x l).cons y).trans (List.Perm.swap x y l)
    · rw [if_neg c]
theorem srt_perm (lt : α → α → Bool) : ∀ l, (srt lt l).Perm l
  | [] => List.Perm.refl _
  | x :: l => (ins_perm lt x (srt lt l)).trans ((srt_perm lt l).cons x)
abbrev Up (lt : α → α → Bool) (l : List α) : Prop := l.Pairwise fun x y => lt y x = false
variable {lt : α → α → Bool}
theorem Lin.ins_up (O : Lin lt) (x : α) : ∀ {l}, Up lt l → Up lt (ins lt x l)
  | [], _ => List.pairwise_singleton _ _
  | y :: l, h => by
    obtain ⟨h1, h2⟩ := List.pairwise_cons.mp h
    rw [ins]
    by_cases c : lt y x = true
    · rw [if_pos c]
      refine List.pairwise_cons.mpr ⟨fun z m => ?_, O.ins_up x h2⟩
      rcases List.mem_cons.mp ((ins_perm lt x l).mem_iff.mp m) with e | m
      · rw [e]; exact O.asym c
      · exact h1 z m
    · rw [if_neg c]
      have c' : lt y x = false := Bool.eq_false_iff.mpr c
      refine List.pairwise_cons.mpr ⟨fun z m => ?_, h⟩
      rcases List.mem_cons.mp m with e | m
      · rw [e]; exact c'
      · exact O.le_tr c' (h1 z m)
theorem Lin.srt_up (O : Lin lt) : ∀ l, Up lt (srt lt l)
  | [] => List.Pairwise.nil
  | x :: l => O.ins_up x (O.srt_up l)
theorem Lin.is_srt (O : Lin lt) {l m : List α} (h : Up lt l) (p : l.Perm m) : l = srt lt m := O.uniq h (O.srt_up m) (p.trans (srt_perm lt m).symm)
variable [DecidableEq α]
/-- each once, as it is first met -/
def once : List α → List α
  | l => l.foldl (fun acc x => if x ∈ acc then acc else acc ++ [x]) []
def onceGo (acc l : List α) : List α := l.foldl (fun acc x => if x ∈ acc then acc else acc ++ [x]) acc
theorem onceGo_spec : ∀ (l acc : List α), acc.Nodup → (onceGo acc l).Nodup ∧ ∀ x, x ∈ onceGo acc l ↔ x ∈ acc ∨ x ∈ l
  | [], acc, h => ⟨h, fun x => by simp [onceGo]⟩
  | y :: l, acc, h => by
    by_cases c : y ∈ acc
    · have e : onceGo acc (y :: l) = onceGo acc l := by unfold onceGo; rw [List.foldl_cons, if_pos c]
      obtain ⟨a, b⟩ := onceGo_spec l acc h
      rw [e]
      refine ⟨a, fun x => (b x).trans ?_⟩
      rw [List.mem_cons]
      constructor
      · rintro (z | z)
        · exact .inl z
        · exact .inr (.inr z)
      · rintro (z | z | z)
        · exact .inl z
        · rw [z]; exact .inl c
        · exact .inr z
    · have e : onceGo acc (y :: l) = onceGo (acc ++ [y]) l := by unfold onceGo; rw [List.foldl_cons, if_neg c]
      have nd : (acc ++ [y]).Nodup := (List.perm_append_singleton y acc).nodup_iff.mpr (List.nodup_cons.mpr ⟨c, h⟩)
      obtain ⟨a, b⟩ := onceGo_spec l (acc ++ [y]) nd
      rw [e]
      refine ⟨a, fun x => (b x).trans ?_⟩
      rw [List.mem_append, List.mem_singleton, List.mem_cons, or_assoc]
theorem once_nodup (l : List α) : (once l).Nodup := (onceGo_spec l [] List.nodup_nil).1
theorem once_mem (l : List α) (x : α) : x ∈ once l ↔ x ∈ l := ((onceGo_spec l [] List.nodup_nil).2 x).trans (by simp)
theorem once_snoc (l : List α) (x : α) : once (l ++ [x]) = if x ∈ once l then once l else once l ++ [x] := by
  unfold once
  rw [List.foldl_append] <;> rfl
/-- the rising list of what is in l -/
def asc (lt : α → α → Bool) (l : List α) : List α := srt lt (once l)
theorem perm_once {l m : List α} (h : l.Nodup) (e : ∀ x, x ∈ l ↔ x ∈ m) : l.Perm (once m) := (List.perm_ext_iff_of_nodup h (once_nodup m)).mpr fun x => (e x).trans (once_mem m x).symm
theorem Lin.is_asc (O : Lin lt) {l m : List α} (h : l.Nodup) (u : Up lt l) (e : ∀ x, x ∈ l ↔ x ∈ m) : l = asc lt m := O.is_srt u (perm_once h e)
theorem asc_mem (lt : α → α → Bool) (l : List α) (x : α) : x ∈ asc lt l ↔ x ∈ l := ((srt_perm lt (once l)).mem_iff).trans (once_mem l x)
theorem asc_nodup (lt : α → α → Bool) (l : List α) : (asc lt l).Nodup := (srt_perm lt (once l)).nodup_iff.mpr (once_nodup l)
theorem Lin.asc_up (O : Lin lt) (l : List α) : Up lt (asc lt l) := O.srt_up _
theorem once_len (l : List α) : (once l).length ≤ l.length := by
  have z := nd_len (once l) l (once_nodup l) fun x m => (once_mem l x).mp m
  exact z
theorem asc_len (lt : α → α → Bool) (l : List α) : (asc lt l).length ≤ l.length := by
  unfold asc
  rw [(srt_perm lt (once l)).length_eq]
  exact once_len l
end

/-! ### sorted of texts -/
def sv : Value → PySem.Str
  | .str x _ => x
  | _ => ⟨#[]⟩
section
variable {P : Program} {w : World} {A : Around} {E : Value → Shared → Prop} {s : Shared}
theorem strs_of_vals : ∀ {xs : List PySem.Str} {us : List Value}, Vals (xs.map V.str) us → us.map sv = xs ∧ ∀ u ∈ us, ∃ x t, u = Value.str x t
  | [], _, .nil => ⟨rfl, fun u m => absurd m List.not_mem_nil⟩
  | x :: xs, _, .cons r t => by
    obtain ⟨tk, rfl⟩ := r
    obtain ⟨a, b⟩ := strs_of_vals t
    refine ⟨by rw [List.map_cons, a] <;> rfl, fun u m => ?_⟩
    rcases List.mem_cons.mp m with rfl | m
    · exact ⟨x, tk, rfl⟩
    · exact b u m
theorem vals_of_strs : ∀ {us : List Value}, (∀ u ∈ us, ∃ x t, u = Value.str x t) → Vals ((us.map sv).map V.str) us
  | [], _ => .nil
  | u :: us, h => by
    obtain ⟨x, t, rfl⟩ := h u List.mem_cons_self
    exact .cons ⟨t, rfl⟩ (vals_of_strs fun v m => h v (List.mem_cons_of_mem _ m))
theorem strs_are : ∀ {vs : List Value}, (∀ u ∈ vs, ∃ x t, u = Value.str x t) → StrsAre vs (vs.map sv)
  | [], _ => .nil
  | v :: vs, h => by
    obtain ⟨x, t, rfl⟩ := h v List.mem_cons_self
    exact .cons x t (strs_are fun u m => h u (List.mem_cons_of_mem _ m))
theorem text_sortable {a : Addr} {vs : List Value} (h : ∀ u ∈ vs, ∃ x t, u = Value.str x t) (h2 : 2 ≤ vs.length) : SrtO.SortableO P w A s a vs fun v u => ltText (sv v) (sv u) := by
  intro h' _
  refine ⟨oneType', fun Q E hq => ?_, ?_⟩
  · match vs, h, h2 with
    | v1 :: v2 :: rest, h, _ =>
      rw [keyKind_strs (strs_are h)]
      exact wpAny_pure hq
    | [], _, h2 => exact absurd h2 (by decide)
    | [v], _, h2 => exact absurd h2 (by simp)
  · intro p q hp hq
    obtain ⟨x, t, e⟩ := h _ hp
    obtain ⟨y, u, e'⟩ := h _ hq
    show wpAny (model P w) A (keyLt' oneType' p.1 q.1) (fun r s' => s' = _ ∧ r = ltText (sv p.1) (sv q.1)) (fun _ _ => False) _
    rw [e, e', keyLt'_oneType]
    exact oneLt_str ⟨rfl, rfl⟩
end
section
variable {X : Cx}
/-- sorted(xs), texts, any number of them -/
def rSortS (K : PySem.W.Frag) : List V → Hp → VK → Prop := fun vs H Q => ∃ (a : Addr) (xs : List PySem.Str), vs = [V.ref a] ∧ SqL K H a (xs.map V.str) ∧
  ∀ p : Addr, H p = none → Q (.ref p) (upd H p (.lst ((srt ltText xs).map V.str)))
theorem cr_sortS : CallR X (.builtin "sorted") (rSortS X.K) := by
  intro pins s σ H vs us Q I r h
  obtain ⟨a, xs, rfl, hs, q⟩ := h
  obtain ⟨its, rv, hl, hz⟩ := I.list hs
  rw [Vals.ref1 r]
  obtain ⟨e1, e2⟩ := strs_of_vals rv
  refine SrtO.sorted_ord (ltv := fun v u => ltText (sv v) (sv u)) (lin_text.swo sv) hl.isList (by rw [← rv.length]; exact hz) (fun h2 h₁ a' _ _ => text_sortable e2 h2) fun out h1 h2 => ?_
  have all : ∀ u ∈ out, ∃ x t, u = Value.str x t := fun u m => e2 u (h2.perm.mem_iff.mp m)
  have pm : (out.map sv).Perm xs := by
    have z := h2.perm.map sv
    rw [e1] at z
    exact z
  have up : Up ltText (out.map sv) := List.pairwise_map.mpr h1
  have ex : out.map sv = srt ltText xs := lin_text.is_srt up pm
  obtain ⟨ep, he'⟩ := PyProof.Rows.sortedAll_at s.heap its out.toArray
  have rel := vals_of_strs all
  rw [ex] at rel
  have hlen : ((srt ltText xs).map V.str).length ≤ sizeLine := by
    rw [List.length_map, (srt_perm ltText xs).length_eq]
    rw [List.length_map] at hz
    exact hz
  exact ⟨.ref _, upd H (s.heap.objs.size + 1) (.lst ((srt ltText xs).map V.str)), I.laid (t' := s.toks) (fun _ _ => PyProof.Rows.sortedAll_old) (Nat.le_succ _) ⟨hlen, out, ep, rel, he'⟩, rfl, q _ (I.hok.fresh (Nat.le_succ _))⟩
end
end Sx

set_option linter.all false
set_option maxRecDepth 100000
set_option maxHeartbeats 2000000
/-! name = {k: v for ..}, the name a local -/
namespace Sx
open PySem PySem.Spec PyProof.Rows L2
section
variable {X : Cx}
theorem ps_setDc {i : Nat} {y : PySem.Str} {py : Pos} {kx vx tg iter : Expr} {ifs : List Expr} {scope : Scope} {own : List (PySem.Str × Nat)} {pos spos : Pos} {wi : TI} {g : TG} {tt : TT} {tk tv : TE} (hc : X.calm = true) (hN : X.N.Nodup) (hy : X.N[i]? = some y) (local_ : X.env.scope.names.lookup y = some .local)
    (sw : swapsWith (.DictComp kx vx [⟨tg, iter, ifs, 0⟩] scope pos) (some (.Name y py)) spos.line X.env = pure true) (hi : PI X tg iter wi) (ok : BlkOk X.N X.env.scope scope own)
    (hg : ∀ s H C cl fp, PG (X.blk s H scope (compEnvC scope cl C X.env) fp) tg g) (ht : ∀ s H C cl fp, PTs (X.blk s H scope (compEnvC scope cl C X.env) fp) ifs tt)
    (hk : ∀ s H C cl fp, PE (X.blk s H scope (compEnvC scope cl C X.env) fp) kx tk) (he : ∀ s H C cl fp, PE (X.blk s H scope (compEnvC scope cl C X.env) fp) vx tv) (hs : ∀ x, foldedSetIterable iter X.env x = pure x := by intro _; rfl) :
    PS X (.Assign [.Name y py] (.DictComp kx vx [⟨tg, iter, ifs, 0⟩] scope pos) spos) (tAsg (tDc wi g tt tk tv (own.map (·.2))) (gName i)) := by
  refine ⟨fun pins s σ H D I h => ?_⟩
  rw [exec_Assign_Name_used _ _ _ _ sw]
  refine wpAny_bind (wpAny_standAt (wpAny_bind ?_))
  show wpAny _ X.A (do let _ ← comprehension (.DictComp kx vx [⟨tg, iter, ifs, 0⟩] scope pos) scope X.env (firstIterPos [⟨tg, iter, ifs, 0⟩] pos) newDict false (eval iter X.env) (some (assign (.Name y py) X.env))) _ _ s
  have h : tDc wi g tt tk tv (own.map (·.2)) σ H (fun x H1 => gName i x σ H1 D.nx) := h
  refine wpAny_bind (thn (dc_core (Qf := fun _ s' => SP X pins D .next s') hc hN I hi ok hg ht hk he hs h fun L C s' m H' I' q hn f => ?_) fun _ s' hq => wpAny_pure (wpAny_pure hq))
  show wpAny _ _ (assign (.Name y py) X.env (.ref L)) _ _ _
  refine wpAny_assign_Name (store_ok2 (v := V.ref L) I' hN hy (.inl local_) rfl (fun s2 I2 ⟨a, sb, ha⟩ => ?_) (.inr local_))
  obtain ⟨f0, f1, f2, f3, f4, f5⟩ := f
  have apart : C ≠ a := ha.elim (fun z => by rw [z]; exact f1) fun z e => f4 y a z e.symm
  exact ⟨m, hn.sameBut sb apart, fun h3 sb3 => ⟨_, H', I2.turned (t' := s2.toks) (fun b o hb e => (sb3.2 b hb).trans e) f0 f1 f3 f4 f5, q⟩⟩
theorem ps_setDt {i : Nat} {y : PySem.Str} {py : Pos} {kx vx tg iter : Expr} {ifs : List Expr} {scope : Scope} {own : List (PySem.Str × Nat)} {pos spos : Pos} {wi : TI} {g : TG} {tt : TT} {tk tv : TE} (hu : X.A.units + 64 < cLine) (hc : X.calm = true) (hN : X.N.Nodup) (hy : X.N[i]? = some y) (local_ : X.env.scope.names.lookup y = some .local)
    (sw : swapsWith (.DictComp kx vx [⟨tg, iter, ifs, 0⟩] scope pos) (some (.Name y py)) spos.line X.env = pure true) (hi : PI X tg iter wi) (ok : BlkOk X.N X.env.scope scope own)
    (hg : ∀ s H C cl fp, PG (X.blk s H scope (compEnvC scope cl C X.env) fp) tg g) (ht : ∀ s H C cl fp, PTs (X.blk s H scope (compEnvC scope cl C X.env) fp) ifs tt)
    (hk : ∀ s H C cl fp, PE (X.blk s H scope (compEnvC scope cl C X.env) fp) kx tk) (he : ∀ s H C cl fp, PE (X.blk s H scope (compEnvC scope cl C X.env) fp) vx tv) (hs : ∀ x, foldedSetIterable iter X.env x = pure x := by intro _; rfl) :
    PS X (.Assign [.Name y py] (.DictComp kx vx [⟨tg, iter, ifs, 0⟩] scope pos) spos) (tAsg (tDt wi g tt tk tv (own.map (·.2))) (gName i)) := by
  refine ⟨fun pins s σ H D I h => ?_⟩
  rw [exec_Assign_Name_used _ _ _ _ sw]
  refine wpAny_bind (wpAny_standAt (wpAny_bind ?_))
  show wpAny _ X.A (do let _ ← comprehension (.DictComp kx vx [⟨tg, iter, ifs, 0⟩] scope pos) scope X.env (firstIterPos [⟨tg, iter, ifs, 0⟩] pos) newDict false (eval iter X.env) (some (assign (.Name y py) X.env))) _ _ s
  have h : tDt wi g tt tk tv (own.map (·.2)) σ H (fun x H1 => gName i x σ H1 D.nx) := h
  refine wpAny_bind (thn (dt_run (Qf := fun _ s' => SP X pins D .next s') hu hc hN I hi ok hg ht hk he hs h fun L C s' m H' I' q hn f => ?_) fun _ s' hq => wpAny_pure (wpAny_pure hq))
  show wpAny _ _ (assign (.Name y py) X.env (.ref L)) _ _ _
  refine wpAny_assign_Name (store_ok2 (v := V.ref L) I' hN hy (.inl local_) rfl (fun s2 I2 ⟨a, sb, ha⟩ => ?_) (.inr local_))
  obtain ⟨f0, f1, f2, f3, f4, f5⟩ := f
  have apart : C ≠ a := ha.elim (fun z => by rw [z]; exact f1) fun z e => f4 y a z e.symm
  exact ⟨m, hn.sameBut sb apart, fun h3 sb3 => ⟨_, H', I2.turned (t' := s2.toks) (fun b o hb e => (sb3.2 b hb).trans e) f0 f1 f3 f4 f5, q⟩⟩
theorem sw_dict {kx vx : Expr} {gs : List Comprehension} {scope : Scope} {pos py : Pos} {y : PySem.Str} {l : Nat} {env : Env} (hk : env.scope.kind = .function) (hy : env.scope.names.lookup y = some .local) (hl : (py.line == pos.line) = true)
    (no : (scope.names.any fun (n, k) => n == y && (k == .local || k == .cell)) = false) : swapsWith (.DictComp kx vx gs scope pos) (some (.Name y py)) l env = pure true := by
  have ky : env.kindOf y = some .local := hy
  have kb : env.blockKind = .function := by unfold Env.blockKind; rw [hk] <;> rfl
  unfold swapsWith
  simp only [kb, ky, no, Expr.pos, hl]
  rfl
end
end Sx

set_option Elab.async false
set_option maxRecDepth 100000
set_option maxHeartbeats 4000000
namespace Mk
open PySem L2 Pk
abbrev sSymbols : Stmt := top 47
abbrev sActs : Stmt := top 48
abbrev sGuess : Stmt := top 49
/-- the rules as they are kept: tuples -/
abbrev Kept := List (Addr × Rl)
def refsK (R : Kept) : List V := R.map fun p => .ref p.1
def KeptAt (H : Hp) (R : Kept) : Prop := ∀ p ∈ R, H p.1 = some (.tup p.2.vs)
theorem KeptAt.mono {H H' : Hp} {R : Kept} (h : KeptAt H R) (e : Same H H') : KeptAt H' R := fun p m => e _ _ (h p m)
/-- k is put to the others, once -/
def addK {κ : Type} [DecidableEq κ] (l : List κ) (k : κ) : List κ := if k ∈ l then l else l ++ [k]
theorem put_keys {κ : Type} [DecidableEq κ] (kvs : List (κ × V)) (k : κ) (v : V) : (putK kvs k v).map (·.1) = addK (kvs.map (·.1)) k := by
  unfold putK addK
  by_cases c : (kvs.any fun kv => decide (kv.1 = k)) = true
  · have m : k ∈ kvs.map (·.1) := by
      obtain ⟨p, hp, e⟩ := List.any_eq_true.mp c
      exact List.mem_map.mpr ⟨p, hp, of_decide_eq_true e⟩
    rw [if_pos c, if_pos m, List.map_map]
    refine List.map_congr_left fun p _ => ?_
    show (if p.1 = k then (p.1, v) else p).1 = p.1
    split <;> rfl
  · have m : k ∉ kvs.map (·.1) := fun h => by
      obtain ⟨p, hp, e⟩ := List.mem_map.mp h
      exact c (List.any_eq_true.mpr ⟨p, hp, decide_eq_true e⟩)
    rw [if_neg c, if_neg m, List.map_append] <;> rfl
theorem once_add {κ : Type} [DecidableEq κ] (l : List κ) (x : κ) : Sx.once (l ++ [x]) = addK (Sx.once l) x := Sx.once_snoc l x
theorem add_map {α β : Type} [DecidableEq α] [DecidableEq β] {f : α → β} (inj : ∀ x y, f x = f y → x = y) (l : List α) (x : α) : addK (l.map f) (f x) = (addK l x).map f := by
  unfold addK
  by_cases c : x ∈ l
  · rw [if_pos c, if_pos (List.mem_map.mpr ⟨x, c, rfl⟩)]
  · have m : f x ∉ l.map f := fun h => by
      obtain ⟨y, m, e⟩ := List.mem_map.mp h
      exact c (inj y x e ▸ m)
    rw [if_neg c, if_neg m, List.map_append] <;> rfl
abbrev kT (x : PySem.Str) : Key := Sum.inr x
theorem kT_inj (x y : PySem.Str) (e : kT x = kT y) : x = y := Sum.inr.inj e
/-- the symbols of rules, rising -/
def symsOf (rs : List Rl) : List PySem.Str := Sx.srt Sx.ltText ((Sx.once (rs.map Rl.tp ++ rs.map Rl.sy)).filter fun x => decide (x ≠ nil0))
section
variable {P : Program} {w : World} {K : PySem.W.Frag} {mg : PySem.Str → Option Value} {base : Heap}
def spSymbols (K : PySem.W.Frag) : Sp := fun vs H Q _ => ∃ (a : Addr) (R : Kept), vs = [.ref a] ∧ SqT K H a (refsK R) ∧ KeptAt H R ∧ R.length ≤ 20000 ∧
  ∀ (H' : Hp) (p : Addr), Same H H' → H p = none → H' p = some (.tup ((symsOf (R.map (·.2))).map V.str)) → Q (.ref p) H'
abbrev nSymbols : List PySem.Str := ["rules", "rule", "found", "symbol"]
theorem scSymbols : FnScope nSymbols ["rules"] (defScope sSymbols) := ⟨rfl, rfl, rfl, by decide +kernel, rfl, by decide +kernel, by decide +kernel⟩
theorem ok_symbols {f : Addr} {fd : FuncData} (F : Fun K "symbols_of" "symbols_of" sSymbols f fd) (T : TM mg) : FnOk P w K mg base CX0 1 f fd ["rules"] (spSymbols K) := by
  refine F.ok scSymbols (fun vs H Q E h => ?_) (fun cdv A outer s H vs Q E hr h => ?_)
  · obtain ⟨a, R, rfl, _⟩ := h
    rfl
  · obtain ⟨a, R, rfl, hS, hK, most, k⟩ := h
    have hu := hu_of hr
    refine ⟨_, pss_cons (Sx.ps_setDc (i := 2) (own := [("rule", 1)]) (g := gName 1) (tt := tYes) (by rfl) scSymbols.nd rfl rfl (Sx.sw_dict rfl rfl rfl (by decide +kernel)) (pi_tup (pv 0))
        (blkOk_by (own := [("rule", 1)]) (N := nSymbols) (sc := defScope sSymbols) (by decide +kernel))
        (fun _ _ _ _ _ => pg_name (i := 1) scSymbols.nd rfl (Or.inl rfl)) (fun _ _ _ _ _ => pts_nil) (fun _ _ _ _ _ => pe_ix (r := rIxT K) ix_tup (pv 1) pe_int fun _ _ => rfl) (fun _ _ _ _ _ => pe_bl))
      (pss_cons (ps_for PassesOwn.never rfl (pi_tup (pv 0)) (pg_name (i := 1) scSymbols.nd rfl (Or.inl rfl))
        (pss_one (ps_dput hu (pv 2) (pe_ix ix_tup (pv 1) pe_int fun _ _ => rfl) pe_bl rfl)))
      (pss_one (ps_ret (pe_callTy call_tuple_of (by rfl) T.tuple PyProof.Rows.Boot.tuple (pa_cons (pe_callB Sx.cr_sortS (by rfl) T.sorted (by decide +kernel) (pa_cons (pe_lock (pe_lc (own := [("symbol", 3)]) (g := gName 3) (by rfl) scSymbols.nd (pi_keys (pv 2))
        (blkOk_by (own := [("symbol", 3)]) (N := nSymbols) (sc := defScope sSymbols) (by decide +kernel))
        (fun _ _ _ _ _ => pg_name (i := 3) scSymbols.nd rfl (Or.inl rfl)) (fun _ _ _ _ _ => pts_one (pt_cmpR op_ne (pv 3) pe_str (nomark _))) (fun _ _ _ _ _ => pv 3))) pa_nil)) pa_nil))))), ?_⟩
    have lR : (refsK R).length = R.length := List.length_map ..
    have at_ : ∀ {i : Nat} {v : V}, (refsK R)[i]? = some v → ∃ p, R[i]? = some p ∧ v = .ref p.1 := fun {i v} e => by
      unfold refsK at e
      rw [List.getElem?_map] at e
      obtain ⟨p, e1, e2⟩ := Option.map_eq_some_iff.mp e
      exact ⟨p, e1, e2.symm⟩
    have few : ∀ {n : Nat}, n ≤ 40000 → n < sizeLine := fun h => Nat.lt_of_le_of_lt h (by decide)
    refine ⟨_, rfl, a, rfl, ⟨_, hS⟩, fun D hD => dc_tup (fun i H' => Same H H' ∧ ∃ kvs : List (Key × V), H' D = some (.dK kvs) ∧ kvs.map (·.1) = (Sx.once ((R.take i).map fun p => p.2.tp)).map kT)
      ⟨same_new hD, [], upd_same, rfl⟩ (fun i H' _ h => Same.tup h.1 hS) ?_ ?_⟩
    · rintro i x H1 hi ⟨s1, kvs, hD1, hk⟩
      obtain ⟨p, ep, rfl⟩ := at_ hi
      have m := List.mem_of_getElem? ep
      refine ⟨rfl, ?_⟩
      refine ⟨_, rfl, p.1, p.2.vs, 2, .str p.2.tp, rfl, rfl, .inl (.inl (s1 _ _ (hK p m))), rfl, kvs, kT p.2.tp, rfl, hD1, ?_, same_mut s1 hD, _, upd_same, ?_⟩
      · refine few ?_
        have z := congrArg List.length hk
        rw [List.length_map, List.length_map] at z
        have y := Sx.once_len ((R.take i).map fun p => p.2.tp)
        rw [List.length_map, List.length_take] at y
        omega
      · rw [put_keys, hk, add_map kT_inj, ← once_add, take_at ep, List.map_append] <;> rfl
    · rintro H1 ⟨s1, kvs, hD1, hk⟩
      rw [lR, List.take_of_length_le (Nat.le_refl _)] at hk
      refine ⟨_, rfl, a, rfl, ⟨_, Same.tup s1 hS⟩, for_tup (K := K) (a := a) (xs := refsK R) (fun i σ H' => Same H H' ∧ ∃ (v : Option V) (kvs : List (Key × V)), σ = [some (.ref a), v, some (.ref D), none] ∧ H' D = some (.dK kvs) ∧ kvs.map (·.1) = (Sx.once (R.map (fun p => p.2.tp) ++ (R.take i).map fun p => p.2.sy)).map kT)
        ⟨s1, none, kvs, rfl, hD1, by rw [hk]; simp⟩ (fun i σ H' _ h => Same.tup h.1 hS) ?_ ?_⟩
      · rintro i x σ H2 hi ⟨s2, v, kv2, rfl, hD2, hk2⟩
        obtain ⟨p, ep, rfl⟩ := at_ hi
        have m := List.mem_of_getElem? ep
        refine ⟨_, rfl, _, rfl, p.1, p.2.vs, 6, .str p.2.sy, rfl, rfl, .inl (.inl (s2 _ _ (hK p m))), rfl, D, _, rfl, DPut.k (k := kT p.2.sy) hD2 ?_, same_mut s2 hD, _, _, rfl, upd_same, ?_⟩
        · refine few ?_
          have z := congrArg List.length hk2
          rw [List.length_map, List.length_map] at z
          have y := Sx.once_len (R.map (fun p => p.2.tp) ++ (R.take i).map fun p => p.2.sy)
          rw [List.length_append, List.length_map, List.length_map, List.length_take] at y
          omega
        · rw [put_keys, hk2, add_map kT_inj, ← once_add, take_at ep, List.map_append, List.append_assoc] <;> rfl
      · rintro σ H2 ⟨s2, v, kv2, rfl, hD2, hk2⟩
        rw [lR, List.take_of_length_le (Nat.le_refl _)] at hk2
        generalize hks : Sx.once (R.map (fun p => p.2.tp) ++ R.map fun p => p.2.sy) = ks at hk2
        have lk : kv2.length = ks.length := by
          have z := congrArg List.length hk2
          rwa [List.length_map, List.length_map] at z
        have lks : ks.length ≤ 40000 := by
          have y := Sx.once_len (R.map (fun p => p.2.tp) ++ R.map fun p => p.2.sy)
          rw [hks, List.length_append, List.length_map, List.length_map] at y
          omega
        have key : ∀ {i : Nat} {c : Key} {u : V}, kv2[i]? = some (c, u) → ∃ x, ks[i]? = some x ∧ c = kT x := fun {i c u} e => by
          have z := congrArg (fun l => l[i]?) hk2
          simp only [List.getElem?_map, e] at z
          rcases q : ks[i]? with _ | x
          · rw [q] at z; cases z
          · rw [q] at z; exact ⟨x, rfl, Option.some.inj z⟩
        refine ⟨D, _, hD2, trivial, fun od => ?_⟩
        refine ⟨_, rfl, D, od, rfl, .inl ⟨kv2, upd_same, fun L hL => ?_⟩⟩
        have LD : L ≠ D := fun e => by rw [e, upd_same] at hL; cases hL
        have hL2 : H2 L = none := by rw [upd_ne LD] at hL; exact hL
        have hL0 : H L = none := s2.free hL2
        refine lc_it walk_keys (fun i H' => H' = upd (upd H2 D (.frz od (.dK kv2))) L (.lst (((ks.take i).filter fun x => decide (x ≠ nil0)).map V.str))) rfl ?_ ?_ ?_
        · rintro i H' _ rfl
          rw [upd_ne LD.symm, upd_same]
        · rintro i y H3 H4 hi rfl ⟨rfl, c, u, e, rfl⟩
          obtain ⟨x, ex, rfl⟩ := key e
          refine ⟨rfl, ?_⟩
          refine ⟨_, rfl, rfl, _, rfl, ?_⟩
          rw [take_at ex, List.filter_append, List.map_append]
          rw [show decide (kV (kT x) = V.str (PySem.Str.ofString "")) = decide (x = nil0) from dec_str x nil0]
          by_cases n : x = nil0
          · rw [decide_eq_true n, List.filter_cons_of_neg (by simp [n])]
            refine iteF ?_
            simp
          · rw [decide_eq_false n, List.filter_cons_of_pos (by simp [n])]
            refine iteT ?_
            refine ⟨_, rfl, _, upd_same, ?_, ?_⟩
            · rw [List.length_map]
              refine few (Nat.le_trans (List.length_filter_le _ _) ?_)
              rw [List.length_take]
              omega
            · rw [upd_upd] <;> rfl
        · rintro H3 rfl
          rw [lk, List.take_of_length_le (Nat.le_refl _)]
          refine ⟨by rw [upd_ne LD.symm, upd_same], ?_⟩
          refine ⟨L, _, rfl, SqL.of (by rw [upd_ne LD, upd_same]), fun p hp => ?_⟩
          refine ⟨p, _, rfl, .inl ⟨SqL.of upd_same, fun q hq => ?_⟩⟩
          have s3 : Same H (upd (upd (upd H2 D (.frz od (.dK kv2))) L (.lst ((ks.filter fun x => decide (x ≠ nil0)).map V.str))) D (.dK kv2)) := same_mut (same_mut (same_mut s2 hD) hL0) hD
          refine k _ q ((s3.trans (same_new hp)).trans (same_new hq)) ((s3.trans (same_new hp)).free hq) ?_
          rw [upd_same]
          unfold symsOf
          rw [List.map_map, List.map_map, ← hks] <;> rfl
end
end Mk

set_option Elab.async false
set_option maxRecDepth 100000
set_option maxHeartbeats 4000000
namespace Mk
open PySem L2 Pk
/-- a key with its acts -/
abbrev Grp := List Key × List (List Key)
def TupAt (H : Hp) (a : Addr) (k : List Key) : Prop := H a = some (.tup (k.map kV))
/-- one entry of the table under work: a list of acts -/
def Ent (H : Hp) (p : List Key × V) (q : Grp) : Prop := p.1 = q.1 ∧ ∃ (la : Addr) (as : List Addr), p.2 = .ref la ∧ H la = some (.lst (as.map V.ref)) ∧ Paired (TupAt H) as q.2
def gAdd {κ α : Type} [DecidableEq κ] (G : List (κ × List α)) (k : κ) (a : α) : List (κ × List α) := if k ∈ G.map (·.1) then G.map (fun g => if g.1 = k then (g.1, g.2 ++ [a]) else g) else G ++ [(k, [a])]
theorem gAdd_keys {κ α : Type} [DecidableEq κ] (G : List (κ × List α)) (k : κ) (a : α) : (gAdd G k a).map (·.1) = addK (G.map (·.1)) k := by
  unfold gAdd addK
  by_cases c : k ∈ G.map (·.1)
  · rw [if_pos c, if_pos c, List.map_map]
    refine List.map_congr_left fun g _ => ?_
    show (if g.1 = k then (g.1, g.2 ++ [a]) else g).1 = g.1
    split <;> rfl
  · rw [if_neg c, if_neg c, List.map_append] <;> rfl
theorem ent_keys {H : Hp} : ∀ {kvs : List (List Key × V)} {G : List Grp}, Paired (Ent H) kvs G → kvs.map (·.1) = G.map (·.1)
  | _, _, .nil => rfl
  | _, _, .cons h t => by rw [List.map_cons, List.map_cons, h.1, ent_keys t]
/-- an entry stays where its list is another one -/
theorem Ent.other {H H' : Hp} {l : Addr} {p : List Key × V} {q : Grp} (e : Ent H p q) (ne : p.2 ≠ .ref l) (keep : ∀ b o, b ≠ l → H b = some o → H' b = some o) (isl : ∀ xs, H l ≠ some (.tup xs)) : Ent H' p q := by
  obtain ⟨e1, la, as, e2, e3, e4⟩ := e
  refine ⟨e1, la, as, e2, keep la _ (fun z => ne (by rw [e2, z])) e3, Paired.mapP e4 fun a k t => ?_⟩
  exact keep a _ (fun z => isl (k.map kV) (by rw [← z]; exact t)) t
theorem ent_all_other {H H' : Hp} {l : Addr} : ∀ {kvs : List (List Key × V)} {G : List Grp}, Paired (Ent H) kvs G → (V.ref l) ∉ kvs.map (·.2) → (∀ b o, b ≠ l → H b = some o → H' b = some o) → (∀ xs, H l ≠ some (.tup xs)) → Paired (Ent H') kvs G
  | _, _, .nil, _, _, _ => .nil
  | p :: _, _, .cons h t, no, keep, isl => .cons (h.other (fun e => no (by rw [List.map_cons, e]; exact List.mem_cons_self)) keep isl) (ent_all_other t (fun m => no (List.mem_cons_of_mem _ m)) keep isl)
/-- one act more in the list that stands -/
theorem ent_more {H H' : Hp} {l q5 : Addr} {k act : List Key} : ∀ {kvs : List (List Key × V)} {G : List Grp}, Paired (Ent H) kvs G → (kvs.map (·.1)).Nodup → (kvs.map (·.2)).Nodup → valV kvs k = some (.ref l) →
    (∀ b o, b ≠ l → H b = some o → H' b = some o) → (∀ xs, H l ≠ some (.tup xs)) → (∀ as : List Addr, H l = some (.lst (as.map V.ref)) → H' l = some (.lst ((as ++ [q5]).map V.ref))) → TupAt H' q5 act →
    Paired (Ent H') kvs (G.map fun g => if g.1 = k then (g.1, g.2 ++ [act]) else g)
  | _, _, .nil, _, _, v, _, _, _, _ => by cases v
  | p :: ps, _, .cons (b := q) (l₂ := qs) h t, n1, n2, v, keep, isl, app, ta => by
    obtain ⟨a1, a2⟩ := List.nodup_cons.mp n1
    obtain ⟨b1, b2⟩ := List.nodup_cons.mp n2
    rw [List.map_cons]
    by_cases c : p.1 = k
    · rw [valV_pos c] at v
      have v2 := Option.some.inj v
      have c2 : q.1 = k := h.1.symm.trans c
      rw [if_pos c2]
      have rest : (qs.map fun g : Grp => if g.1 = k then (g.1, g.2 ++ [act]) else g) = qs := by
        have no : k ∉ qs.map (·.1) := by rw [← ent_keys t, ← c]; exact a1
        conv => rhs; rw [← List.map_id qs]
        refine List.map_congr_left fun g m => ?_
        rw [if_neg fun e => no (List.mem_map.mpr ⟨g, m, e⟩)] <;> rfl
      rw [rest]
      refine .cons ?_ (ent_all_other t (by rw [← v2]; exact b1) keep isl)
      obtain ⟨e1, la, as, e2, e3, e4⟩ := h
      have el : la = l := by
        rw [e2] at v2
        exact V.ref.inj v2
      subst el
      refine ⟨e1, la, as ++ [q5], e2, app as e3, Paired.snoc (Paired.mapP e4 fun a k t => ?_) ta⟩
      exact keep a _ (fun z => isl (k.map kV) (by rw [← z]; exact t)) t
    · rw [valV_neg c] at v
      have c2 : ¬ q.1 = k := fun e => c (h.1.trans e)
      rw [if_neg c2]
      have mem : V.ref l ∈ ps.map (·.2) := by
        unfold valV at v
        obtain ⟨x, hx, ex⟩ := Option.map_eq_some_iff.mp v
        exact List.mem_map.mpr ⟨x, List.mem_of_find?_eq_some hx, ex⟩
      exact .cons (h.other (fun e => b1 (show p.2 ∈ _ by rw [e]; exact mem)) keep isl) (ent_more t a2 b2 v keep isl app ta)
def Rl.k3 (r : Rl) : List Key := [.inl r.st, .inr r.sg, .inr r.tp]
def Rl.a5 (r : Rl) : List Key := [.inl r.af, .inl r.mv, .inr r.de, .inr r.sy, .inr r.sa]
def grps (rs : List Rl) : List Grp := rs.foldl (fun G r => gAdd G r.k3 r.a5) []
theorem grps_snoc (rs : List Rl) (r : Rl) : grps (rs ++ [r]) = gAdd (grps rs) r.k3 r.a5 := by
  unfold grps
  rw [List.foldl_append] <;> rfl
theorem grps_keys (rs : List Rl) : (grps rs).map (·.1) = Sx.once (rs.map Rl.k3) := by
  have gen : ∀ (l pre : List Rl), (grps pre).map (·.1) = Sx.once (pre.map Rl.k3) → (grps (pre ++ l)).map (·.1) = Sx.once ((pre ++ l).map Rl.k3) := by
    intro l
    induction l with
    | nil => intro pre h; simpa using h
    | cons r l ih =>
      intro pre h
      have e : pre ++ r :: l = (pre ++ [r]) ++ l := by simp
      rw [e]
      refine ih (pre ++ [r]) ?_
      rw [grps_snoc, gAdd_keys, h, List.map_append]
      exact (once_add (pre.map Rl.k3) r.k3).symm
  simpa using gen rs [] rfl
/-- the acts' table as it is kept -/
def EntT (H : Hp) (p : List Key × V) (q : Grp) : Prop := p.1 = q.1 ∧ ∃ (t : Addr) (as : List Addr), p.2 = .ref t ∧ H t = some (.tup (as.map V.ref)) ∧ Paired (TupAt H) as q.2
def ActsAt (H : Hp) (p : Addr) (G : List Grp) : Prop := ∃ kvs, H p = some (.dT kvs) ∧ Paired (EntT H) kvs G
theorem EntT.mono {H H' : Hp} {p : List Key × V} {q : Grp} (s : ∀ b xs, H b = some (.tup xs) → H' b = some (.tup xs)) (e : EntT H p q) : EntT H' p q := by
  obtain ⟨e1, t, as, e2, e3, e4⟩ := e
  exact ⟨e1, t, as, e2, s _ _ e3, Paired.mapP e4 fun a k t => s _ _ t⟩
theorem entT_keys {H : Hp} : ∀ {kvs : List (List Key × V)} {G : List Grp}, Paired (EntT H) kvs G → kvs.map (·.1) = G.map (·.1)
  | _, _, .nil => rfl
  | _, _, .cons h t => by rw [List.map_cons, List.map_cons, h.1, entT_keys t]
theorem ActsAt.mono {H H' : Hp} {p : Addr} {G : List Grp} (h : ActsAt H p G) (e : Same H H') : ActsAt H' p G := by
  obtain ⟨kvs, h1, h2⟩ := h
  exact ⟨kvs, e _ _ h1, Paired.mapP h2 fun a b z => z.mono fun c xs y => e _ _ y⟩
end Mk

set_option linter.all false
set_option maxRecDepth 100000
set_option maxHeartbeats 2000000
/-! the comprehensions over a walk -/
namespace Sx
open PySem PySem.Spec PyProof.Rows L2
section
variable {J : It} {n : Nat} {G : Hp → Prop} {Y : Nat → Hp → V → Hp → Prop}
theorem dt_it (wk : Walk J n G Y) {g : TG} {tt : TT} {tk tv : TE} {vs : List Nat} {σ : L2.St} {H1 : Hp} {D : Addr} {Qd : Hp → Prop} (Pv : Nat → Hp → Prop) (h0 : Pv 0 (upd H1 D (.dT []))) (hG : ∀ i H, i ≤ n → Pv i H → G H)
    (hs : ∀ i x H H', i < n → Pv i H → Y i H x H' → g x (wipe σ vs) H' fun σ2 H2 => wipe σ2 vs = wipe σ vs ∧ tt σ2 H2 fun b H3 =>
      if b = true then tk σ2 H3 fun y H4 => tv σ2 H4 fun z H5 => ∃ (kvs : List (List Key × V)) (k : List Key) (p : Addr), y = .ref p ∧ H5 p = some (.tup (k.map kV)) ∧ H5 D = some (.dT kvs) ∧ kvs.length < sizeLine ∧ Pv (i + 1) (upd H5 D (.dT (putK kvs k z))) else Pv (i + 1) H3)
    (hd : ∀ H, Pv n H → Qd H) :
    ∃ W : Nat → Nat → Hp → Prop, (∃ m, W 0 m (upd H1 D (.dT []))) ∧ ∀ i m H, W i m H →
      (J.stop i H ∧ Qd H) ∨ (J.go i H ∧ ∃ Nx : Hp → Prop, (∀ H', Nx H' → ∃ m', m' < m ∧ W (i + 1) m' H') ∧ ∀ x H', J.yld i H x H' → g x (wipe σ vs) H' fun σ2 H2 => wipe σ2 vs = wipe σ vs ∧ tt σ2 H2 fun b H3 =>
        if b = true then tk σ2 H3 fun y H4 => tv σ2 H4 fun z H5 => ∃ (kvs : List (List Key × V)) (k : List Key) (p : Addr), y = .ref p ∧ H5 p = some (.tup (k.map kV)) ∧ H5 D = some (.dT kvs) ∧ kvs.length < sizeLine ∧ Nx (upd H5 D (.dT (putK kvs k z))) else Nx H3) := by
  refine ⟨fun i m H => m = n - i ∧ i ≤ n ∧ Pv i H, ⟨n, rfl, Nat.zero_le _, h0⟩, ?_⟩
  rintro i m H ⟨rfl, le, pv⟩
  have gH := hG i H le pv
  rcases Nat.lt_or_ge i n with lt | ge
  · exact .inr ⟨wk.goes i H lt gH, Pv (i + 1), fun H' q => ⟨n - (i + 1), by omega, rfl, lt, q⟩, fun x H' y => hs i x H H' lt pv (wk.yields i H x H' lt gH y)⟩
  · have e : i = n := by omega
    subst e
    exact .inl ⟨wk.stops H gH, hd H pv⟩
theorem sm_it {P : Program} {w : World} (wk : Walk J n G Y) {g : TG} {tt : TT} {te : TE} {vs : List Nat} {σ : L2.St} {H1 : Hp} {D : Addr} {Qd : Hp → Prop} (Pv : Nat → Hp → Prop) (h0 : Pv 0 (upd H1 D (MSetO P w D []))) (hG : ∀ i H, i ≤ n → Pv i H → G H)
    (hs : ∀ i x H H', i < n → Pv i H → Y i H x H' → g x (wipe σ vs) H' fun σ2 H2 => wipe σ2 vs = wipe σ vs ∧ tt σ2 H2 fun b H3 =>
      if b = true then te σ2 H3 fun y H4 => ∃ (x : Addr) (k : List Key) (L : Rows), y = .ref x ∧ H4 x = some (.tup (k.map kV)) ∧ H4 D = some (MSetO P w D L) ∧ TupsIn H4 L ∧ L.length + 1 ≤ 2000 ∧
        ∀ L2, (k ∈ L.map (·.2) → L2 = L) → (k ∉ L.map (·.2) → L2.Perm ((x, k) :: L)) → Pv (i + 1) (upd H4 D (MSetO P w D L2)) else Pv (i + 1) H3)
    (hd : ∀ H, Pv n H → Qd H) :
    ∃ W : Nat → Nat → Hp → Prop, (∃ m, W 0 m (upd H1 D (MSetO P w D []))) ∧ ∀ i m H, W i m H →
      (J.stop i H ∧ Qd H) ∨ (J.go i H ∧ ∃ Nx : Hp → Prop, (∀ H', Nx H' → ∃ m', m' < m ∧ W (i + 1) m' H') ∧ ∀ x H', J.yld i H x H' → g x (wipe σ vs) H' fun σ2 H2 => wipe σ2 vs = wipe σ vs ∧ tt σ2 H2 fun b H3 =>
        if b = true then te σ2 H3 fun y H4 => ∃ (x : Addr) (k : List Key) (L : Rows), y = .ref x ∧ H4 x = some (.tup (k.map kV)) ∧ H4 D = some (MSetO P w D L) ∧ TupsIn H4 L ∧ L.length + 1 ≤ 2000 ∧
          ∀ L2, (k ∈ L.map (·.2) → L2 = L) → (k ∉ L.map (·.2) → L2.Perm ((x, k) :: L)) → Nx (upd H4 D (MSetO P w D L2)) else Nx H3) := by
  refine ⟨fun i m H => m = n - i ∧ i ≤ n ∧ Pv i H, ⟨n, rfl, Nat.zero_le _, h0⟩, ?_⟩
  rintro i m H ⟨rfl, le, pv⟩
  have gH := hG i H le pv
  rcases Nat.lt_or_ge i n with lt | ge
  · exact .inr ⟨wk.goes i H lt gH, Pv (i + 1), fun H' q => ⟨n - (i + 1), by omega, rfl, lt, q⟩, fun x H' y => hs i x H H' lt pv (wk.yields i H x H' lt gH y)⟩
  · have e : i = n := by omega
    subst e
    exact .inl ⟨wk.stops H gH, hd H pv⟩
end
theorem paired_left {α β : Type} {F : α → β → Prop} : ∀ {l : List α} {m : List β}, Paired F l m → ∀ a ∈ l, ∃ b ∈ m, F a b
  | _, _, .nil, a, h => absurd h List.not_mem_nil
  | _, _, .cons r t, a, h => by
    rcases List.mem_cons.mp h with rfl | h
    · exact ⟨_, List.mem_cons_self, r⟩
    · obtain ⟨b, m, q⟩ := paired_left t a h
      exact ⟨b, List.mem_cons_of_mem _ m, q⟩
theorem paired_at {α β : Type} {F : α → β → Prop} : ∀ {l : List α} {m : List β} {i : Nat} {a : α}, Paired F l m → l[i]? = some a → ∃ b, m[i]? = some b ∧ F a b
  | _, _, _, _, .nil, e => by simp at e
  | _, _, 0, _, .cons r t, e => by simp at e; subst e; exact ⟨_, rfl, r⟩
  | _, _, i + 1, a, .cons r t, e => by
    obtain ⟨b, e1, e2⟩ := paired_at (i := i) (a := a) t (by simpa using e)
    exact ⟨b, by simpa using e1, e2⟩
theorem val_mem {κ : Type} [DecidableEq κ] {k : κ} {v : V} : ∀ {kvs : List (κ × V)}, (kvs.map (·.1)).Nodup → (k, v) ∈ kvs → valV kvs k = some v
  | [], _, m => absurd m List.not_mem_nil
  | p :: ps, nd, m => by
    obtain ⟨a, b⟩ := List.nodup_cons.mp nd
    rcases List.mem_cons.mp m with e | m
    · rw [← e]; exact valV_pos rfl
    · rw [valV_neg fun e => a (show p.1 ∈ _ by rw [e]; exact List.mem_map.mpr ⟨_, m, rfl⟩)]
      exact val_mem b m
end Sx

set_option Elab.async false
set_option maxRecDepth 100000
set_option maxHeartbeats 4000000
namespace Mk
open PySem L2 Pk
theorem Ent.keepL {H H' : Hp} {p : List Key × V} {q : Grp} (e : Ent H p q) (k1 : ∀ b xs, H b = some (.lst xs) → H' b = some (.lst xs)) (k2 : ∀ b xs, H b = some (.tup xs) → H' b = some (.tup xs)) : Ent H' p q := by
  obtain ⟨e1, la, as, e2, e3, e4⟩ := e
  exact ⟨e1, la, as, e2, k1 _ _ e3, Paired.mapP e4 fun a k t => k2 _ _ t⟩
theorem ent_get {H : Hp} {k : List Key} {v : V} : ∀ {kvs : List (List Key × V)} {G : List Grp}, Paired (Ent H) kvs G → valV kvs k = some v → ∃ (la : Addr) (as : List Addr) (g : Grp), v = .ref la ∧ H la = some (.lst (as.map V.ref)) ∧ (k, v) ∈ kvs ∧ g ∈ G ∧ as.length = g.2.length
  | _, _, .nil, e => by cases e
  | p :: ps, _, .cons h t, e => by
    by_cases c : p.1 = k
    · rw [valV_pos c] at e
      obtain ⟨_, la, as, e2, e3, e4⟩ := h
      have e' := Option.some.inj e
      exact ⟨la, as, _, by rw [← e', e2], e3, by rw [← e', ← c]; exact List.mem_cons_self, List.mem_cons_self, Paired.length e4⟩
    · rw [valV_neg c] at e
      obtain ⟨la, as, g, e2, e3, e4, e5, e6⟩ := ent_get t e
      exact ⟨la, as, g, e2, e3, List.mem_cons_of_mem _ e4, List.mem_cons_of_mem _ e5, e6⟩
theorem gAdd_len {G : List Grp} {k a : List Key} {n : Nat} (h : ∀ g ∈ G, g.2.length ≤ n) : ∀ g ∈ gAdd G k a, g.2.length ≤ n + 1 := by
  intro g m
  unfold gAdd at m
  split at m
  · obtain ⟨g0, m0, rfl⟩ := List.mem_map.mp m
    have z := h g0 m0
    split
    · rw [List.length_append]
      exact Nat.add_le_add_right z 1
    · omega
  · rcases List.mem_append.mp m with m | m
    · have z := h g m
      omega
    · rw [List.mem_singleton.mp m]
      exact Nat.le_add_left 1 n
theorem grps_len (rs : List Rl) : ∀ g ∈ grps rs, g.2.length ≤ rs.length := by
  have gen : ∀ (l pre : List Rl), (∀ g ∈ grps pre, g.2.length ≤ pre.length) → ∀ g ∈ grps (pre ++ l), g.2.length ≤ (pre ++ l).length := by
    intro l
    induction l with
    | nil => intro pre h; simpa using h
    | cons r l ih =>
      intro pre h
      have e : pre ++ r :: l = (pre ++ [r]) ++ l := by simp
      rw [e]
      refine ih (pre ++ [r]) ?_
      rw [grps_snoc, List.length_append]
      exact gAdd_len h
  exact gen rs [] fun g m => absurd m List.not_mem_nil
theorem put_none {κ : Type} [DecidableEq κ] {kvs : List (κ × V)} {k : κ} {v : V} (h : valV kvs k = none) : putK kvs k v = kvs ++ [(k, v)] := by
  unfold putK
  rw [if_neg]
  intro c
  rw [valV_any, h] at c
  cases c
def rTupOf (K : PySem.W.Frag) : List V → Hp → VK → Prop := fun xs H Q => ∃ p ys, xs = [V.ref p] ∧ ((SqL K H p ys ∧ ∀ l : Addr, H l = none → Q (V.ref l) (upd H l (HO.tup ys))) ∨ SqT K H p ys ∧ Q (V.ref p) H)
section
variable {P : Program} {w : World} {K : PySem.W.Frag} {mg : PySem.Str → Option Value} {base : Heap}
def spActs (K : PySem.W.Frag) : Sp := fun vs H Q _ => ∃ (a : Addr) (R : Kept), vs = [.ref a] ∧ SqT K H a (refsK R) ∧ KeptAt H R ∧ R.length ≤ 20000 ∧
  ∀ (H' : Hp) (p : Addr), Same H H' → H p = none → ActsAt H' p (grps (R.map (·.2))) → Q (.ref p) H'
abbrev nActs : List PySem.Str := ["rules", "found", "rule", "key"]
theorem scActs : FnScope nActs ["rules"] (defScope sActs) := ⟨rfl, rfl, rfl, by decide +kernel, rfl, by decide +kernel, by decide +kernel⟩
theorem at_refs {R : Kept} {i : Nat} {v : V} (e : (refsK R)[i]? = some v) : ∃ p, R[i]? = some p ∧ v = .ref p.1 := by
  unfold refsK at e
  rw [List.getElem?_map] at e
  obtain ⟨p, e1, e2⟩ := Option.map_eq_some_iff.mp e
  exact ⟨p, e1, e2.symm⟩
theorem ok_acts {f : Addr} {fd : FuncData} (F : Fun K "acts_by_key" "acts_by_key" sActs f fd) (T : TM mg) : FnOk P w K mg base CX0 1 f fd ["rules"] (spActs K) := by
  refine F.ok scActs (fun vs H Q E h => ?_) (fun cdv A outer s H vs Q E hr h => ?_)
  · obtain ⟨a, R, rfl, _⟩ := h
    rfl
  · obtain ⟨a, R, rfl, hS, hK, most, k⟩ := h
    have hu := hu_of hr
    have hu64 := hr.units
    refine ⟨_, pss_cons (ps_set (i := 1) scActs.nd rfl (Or.inr rfl) pe_dnewT)
      (pss_cons (ps_for PassesOwn.never rfl (pi_tup (pv 0)) (pg_name (i := 2) scActs.nd rfl (Or.inl rfl))
        (pss_one (ps_expr (pe_bm PySem.F.plainAttrs_list PySem.F.slot_list_append PySem.F.type_list_append mt_append (Sx.pe_setdT hu (pv 1) (pe_slice sl_tup (pv 2) po_none (po_some pe_int)) (pe_lst pa_nil) ⟨rfl, rfl, rfl, rfl⟩)
          (pa_cons (pe_slice sl_tup (pv 2) (po_some pe_int) po_none) pa_nil)))))
      (pss_one (ps_ret (pe_lock (Sx.pe_dt (own := [("key", 3)]) (g := gName 3) (tt := tYes) hu64 (by rfl) scActs.nd (pi_keys (pv 1))
        (blkOk_by (own := [("key", 3)]) (N := nActs) (sc := defScope sActs) (by decide +kernel))
        (fun _ _ _ _ _ => pg_name (i := 3) scActs.nd rfl (Or.inl rfl)) (fun _ _ _ _ _ => pts_nil) (fun _ _ _ _ _ => pv 3)
        (fun _ _ _ _ _ => pe_callTy (r := rTupOf K) call_tuple_of (by rfl) T.tuple PyProof.Rows.Boot.tuple (pa_cons (pe_dget hu (pv 1) (pv 3) fun _ _ => rfl) pa_nil))))))), ?_⟩
    intro D hD
    refine ⟨_, rfl, a, rfl, ⟨_, Same.tup (same_new hD) hS⟩, for_tup (K := K) (a := a) (xs := refsK R) (fun i σ H' => Same H H' ∧ ∃ (v : Option V) (kvs : List (List Key × V)), σ = [some (.ref a), some (.ref D), v, none] ∧ H' D = some (.dT kvs) ∧
        Paired (Ent H') kvs (grps ((R.take i).map (·.2))) ∧ (kvs.map (·.2)).Nodup ∧ ∀ p ∈ kvs, ∃ la, p.2 = .ref la ∧ H la = none)
      ⟨same_new hD, none, [], rfl, upd_same, .nil, List.nodup_nil, fun p m => absurd m List.not_mem_nil⟩ (fun i σ H' _ h => Same.tup h.1 hS) ?_ ?_⟩
    · rintro i x σ H2 hi ⟨s2, v, kvs, rfl, hD2, hE, nd2, news⟩
      obtain ⟨p, ep, rfl⟩ := at_refs hi
      have m := List.mem_of_getElem? ep
      refine ⟨_, rfl, D, rfl, .inr ⟨kvs, .inl hD2⟩, _, rfl, 3, rfl, p.1, p.2.vs, rfl, .inl (.inl (s2 _ _ (hK p m))), (show ¬ (HT.sIx 8 0 none = 0 ∧ HT.sIx 8 8 (some 3) = 8) by decide), fun q3 h3 => ?_⟩
      have cut3 : cutV p.2.vs none (some 3) = p.2.k3.map kV := rfl
      have cut5 : cutV p.2.vs (some 3) none = p.2.a5.map kV := rfl
      have c5 : ¬ (HT.sIx 8 0 (some 3) = 0 ∧ HT.sIx 8 8 none = 8) := by decide
      rw [cut3] at *
      have sA : Same H2 (upd H2 q3 (.tup (p.2.k3.map kV))) := same_new h3
      refine ⟨Nat.zero_le _, fun l0 h0 => ?_⟩
      have sB : Same H2 (upd (upd H2 q3 (.tup (p.2.k3.map kV))) l0 (.lst [])) := sA.trans (same_new h0)
      have n0 : H2 l0 = none := sA.free h0
      have lG : kvs.length ≤ 20000 := by
        have z := congrArg List.length (ent_keys hE)
        rw [grps_keys, List.length_map] at z
        have y := Sx.once_len (((R.take i).map (·.2)).map Rl.k3)
        rw [List.length_map, List.length_map, List.length_take] at y
        omega
      have few : ∀ {n : Nat}, n ≤ 40000 → n < sizeLine := fun h => Nat.lt_of_le_of_lt h (by decide)
      have next : grps ((R.take (i + 1)).map (·.2)) = gAdd (grps ((R.take i).map (·.2))) p.2.k3 p.2.a5 := by
        rw [take_at ep, List.map_append]
        exact grps_snoc _ _
      refine ⟨kvs, p.2.k3, q3, sB _ _ hD2, rfl, same_new h0 _ _ upd_same, few (by omega), fun v1 hv => ?_, fun hn => ?_⟩
      · obtain ⟨la, as, g, rfl, hla, mem, gm, gl⟩ := ent_get hE hv
        obtain ⟨la', e', nla⟩ := news _ mem
        cases e'
        have inG : p.2.k3 ∈ (grps ((R.take i).map (·.2))).map (·.1) := by
          rw [← ent_keys hE]
          exact valV_in hv
        refine ⟨.inl ⟨rfl, _, .inl (.inl (sB _ _ hla))⟩, _, rfl, 3, rfl, p.1, p.2.vs, rfl, .inl (.inl (sB _ _ (s2 _ _ (hK p m)))), c5, fun q5 h5 => ?_⟩
        have sC := sB.trans (same_new (o := .tup (cutV p.2.vs (some 3) none)) h5)
        have h5l : q5 ≠ la := fun e => by
          rw [e] at h5
          rw [sB _ _ hla] at h5
          cases h5
        have lA : as.length < sizeLine := by
          have z := grps_len _ g gm
          rw [List.length_map, List.length_take] at z
          exact few (by omega)
        refine ⟨la, _, _, rfl, rfl, sC _ _ hla, by rw [List.length_map]; exact lA, ?_⟩
        refine ⟨same_mut (s2.trans sC) nla, some (.ref p.1), kvs, rfl, ?_, ?_, nd2, news⟩
        · rw [upd_ne (ne_of hD2 hla (fun z => nomatch z))]
          exact sC _ _ hD2
        · rw [next]
          unfold gAdd
          rw [if_pos inG]
          refine ent_more (l := la) (q5 := q5) hE (by rw [ent_keys hE, grps_keys]; exact Sx.once_nodup _) nd2 hv (fun b o nb e => by rw [upd_ne nb]; exact sC _ _ e) (fun xs z => by rw [hla] at z; cases z) (fun bs z => ?_) ?_
          · rw [hla] at z
            injection z with z
            injection z with z
            rw [upd_same, z, List.map_append] <;> rfl
          · show (upd _ _ _) q5 = _
            rw [upd_ne h5l, upd_same, cut5]
      · have notG : p.2.k3 ∉ (grps ((R.take i).map (·.2))).map (·.1) := by
          rw [← ent_keys hE]
          exact valV_not hn
        have qD : q3 ≠ D := fun e => by rw [e, hD2] at h3; cases h3
        have lD : l0 ≠ D := fun e => by rw [e, hD2] at n0; cases n0
        have lq : l0 ≠ q3 := fun e => by rw [e, upd_same] at h0; cases h0
        generalize hX : upd (upd (upd H2 q3 (.tup (p.2.k3.map kV))) l0 (.lst [])) D (.dT (putK kvs p.2.k3 (.ref l0))) = X2
        have xl0 : X2 l0 = some (.lst []) := by rw [← hX, upd_ne lD, upd_same]
        have xo : ∀ b o, b ≠ D → H2 b = some o → X2 b = some o := fun b o ne e => by
          rw [← hX, upd_ne ne]
          exact sB _ _ e
        have pD : p.1 ≠ D := fun e => by
          have z := s2 _ _ (hK p m)
          rw [e, hD2] at z
          cases z
        refine ⟨.inl ⟨rfl, _, .inl (.inl xl0)⟩, _, rfl, 3, rfl, p.1, p.2.vs, rfl, .inl (.inl (xo _ _ pD (s2 _ _ (hK p m)))), c5, fun q5 h5 => ?_⟩
        have q5l : q5 ≠ l0 := fun e => by rw [e, xl0] at h5; cases h5
        have q5D : q5 ≠ D := fun e => by
          rw [e, ← hX, upd_same] at h5
          cases h5
        have lq5 : l0 ≠ q5 := q5l.symm
        refine ⟨l0, _, _, rfl, rfl, by rw [upd_ne lq5]; exact xl0, few (by show 0 ≤ 40000; omega), ?_⟩
        have nl0 : H l0 = none := s2.free n0
        have sX : Same H X2 := by
          rw [← hX]
          exact same_mut (s2.trans sB) hD
        have fin : ∀ b o, b ≠ D → H2 b = some o → (upd (upd X2 q5 (.tup (cutV p.2.vs (some 3) none))) l0 (.lst ([] ++ [V.ref q5]))) b = some o := fun b o ne e => by
          rw [upd_ne (ne_of_none e n0), upd_ne (fun z => by rw [← z] at h5; rw [xo b o ne e] at h5; cases h5)]
          exact xo b o ne e
        refine ⟨same_mut (same_mut sX (sX.free h5)) nl0, some (.ref p.1), kvs ++ [(p.2.k3, .ref l0)], rfl, ?_, ?_, ?_, ?_⟩
        · rw [upd_ne lD.symm, upd_ne q5D.symm, ← hX, upd_same, put_none hn]
        · rw [next]
          unfold gAdd
          rw [if_neg notG]
          refine Paired.snoc (Paired.mapP hE fun x y z => z.keepL (fun b xs e => fin b _ (fun ed => by rw [ed, hD2] at e; cases e) e) fun b xs e => fin b _ (fun ed => by rw [ed, hD2] at e; cases e) e) ?_
          refine ⟨rfl, l0, [q5], rfl, upd_same, .cons ?_ .nil⟩
          show (upd _ _ _) q5 = _
          rw [upd_ne q5l, upd_same, cut5]
        · rw [List.map_append]
          refine (List.perm_append_singleton _ _).nodup_iff.mpr (List.nodup_cons.mpr ⟨fun mm => ?_, nd2⟩)
          obtain ⟨x, hx, ex⟩ := List.mem_map.mp mm
          obtain ⟨g, _, _, la, as, e1, e2, _⟩ := Sx.paired_left hE x hx
          have ex' : x.2 = V.ref l0 := ex
          rw [ex'] at e1
          injection e1 with e1
          rw [← e1, n0] at e2
          cases e2
        · intro x hx
          rcases List.mem_append.mp hx with hx | hx
          · exact news x hx
          · rw [List.mem_singleton.mp hx]
            exact ⟨l0, rfl, nl0⟩
    · rintro σ H2 ⟨s2, v, kvs, rfl, hD2, hE, nd2, news⟩
      have lR : (refsK R).length = R.length := List.length_map ..
      rw [lR, List.take_of_length_le (Nat.le_refl _)] at hE
      generalize hG : grps (R.map (·.2)) = G at hE
      have keysG : kvs.map (·.1) = G.map (·.1) := ent_keys hE
      have ndG : (G.map (·.1)).Nodup := by rw [← hG, grps_keys]; exact Sx.once_nodup _
      have lk : kvs.length = G.length := Paired.length hE
      have lG : G.length ≤ 20000 := by
        have y := Sx.once_len ((R.map (·.2)).map Rl.k3)
        rw [← grps_keys, hG, List.length_map, List.length_map, List.length_map] at y
        omega
      refine ⟨D, _, hD2, trivial, fun od => ?_⟩
      refine ⟨_, rfl, D, od, rfl, .inr ⟨kvs, upd_same, fun N hN => ?_⟩⟩
      have ND : N ≠ D := fun e => by rw [e, upd_same] at hN; cases hN
      have hN2 : H2 N = none := by rw [upd_ne ND] at hN; exact hN
      refine Sx.dt_it walk_keysT (fun i H' => H' D = some (.frz od (.dT kvs)) ∧ (∀ b o, b ≠ D → H2 b = some o → H' b = some o) ∧ ∃ kv', H' N = some (.dT kv') ∧ Paired (EntT H') kv' (G.take i))
        ⟨by rw [upd_ne ND.symm, upd_same], fun b o ne e => by rw [upd_ne (ne_of_none e hN2), upd_ne ne]; exact e, [], upd_same, .nil⟩ (fun i H' _ h => h.1) ?_ ?_
      · rintro i y H3 H4 hi ⟨hf, old, kv', hN3, hP⟩ ⟨rfl, c, u, q, ec, rfl, hq⟩
        obtain ⟨g, eg, hent⟩ := Sx.paired_at hE ec
        obtain ⟨e1, la, as, e2, e3, e4⟩ := hent
        have e1' : c = g.1 := e1
        have e2' : u = .ref la := e2
        subst e2'
        have mem := List.mem_of_getElem? ec
        have laD : la ≠ D := fun e => by rw [e, hD2] at e3; cases e3
        have vq : valV kvs c = some (.ref la) := Sx.val_mem (by rw [keysG]; exact ndG) mem
        refine ⟨rfl, ?_⟩
        refine ⟨_, rfl, _, rfl, _, rfl, D, _, rfl, .inr ⟨kvs, c, q, .inr ⟨od, hf⟩, rfl, hq, vq.symm⟩, la, _, rfl, .inl ⟨.inl (.inl (old _ _ laD e3)), fun t ht => ?_⟩⟩
        have tN : N ≠ t := fun e => by rw [← e, hN3] at ht; cases ht
        have qt : q ≠ t := fun e => by rw [← e, hq] at ht; cases ht
        have keys' : kv'.map (·.1) = (G.take i).map (·.1) := entT_keys hP
        have new : c ∉ kv'.map (·.1) := by
          rw [keys', e1', List.map_take]
          intro mm
          obtain ⟨j, hj, ej⟩ := List.getElem_of_mem mm
          rw [List.length_take] at hj
          rw [List.getElem_take] at ej
          have hi' : i < (G.map (·.1)).length := by rw [List.length_map]; exact (List.getElem?_eq_some_iff.mp eg).1
          have z : (G.map (·.1))[i] = g.1 := by
            rw [List.getElem_map]
            exact congrArg Prod.fst (List.getElem?_eq_some_iff.mp eg).2
          exact List.pairwise_iff_getElem.mp ndG j i (by omega) hi' (by omega) (by rw [ej, z])
        have pn : valV kv' c = none := by
          rcases z : valV kv' c with _ | z1
          · rfl
          · exact absurd (valV_in z) new
        have tups : ∀ b xs, H4 b = some (.tup xs) → (upd (upd H4 t (.tup (as.map V.ref))) N (.dT (putK kv' c (.ref t)))) b = some (.tup xs) := fun b xs e => by
          rw [upd_ne (ne_of e hN3 (fun z => nomatch z)), upd_ne (ne_of_none e ht)]
          exact e
        refine ⟨kv', c, q, rfl, by rw [upd_ne qt]; exact hq, by rw [upd_ne tN]; exact hN3, ?_, ?_, ?_, _, upd_same, ?_⟩
        · have z := Paired.length hP
          rw [List.length_take] at z
          exact Nat.lt_of_le_of_lt (show kv'.length ≤ 20000 by omega) (by decide)
        · have tD : D ≠ t := fun e => by rw [← e, hf] at ht; cases ht
          rw [upd_ne ND.symm, upd_ne tD]
          exact hf
        · intro b o ne e
          have z := old b o ne e
          rw [upd_ne (ne_of_none e hN2), upd_ne (ne_of_none z ht)]
          exact z
        · rw [put_none pn] at tups ⊢
          rw [take_at eg]
          refine Paired.snoc (Paired.mapP hP fun x y z => z.mono tups) ⟨e1', t, as, rfl, by rw [upd_ne tN.symm, upd_same], Paired.mapP e4 fun a k z => tups _ _ (old _ _ (fun ed => ?_) z)⟩
          have z' : H2 a = some (.tup (k.map kV)) := z
          rw [ed, hD2] at z'
          cases z'
      · rintro H3 ⟨hf, old, kv', hN3, hP⟩
        rw [lk, List.take_of_length_le (Nat.le_refl _)] at hP
        refine ⟨hf, k _ N (fun b o e => ?_) (s2.free hN2) ⟨kv', by rw [upd_ne ND]; exact hN3, ?_⟩⟩
        · have bD : b ≠ D := ne_of_none e hD
          rw [upd_ne bD]
          exact old b o bD (s2 b o e)
        · rw [hG]
          exact Paired.mapP hP fun x y z => z.mono fun b xs e => by
            rw [upd_ne (ne_of e hf (fun z => nomatch z))]
            exact e
end
end Mk

set_option Elab.async false
set_option maxRecDepth 100000
set_option maxHeartbeats 4000000
namespace Mk
open PySem L2 Pk
theorem upd_id {H : Hp} {a : Addr} {o : HO} (h : H a = some o) : upd H a o = H := by
  funext b
  by_cases e : b = a
  · rw [e, upd_same, h]
  · rw [upd_ne e]
def guessOf (G : List Grp) : Option (List Key) := (G.find? fun g => decide (1 < g.2.length)).map (·.1)
def GuessV (H : Hp) (v : V) : Option (List Key) → Prop
  | none => v = .non
  | some k => ∃ q, v = .ref q ∧ TupAt H q k
theorem find_at {α : Type} {p : α → Bool} : ∀ {l : List α} {i : Nat} {x : α}, l[i]? = some x → p x = true → (∀ y ∈ l.take i, p y = false) → l.find? p = some x
  | [], i, x, e, _, _ => by simp at e
  | y :: l, 0, x, e, h, _ => by
    simp at e
    subst e
    rw [List.find?_cons_of_pos h]
  | y :: l, i + 1, x, e, h, b => by
    have n : p y = false := b y (by rw [List.take_succ_cons]; exact List.mem_cons_self)
    rw [List.find?_cons_of_neg (by rw [n]; decide)]
    exact find_at (by simpa using e) h fun z m => b z (by rw [List.take_succ_cons]; exact List.mem_cons_of_mem _ m)
section
variable {P : Program} {w : World} {K : PySem.W.Frag} {mg : PySem.Str → Option Value} {base : Heap}
def spGuess : Sp := fun vs H Q _ => ∃ (d : Addr) (G : List Grp), vs = [.ref d] ∧ ActsAt H d G ∧ (G.map (·.1)).Nodup ∧ (∀ g ∈ G, g.2.length ≤ 20000) ∧ ∀ v, GuessV H v (guessOf G) → Q v H
theorem scGuess : FnScope ["acts", "key"] ["acts"] (defScope sGuess) := ⟨rfl, rfl, rfl, by decide +kernel, rfl, by decide +kernel, by decide +kernel⟩
theorem ok_guess {f : Addr} {fd : FuncData} (F : Fun K "first_guess" "first_guess" sGuess f fd) (T : TM mg) : FnOk P w K mg base CX0 1 f fd ["acts"] spGuess := by
  refine F.ok scGuess (fun vs H Q E h => ?_) (fun cdv A outer s H vs Q E hr h => ?_)
  · obtain ⟨a, G, rfl, _⟩ := h
    rfl
  · obtain ⟨d, G, rfl, ⟨kvs, hd, hP⟩, nd, few, k⟩ := h
    have hu := hu_of hr
    refine ⟨_, pss_cons (ps_lock (ps_for PassesOwn.never rfl (pi_keys (pv 0)) (pg_name (i := 1) scGuess.nd rfl (Or.inl rfl))
        (pss_one (ps_if (pt_cmpR op_gt (pe_callB call_len_seq (by rfl) T.len PySem.boot_len (pa_cons (pe_dget hu (pv 0) (pv 1) fun _ _ => rfl) pa_nil)) pe_int (nomark _)) (pss_one (ps_ret (pv 1))) pss_nil))))
      (pss_one (ps_ret pe_non)), ?_⟩
    have back : ∀ od, upd (upd H d (.frz od (.dT kvs))) d (.dT kvs) = H := fun od => by rw [upd_upd, upd_id hd]
    have keysG : kvs.map (·.1) = G.map (·.1) := entT_keys hP
    refine ⟨d, _, hd, trivial, fun od => ?_⟩
    refine ⟨_, rfl, d, od, rfl, .inr ⟨kvs, upd_same, for_it walk_keysT (fun i σ H' => H' = upd H d (.frz od (.dT kvs)) ∧ (∃ v : Option V, σ = [some (.ref d), v]) ∧ ∀ g ∈ G.take i, decide (1 < g.2.length) = false)
      ⟨rfl, ⟨none, rfl⟩, fun g m => absurd m (by simp)⟩ (fun i σ H' _ h => by rw [h.1, upd_same]) ?_ ?_⟩⟩
    · rintro i y σ H3 H4 hi ⟨rfl, ⟨v, rfl⟩, before⟩ ⟨rfl, c, u, q, ec, rfl, hq⟩
      obtain ⟨g, eg, e1, t, as, e2, e3, e4⟩ := Sx.paired_at hP ec
      have e1' : c = g.1 := e1
      have e2' : u = .ref t := e2
      subst e2'
      have mem := List.mem_of_getElem? ec
      have gm := List.mem_of_getElem? eg
      have vq : valV kvs c = some (.ref t) := Sx.val_mem (by rw [keysG]; exact nd) mem
      have td : t ≠ d := fun e => by rw [e, hd] at e3; cases e3
      have la : as.length = g.2.length := Paired.length e4
      refine ⟨_, rfl, _, rfl, d, _, rfl, .inr ⟨kvs, c, q, .inr ⟨od, upd_same⟩, rfl, hq, vq.symm⟩, t, _, rfl, .inr (.inl (.inl (by rw [upd_ne td]; exact e3))), _, _, rfl, rfl, _, rfl, ?_⟩
      rw [List.length_map, la]
      refine ite2 (fun big => ?_) (fun small => ?_)
      · have big' : 1 < g.2.length := by
          have z := of_decide_eq_true big
          omega
        refine ⟨_, rfl, upd_same, ?_⟩
        rw [back]
        refine k _ ?_
        have ff : G.find? (fun g => decide (1 < g.2.length)) = some g := find_at eg (decide_eq_true big') before
        unfold guessOf
        rw [ff]
        have qd : q ≠ d := fun e => by
          rw [e, upd_same] at hq
          cases hq
        rw [upd_ne qd] at hq
        exact ⟨q, rfl, by show TupAt H q g.1; rw [← e1']; exact hq⟩
      · have small' : ¬ 1 < g.2.length := fun z => small (decide_eq_true (by omega))
        refine ⟨rfl, ⟨_, rfl⟩, fun x m => ?_⟩
        rw [take_at eg] at m
        rcases List.mem_append.mp m with m | m
        · exact before x m
        · rw [List.mem_singleton.mp m]
          exact decide_eq_false small'
    · rintro σ H3 ⟨rfl, ⟨v, rfl⟩, before⟩
      refine ⟨upd_same, ?_⟩
      show Q .non _
      rw [back]
      refine k _ ?_
      have lk : kvs.length = G.length := Paired.length hP
      rw [lk, List.take_of_length_le (Nat.le_refl _)] at before
      unfold guessOf
      rw [List.find?_eq_none.mpr fun g m z => by rw [before g m] at z; cases z]
      rfl
end
end Mk

set_option linter.all false
set_option maxRecDepth 100000
set_option maxHeartbeats 3200000
/-! set(ints), sorted(set of ints), more than 64 of them, too -/
namespace Sx
open PySem PySem.Spec PyProof.Rows L2
section
variable {P : Program} {w : World} {A : Around} {E : Value → Shared → Prop} {s : Shared}
abbrev bareSet (w : World) : Obj := { cls := .type "set", dict := none, data := .set #[] 0 (.fresh 0 0 (!w.params.followText "set-order")) }
theorem set_ints_list {l : Addr} {items : Array Value} (ns : List Int) {Q : Value → Shared → Prop} (hh : A.handled = none) (hl : s.heap.IsList l items) (hit : IntsAre items.toList ns) (hb : ns.length + 1 < scanBound)
    (h : ∀ (h' : Heap) (tk c : Nat), SetR w h' s.heap.objs.size (fun j => decide (j ∈ ns)) c → c ≤ ns.length → (∀ b o, s.heap.get? b = some o → h'.get? b = some o) → Q (.ref s.heap.objs.size) { s with heap := h', toks := tk }) :
    wpAny (model P w) A (call (.type "set") [.ref l]) Q E s := by
  have isz : items.size = ns.length := by
    have q := IntsAre.length hit
    rwa [Array.length_toList] at q
  obtain ⟨c, tl, hmro⟩ := F.called_set.mro
  have hmade := F.called_set.made
  have hsub := F.called_set.sub
  refine wpAny_call (codeAny_of_tree ?_)
  show wpAny _ _ (callAny (.type "set") _) _ _ _
  refine wpAny_pure ⟨Code.quiet_builtin _ (by decide +kernel), codeAny_builtin F.entry_type_call ?_⟩
  rw [Around.under_plain (weight_type_call_type "set" [.ref l] []) rfl]
  have h1 := F.called_set.notType
  have h2 := F.called_set.canCreate
  have hct := F.typeCall_set_1 (.ref l)
  repeat (any_goals (first | assumption | wp_step))
  refine codeAny_mono (code_set_led1 (.ref l) (E := E) (Q₁ := fun obj s₁ => obj = .ref s.heap.objs.size ∧ s₁ = { s with heap := s.heap.push (bareSet w) }) ⟨rfl, rfl⟩) fun r s₁ hr => ?_
  rcases r with e | fl
  · exact hr
  · cases fl with
    | ret obj =>
      obtain ⟨rfl, rfl⟩ := hr
      have at_ : (s.heap.push (bareSet w)).get? s.heap.objs.size = some (bareSet w) := Heap.get?_push_size _ rfl
      have hT : Shared.TypeIs { s with heap := s.heap.push (bareSet w) } (.ref s.heap.objs.size) "set" := ⟨_, at_, rfl⟩
      have hli := F.called_set.init.lookup
      have hbi := F.called_set.init.bind (.ref s.heap.objs.size)
      repeat (any_goals (first | assumption | wp_step))
      refine codeAny_mono (codeAny_call_builtin (R := wants (fun r s₂ => r = .none ∧ ∃ h' tk c, s₂ = { s with heap := h', toks := tk } ∧ SetR w h' s.heap.objs.size (fun j => decide (j ∈ ns)) c ∧ c ≤ ns.length ∧
          (∀ b o, s.heap.get? b = some o → h'.get? b = some o)) E) F.called_set.init.plain F.entry_set_init (check_set_init_1 hT ?_)) fun r₂ s₂ hr₂ => ?_
      · obtain ⟨ol, hol, hcl, nl, hdl⟩ := hl
        obtain ⟨ocls, odict, odata, oslots⟩ := ol
        simp only at hcl hdl
        subst hcl; subst hdl
        have hol' : (s.heap.push (bareSet w)).get? l = some { cls := .type "list", dict := odict, data := .seq items nl, slots := oslots } := Heap.get?_push_of_some _ hol
        have hsls := F.sub_list_set
        have hslf := F.sub_list_frozenset
        have hne : (Value.type "list" == Value.type "dict") = false := by decide
        have hl1 : (s.heap.push (bareSet w)).IsList l items := ⟨_, hol', rfl, nl, rfl⟩
        unfold Builtin.«set.__init__» noKeywords Builtin.Frozenset.updateFrom
        generalize hPI : pyIter = PI
        wp_walk
        subst hPI
        refine wpAny_pyIter_list hl1 ?_
        refine wpAny_bind (wpAny_runValue ?_)
        have lt : l < s.heap.objs.size := Heap.lt_size hol
        have hh3 : A.in1.in1.in1.handled = none := by simp [hh]
        have neI : l ≠ (s.heap.push (bareSet w)).objs.size := by
          rw [Heap.size_push]; exact Nat.ne_of_lt (Nat.lt_succ_of_lt lt)
        have out : s.heap.objs.size ∉ [(s.heap.push (bareSet w)).objs.size, l] := by
          rw [Heap.size_push]; simp only [List.mem_cons, List.mem_singleton, List.not_mem_nil, or_false, not_or]
          exact ⟨Nat.ne_of_lt (Nat.lt_succ_self _), Nat.ne_of_gt lt⟩
        have hval : ∀ (i : Nat) (v : Value), items[i]? = some v → ∃ k t, ns[i]? = some k ∧ v = .int k t := fun i v hv => by
          have hi : i < ns.length := by rw [← isz]; exact (Array.getElem?_eq_some_iff.mp hv).1
          obtain ⟨t, e⟩ := PyProof.Rows.IntsAre.int_at hit i v (by rw [Array.getElem?_toList]; exact hv)
          refine ⟨ns[i], t, List.getElem?_eq_getElem hi, ?_⟩
          rw [e, List.getD_eq_getElem?_getD, List.getElem?_eq_getElem hi] <;> rfl
        refine set_update_ints ((Walks.list hh3 _ l neI items).toS) s.heap.objs.size out ns isz hb hval (items.size - 0) 0 _ (by omega) (Nat.zero_le _) ⟨⟨_, Heap.get?_push_size _ rfl, rfl, rfl⟩, (hl1.push _)⟩ ?_ ?_
        · have got : ((s.heap.push (bareSet w)).push { cls := .type "list_iterator", data := .fields #[.ref l, .int 0 0] }).get? s.heap.objs.size = some (bareSet w) := Heap.get?_push_of_some _ at_
          exact ⟨0, Nat.le_refl 0, setR_new_at got⟩
        · intro s' c' hm hc' hS'
          obtain ⟨h', g2, d', tk', os'⟩ := s'
          cases (show g2 = s.gens from hm.gens)
          cases (show d' = s.drawn from hm.drawn)
          cases (show os' = s.os from hm.os)
          show wpAny _ _ _ _ _ _
          refine wpAny_pure ?_
          show wpAny _ _ (ret Value.none) _ _ _
          rw [isz] at hc'
          refine wpAny_pure ⟨rfl, h', tk', c', rfl, hS', hc', fun b o e => ?_⟩
          have b0 : b < s.heap.objs.size := Heap.lt_size e
          refine hm.heap b o ?_ (Heap.get?_push_of_some _ (Heap.get?_push_of_some _ e))
          rw [Heap.size_push]
          simp only [List.mem_cons, List.mem_singleton, List.not_mem_nil, or_false, not_or]
          exact ⟨Nat.ne_of_lt b0, Nat.ne_of_lt (Nat.lt_succ_of_lt b0)⟩
      · rcases r₂ with e | fl₂
        · exact hr₂
        · cases fl₂ with
          | ret r =>
            obtain ⟨rfl, h', tk, c', rfl, hS', hc', hk'⟩ := hr₂
            repeat (any_goals (first | assumption | wp_step))
            exact h _ _ _ hS' hc' hk'
          | _ => exact hr₂.elim
    | _ => exact hr.elim
theorem sorted_ints {a : Addr} {S : Int → Bool} {n : Nat} {Q : Value → Shared → Prop} (R : SetR w s.heap a S n) (hh : A.handled = none)
    (hQ : ∀ s' p (out : List Value) (c : Nat) (ns : List Int), (∀ b o, s.heap.get? b = some o → s'.heap.get? b = some o) → s'.gens = s.gens → s'.os = s.os → s.heap.objs.size ≤ p →
      s'.heap.get? p = some (seqObj "list" out.toArray c) → IntsAre out ns → ns.Pairwise (· < ·) → (∀ k, k ∈ ns ↔ S k = true) → ns.length = n → Q (.ref p) s') :
    wpAny (model P w) A (call (.builtin "sorted") [.ref a]) Q E s := by
  obtain ⟨o, es, ep, t, ho, hex, hd, g, nd, hm, hb, hf, hn, hr, hl⟩ := R
  refine Calls.call_function_entry kind_sorted plain_sorted entry_sorted (args_sorted1 _) ?_
  unfold Builtin.«sorted»
  refine wpAny_bind (m := checkCount "sorted" 1 1 _) (wpAny_pure ?_)
  refine wpAny_bind (collect_set (A := A.in1) hh ⟨o, ho, hex.1, hd⟩ hf hb hr hl fun s1 vs k1 hz g1 o1 pm => ?_)
  have lv : vs.length = n := by rw [pm.length_eq, List.length_map, Array.length_toList]; exact hn
  have hI : IntsAre vs (vs.map SrtO.iv) := SrtO.ints_iv fun v hv => by
    obtain ⟨e, he, q⟩ := List.mem_map.mp (pm.mem_iff.mp hv)
    obtain ⟨k, tk, h1, _⟩ := g e he
    exact ⟨k, tk, by rw [← q]; exact h1⟩
  have keys : es.toList.map (fun e => SrtO.iv e.2) = es.toList.map keyOf := List.map_congr_left fun e he => by
    obtain ⟨k, tk, h1, _⟩ := g e he
    have z : keyOf e = Builtin.Re.reRawOf e.2 := rfl
    rw [z, h1] <;> rfl
  have pk : (vs.map SrtO.iv).Perm (es.toList.map keyOf) := by
    have q := pm.map SrtO.iv
    rw [List.map_map] at q
    rw [← keys]
    exact q
  have zz : vs.length ≤ sizeLine := by rw [lv, ← hn, sizeLine_eq]; unfold scanBound at hb; omega
  refine wpAny_bind (wpAny_newList ?_ zz)
  have hoL : (s1.heap.push (seqObj "list" vs.toArray 0)).get? s1.heap.objs.size = some (seqObj "list" vs.toArray 0) := Heap.get?_push_size _ rfl
  refine wpAny_bind (wpAny_holding (wpAny_call_entry PyProof.Rows.slot_list_sort ⟨_, hoL, rfl⟩ PyProof.Rows.entry_list_sort
    (SrtO.list_sort_ord (s := { s1 with heap := s1.heap.push (seqObj "list" vs.toArray 0) }) SrtO.swo_int hoL zz (fun h2 => SrtO.ints_sortable hI h2) fun out h1 h2 => ⟨_, rfl, ?_⟩) (PyProof.Rows.args_list_sort _)))
  obtain ⟨a1, a2, a3⟩ := SrtO.ints_out hI h1 h2
  obtain ⟨c, hc⟩ := PyProof.Rows.sortedHeap_at (vs := vs) (out := out.toArray) hoL
  have pn : (out.map SrtO.iv).Perm (es.toList.map keyOf) := a2.trans pk
  refine wpAny_pure ⟨_, rfl, hQ _ s1.heap.objs.size out c _ (fun b u e => ?_) g1 o1 hz hc a1 (lt_of_le_nodup _ a3 (pn.nodup_iff.mpr nd)) (fun k => by rw [pn.mem_iff, ← hm k]) ?_⟩
  · have lt := Heap.lt_size (k1 b u e)
    show (sortedHeap (s1.heap.push (seqObj "list" vs.toArray 0)) s1.heap.objs.size vs _).get? b = some u
    rw [sortedHeap_old (Nat.ne_of_lt lt) (by rw [size_push']; exact Nat.lt_succ_of_lt lt)]
    exact Heap.get?_push_of_some _ (k1 b u e)
  · rw [pn.length_eq, List.length_map, Array.length_toList]; exact hn
end
section
variable {X : Cx}
/-- set(ints), of a list or a tuple -/
def rSetI (K : PySem.W.Frag) (w : World) : List V → Hp → VK → Prop := fun xs H Q => ∃ (l : Addr) (ns : List Int), xs = [V.ref l] ∧ (SqL K H l (ns.map V.int) ∨ SqT K H l (ns.map V.int)) ∧ ns.length < 4000 ∧
  ∀ (a : Addr) (n : Nat), n ≤ ns.length → H a = none → Q (.ref a) (upd H a (SetO w a (fun j => decide (j ∈ ns)) n))
theorem cr_setI (hc : X.calm = true) : CallR X (.type "set") (rSetI X.K X.w) := by
  intro pins s σ H xs us Q I r h
  obtain ⟨l, ns, rfl, hs, few, q⟩ := h
  rw [Vals.ref1 r]
  have hn : H s.heap.objs.size = none := I.hok.fresh (Nat.le_refl _)
  have fin : ∀ (h' : Heap) (tk c : Nat), SetR X.w h' s.heap.objs.size (fun j => decide (j ∈ ns)) c → c ≤ ns.length → (∀ b o, s.heap.get? b = some o → h'.get? b = some o) →
      EP X pins σ Q (.ref s.heap.objs.size) { s with heap := h', toks := tk } := fun h' tk c R le k =>
    ⟨.ref _, _, I.laid (t' := tk) k (Nat.le_refl _) (setO_new R), rfl, q _ c le hn⟩
  rcases hs with hs | hs
  · obtain ⟨its, rv, hl, hz⟩ := I.list hs
    exact set_ints_list ns (I.ok.hd hc) hl.isList (by simpa using rv.ints) (by unfold scanBound; omega) fin
  · obtain ⟨its, rv, hl, hz⟩ := I.tuple hs
    exact call_set_tupI ns (I.ok.hd hc) hl (by simpa using rv.ints) (by unfold scanBound; omega) fin
/-- sorted(set of ints) -/
def rSortI (w : World) : List V → Hp → VK → Prop := fun vs H Q => ∃ (a : Addr) (S : Int → Bool) (n : Nat), vs = [V.ref a] ∧ H a = some (SetO w a S n) ∧ n ≤ 4096 ∧
  ∀ (ns : List Int) (p : Addr), ns.Pairwise (· < ·) → (∀ k : Int, k ∈ ns ↔ S k = true) → ns.length = n → H p = none → Q (.ref p) (upd H p (.lst (ns.map V.int)))
theorem cr_sortI (hc : X.calm = true) : CallR X (.builtin "sorted") (rSortI X.w) := by
  intro pins s σ H vs us Q I r h
  obtain ⟨a, S, n, rfl, ha, few, q⟩ := h
  rw [Vals.ref1 r]
  refine sorted_ints (setO_get I ha) (I.ok.hd hc) fun s' p out c ns k g o hp hg hi hs hm hl => ?_
  have hlen : (ns.map V.int).length ≤ sizeLine := by rw [List.length_map, hl, sizeLine_eq]; omega
  have hn : H p = none := I.hok.fresh hp
  have J : Inv X pins σ (upd H p (.lst (ns.map V.int))) { s with heap := s'.heap, gens := s'.gens, drawn := s'.drawn, toks := s'.toks } :=
    I.call (ch := []) (Un.laid k hp hn) (I.hok.laid k hp ⟨hlen, out, c, vals_of_ints hi, hg⟩) (by rw [g]; exact I.bare) (fun _ z => nomatch z)
  have e : s' = { s with heap := s'.heap, gens := s'.gens, drawn := s'.drawn, toks := s'.toks } := by
    cases s'; cases s; cases o; rfl
  rw [e]
  exact ⟨.ref p, _, J, rfl, q ns p hs hm hl hn⟩
end
end Sx

set_option Elab.async false
set_option maxRecDepth 100000
set_option maxHeartbeats 4000000
namespace Mk
open PySem L2 Pk
def Rl.key (r : Rl) : List Key := [.inl r.st, .inr r.sg, .inr r.tp, .inl r.af, .inl r.mv, .inr r.de, .inr r.sy, .inr r.sa]
theorem key_vs (r : Rl) : r.key.map kV = r.vs := rfl
def unkey : List Key → Rl
  | [.inl st, .inr sg, .inr tp, .inl af, .inl mv, .inr de, .inr sy, .inr sa] => ⟨st, sg, tp, af, mv, de, sy, sa⟩
  | _ => ⟨0, nil0, nil0, 0, 0, nil0, nil0, nil0⟩
theorem unkey_key (r : Rl) : unkey r.key = r := rfl
theorem key_inj {r q : Rl} (h : r.key = q.key) : r = q := by rw [← unkey_key r, h, unkey_key]
abbrev sh8 : List Bool := [false, false, true, true, false, false, false]
theorem shp_key (r : Rl) : Sx.shp r.key = true :: sh8 := rfl
def ltI (a b : Int) : Bool := decide (a < b)
theorem lin_int : Sx.Lin ltI where
  irr := fun x => decide_eq_false (Int.lt_irrefl x)
  tr := fun x y z h1 h2 => decide_eq_true (Int.lt_trans (of_decide_eq_true h1) (of_decide_eq_true h2))
  tot := fun x y ne => by
    rcases Int.lt_trichotomy x y with c | c | c
    · exact .inl (decide_eq_true c)
    · exact absurd c ne
    · exact .inr (decide_eq_true c)
/-- the rules, rising, each once -/
def rulesOf (rs : List Rl) : List Rl := (Sx.asc Sx.ltT (rs.map Rl.key)).map unkey
theorem rulesOf_keys (rs : List Rl) : (rulesOf rs).map Rl.key = Sx.asc Sx.ltT (rs.map Rl.key) := by
  unfold rulesOf
  rw [List.map_map]
  have e : ∀ k ∈ Sx.asc Sx.ltT (rs.map Rl.key), (Rl.key ∘ unkey) k = k := fun k m => by
    obtain ⟨r, _, rfl⟩ := List.mem_map.mp ((Sx.asc_mem Sx.ltT (rs.map Rl.key) k).mp m)
    rfl
  conv => rhs; rw [← List.map_id (Sx.asc Sx.ltT (rs.map Rl.key))]
  exact List.map_congr_left e
def intsOf (ys : List Int) : List Int := Sx.asc ltI ys
theorem ints_are {ns ys : List Int} (h : ns.Pairwise (· < ·)) (e : ∀ k, k ∈ ns ↔ k ∈ ys) : ns = intsOf ys :=
  lin_int.is_asc (h.imp fun lt => Int.ne_of_lt lt) (h.imp fun {x y} lt => decide_eq_false (by omega)) e
/-- a machine as it is kept -/
structure MachAt (K : PySem.W.Frag) (H : Hp) (C x : Addr) (l : PySem.Str) (n : Int) (rs : List Rl) (ys : List Int) : Prop where
  ex : ∃ (dx aR aY aS aA : Addr) (g : V) (R : Kept), H x = some (.ins C dx [("letters", .str l), ("states", .int n), ("rules", .ref aR), ("yes", .ref aY), ("symbols", .ref aS), ("_acts", .ref aA), ("guess", g)]) ∧
    H aR = some (.tup (refsK R)) ∧ KeptAt H R ∧ R.map (·.2) = rulesOf rs ∧ H aY = some (.tup ((intsOf ys).map V.int)) ∧ H aS = some (.tup ((symsOf (rulesOf rs)).map V.str)) ∧ ActsAt H aA (grps (rulesOf rs)) ∧ GuessV H g (guessOf (grps (rulesOf rs)))
theorem ltI_up {l : List Int} : True := trivial
abbrev sInit : Stmt := inClass (top 50) 0
abbrev nInit : List PySem.Str := ["self", "letters", "states", "rules", "yes", "rule"]
theorem scInit : FnScope nInit ["self", "letters", "states", "rules", "yes"] (defScope sInit) := ⟨rfl, rfl, rfl, by decide +kernel, rfl, by decide +kernel, by decide +kernel⟩
end Mk

set_option Elab.async false
set_option maxRecDepth 100000
set_option maxHeartbeats 4000000
namespace Mk
open PySem L2 Pk
/-- all but what stands at x is as it was -/
def Off (x : Addr) (H H' : Hp) : Prop := ∀ b o, b ≠ x → H b = some o → H' b = some o
theorem Off.refl (x : Addr) (H : Hp) : Off x H H := fun _ _ _ e => e
theorem Off.trans {x : Addr} {H H' H'' : Hp} (a : Off x H H') (b : Off x H' H'') : Off x H H'' := fun c o n e => b c o n (a c o n e)
theorem Off.same {x : Addr} {H H' : Hp} (s : Same H H') : Off x H H' := fun b o _ e => s b o e
theorem Off.put {x : Addr} {H : Hp} {o : HO} : Off x H (upd H x o) := fun b _ n e => by rw [upd_ne n]; exact e
theorem Off.new {x p : Addr} {H : Hp} {o : HO} (h : H p = none) : Off x H (upd H p o) := Off.same (same_new h)
def isIns : HO → Bool
  | .ins _ _ _ => true
  | _ => false
theorem off_ne {x b C dx : Addr} {H : Hp} {fs : List (PySem.Str × V)} {o : HO} (hx : H x = some (.ins C dx fs)) (hb : H b = some o) (n : isIns o = false) : b ≠ x := fun e => by
  rw [e, hx] at hb
  cases hb
  cases n
theorem SqB.off {b : Bool} {K : PySem.W.Frag} {H H' : Hp} {x a C dx : Addr} {fs : List (PySem.Str × V)} {xs : List V} (h : SqB b K H a xs) (hx : H x = some (.ins C dx fs)) (o : Off x H H') : SqB b K H' a xs := by
  cases b with
  | false =>
    rcases (show SqT K H a xs from h) with (h | ⟨ob, h⟩) | h
    · exact .inl (.inl (o _ _ (off_ne hx h rfl) h))
    · exact .inl (.inr ⟨ob, o _ _ (off_ne hx h rfl) h⟩)
    · exact .inr h
  | true =>
    rcases (show SqL K H a xs from h) with (h | ⟨ob, h⟩) | h
    · exact .inl (.inl (o _ _ (off_ne hx h rfl) h))
    · exact .inl (.inr ⟨ob, o _ _ (off_ne hx h rfl) h⟩)
    · exact .inr h
theorem KeptAt.off {H H' : Hp} {x C dx : Addr} {fs : List (PySem.Str × V)} {R : Kept} (h : KeptAt H R) (hx : H x = some (.ins C dx fs)) (o : Off x H H') : KeptAt H' R := fun p m => o _ _ (off_ne hx (h p m) rfl) (h p m)
theorem ActsAt.off {H H' : Hp} {x p C dx : Addr} {fs : List (PySem.Str × V)} {G : List Grp} (h : ActsAt H p G) (hx : H x = some (.ins C dx fs)) (o : Off x H H') : ActsAt H' p G := by
  obtain ⟨kvs, h1, h2⟩ := h
  exact ⟨kvs, o _ _ (off_ne hx h1 rfl) h1, Paired.mapP h2 fun a b z => z.mono fun c xs y => o _ _ (off_ne hx y rfl) y⟩
theorem GuessV.off {H H' : Hp} {x C dx : Addr} {fs : List (PySem.Str × V)} {v : V} {g : Option (List Key)} (h : GuessV H v g) (hx : H x = some (.ins C dx fs)) (o : Off x H H') : GuessV H' v g := by
  cases g with
  | none => exact h
  | some k =>
    obtain ⟨q, e, t⟩ := h
    exact ⟨q, e, o _ _ (off_ne hx t rfl) t⟩
/-- the class Machine -/
structure MCls (K : PySem.W.Frag) (C : Addr) : Prop where
  cls : Cls K C
  letters : NoAttr K C "letters"
  states : NoAttr K C "states"
  rules : NoAttr K C "rules"
  yes : NoAttr K C "yes"
  symbols : NoAttr K C "symbols"
  acts : NoAttr K C "_acts"
  guess : NoAttr K C "guess"
section
variable {P : Program} {w : World} {K : PySem.W.Frag} {mg : PySem.Str → Option Value} {base : Heap}
structure InitDefs (P : Program) (w : World) (K : PySem.W.Frag) (mg : PySem.Str → Option Value) (base : Heap) : Prop where
  check : Got P w K mg base "check_arguments" 5 ["letters", "states", "rules", "yes"] (spCheck K)
  symbols : Got P w K mg base "symbols_of" 1 ["rules"] (spSymbols K)
  acts : Got P w K mg base "acts_by_key" 1 ["rules"] (spActs K)
  guess : Got P w K mg base "first_guess" 1 ["acts"] spGuess
/-- what the arguments are, the tuples among the rules being such -/
structure Right (K : PySem.W.Frag) (H : Hp) (l : PySem.Str) (n : Int) (aR aY : Addr) (bR bY : Bool) (R : Hand) (ys : List Int) : Prop where
  args : ArgsOk K H l n aR aY bR bY R ys
  raw : ∀ p ∈ R, p.2.1 = false → H p.1 = some (.tup p.2.2.vs)
  few : R.length ≤ 1900
  fewY : ys.length < 4000
def rsOf (R : Hand) : List Rl := R.map fun p => p.2.2
def spInit (K : PySem.W.Frag) (C : Addr) : Sp := fun vs H Q _ => ∃ (x dx : Addr) (l : PySem.Str) (n : Int) (aR aY : Addr) (bR bY : Bool) (R : Hand) (ys : List Int), vs = [.ref x, .str l, .int n, .ref aR, .ref aY] ∧ H x = some (.ins C dx []) ∧ Right K H l n aR aY bR bY R ys ∧
  ∀ H', Off x H H' → MachAt K H' C x l n (rsOf R) ys → Q .non H'
theorem ok_init {f C : Addr} {fd : FuncData} {params : Arguments} {dvs : List V} {kws : List (PySem.Str × V)} (F : FunD K "__init__" "Machine.__init__" params (defBody sInit) (defScope sInit) dvs kws f fd) (T : TM mg) (G : InitDefs P w K mg base) (M : MCls K C) :
    FnOk P w K mg base CX0 6 f fd ["self", "letters", "states", "rules", "yes"] (spInit K C) := by
  refine F.ok scInit (fun vs H Q E h => ?_) (fun cdv A outer s H vs Q E hr h => ?_)
  · obtain ⟨x, dx, l, n, aR, aY, bR, bY, R, ys, rfl, _⟩ := h
    rfl
  · obtain ⟨x, dx, l, n, aR, aY, bR, bY, R, ys, rfl, hx, a, k⟩ := h
    have h1 := hr.mono (show 1 ≤ 5 by decide)
    have hu64 := hr.units
    refine ⟨_, pss_cons (ps_expr (pe_got G.check hr (by rfl) (pa_cons (pv 1) (pa_cons (pv 2) (pa_cons (pv 3) (pa_cons (pv 4) pa_nil))))))
      (pss_cons (ps_fld (pv 0) (pv 1) rfl)
      (pss_cons (ps_fld (pv 0) (pv 2) rfl)
      (pss_cons (ps_fld (pv 0) (pe_callTy call_tuple_of (by rfl) T.tuple PyProof.Rows.Boot.tuple (pa_cons (pe_callB (Sx.cr_sortMS rfl) (by rfl) T.sorted (by decide +kernel) (pa_cons (Sx.pe_sm (own := [("rule", 5)]) (g := gName 5) (tt := tYes) hu64 (by rfl) scInit.nd (pi_sq bR (pv 3))
          (blkOk_by (own := [("rule", 5)]) (N := nInit) (sc := defScope sInit) (by decide +kernel))
          (fun _ _ _ _ _ => pg_name (i := 5) scInit.nd rfl (Or.inl rfl)) (fun _ _ _ _ _ => pts_nil)
          (fun _ _ _ _ _ => pe_callTy (r := rTupOf K) call_tuple_of (by rfl) T.tuple PyProof.Rows.Boot.tuple (pa_cons (pv 5) pa_nil))) pa_nil)) pa_nil)) rfl)
      (pss_cons (ps_fld (pv 0) (pe_callTy call_tuple_of (by rfl) T.tuple PyProof.Rows.Boot.tuple (pa_cons (pe_callB (Sx.cr_sortI rfl) (by rfl) T.sorted (by decide +kernel) (pa_cons (pe_callTy (Sx.cr_setI rfl) (by rfl) T.set PyProof.Rows.Boot.set (pa_cons (pv 4) pa_nil)) pa_nil)) pa_nil)) rfl)
      (pss_cons (ps_fld (pv 0) (pe_got G.symbols h1 (by rfl) (pa_cons (pe_fld (pv 0) rfl) pa_nil)) rfl)
      (pss_cons (ps_fld (pv 0) (pe_got G.acts h1 (by rfl) (pa_cons (pe_fld (pv 0) rfl) pa_nil)) rfl)
      (pss_one (ps_fld (pv 0) (pe_got G.guess h1 (by rfl) (pa_cons (pe_fld (pv 0) rfl) pa_nil)) rfl)))))))), ?_⟩
    refine ⟨_, rfl, _, rfl, _, rfl, _, rfl, l, n, aR, aY, bR, bY, R, ys, rfl, a.args, fun H1 s1 => ?_⟩
    have hx1 := s1 _ _ hx
    refine ⟨_, rfl, _, rfl, x, C, dx, _, rfl, hx1, M.cls, M.letters, by decide, ?_⟩
    refine ⟨_, rfl, _, rfl, x, C, dx, _, rfl, upd_same, M.cls, M.states, (show 1 < 1000 by decide), ?_⟩
    have o3 : Off x H (upd (upd H1 x (.ins C dx [("letters", .str l)])) x (.ins C dx [("letters", .str l), ("states", .int n)])) := ((Off.same s1).trans Off.put).trans Off.put
    have hx3 : (upd (upd H1 x (.ins C dx [("letters", .str l)])) x (.ins C dx [("letters", .str l), ("states", .int n)])) x = some (.ins C dx [("letters", .str l), ("states", .int n)]) := upd_same
    show (tSeq _ _) _ _ (upd (upd H1 x (.ins C dx [("letters", .str l)])) x (.ins C dx [("letters", .str l), ("states", .int n)]))
    generalize upd (upd H1 x (.ins C dx [("letters", .str l)])) x (.ins C dx [("letters", .str l), ("states", .int n)]) = H3 at o3 hx3 ⊢
    have rs3 : SqB bR K H3 aR (refsH R) := a.args.rs.off hx o3
    have lR : (refsH R).length = R.length := List.length_map ..
    refine isq_of ⟨_, rfl, aR, rfl, ⟨_, rs3⟩, fun D hD => Sx.sm_it (walk_sq (b := bR) (K := K) (a := aR) (xs := refsH R)) (fun i H' => Same H3 H' ∧ ∃ L : Sx.Rows, H' D = some (Sx.MSetO P w D L) ∧ Sx.TupsIn H' L ∧ L.length ≤ i ∧
        (L.map (·.2)).Nodup ∧ ∀ c, c ∈ L.map (·.2) ↔ c ∈ (R.take i).map fun p => p.2.2.key)
      ⟨same_new hD, [], upd_same, fun p m => absurd m List.not_mem_nil, Nat.le_refl _, List.nodup_nil, fun c => by simp⟩ (fun i H' _ h => rs3.mono h.1) ?_ ?_⟩
    · rintro i y H4 H5 hi ⟨s4, L, hL, tL, lL, ndL, mL⟩ ⟨rfl, ey⟩
      rw [lR] at hi
      have hp : R[i]? = some R[i] := List.getElem?_eq_getElem hi
      have ey' : y = .ref R[i].1 := by
        unfold refsH at ey
        rw [List.getElem?_map, hp] at ey
        exact (Option.some.inj ey).symm
      subst ey'
      have m : R[i] ∈ R := List.getElem_mem hi
      have few := a.few
      have o4 : Off x H H5 := o3.trans (Off.same s4)
      have sq := (a.args.hand.at_ _ m).off hx o4
      -- the turn's end, the tuple at t
      have fin : ∀ (H6 : Hp) (t : Addr), Same H5 H6 → H6 t = some (.tup (R[i].2.2.key.map kV)) → ∃ (x : Addr) (k : List Key) (L : Sx.Rows), V.ref t = .ref x ∧ H6 x = some (.tup (k.map kV)) ∧ H6 D = some (Sx.MSetO P w D L) ∧ Sx.TupsIn H6 L ∧ L.length + 1 ≤ 2000 ∧
          ∀ L2 : Sx.Rows, (k ∈ L.map (·.2) → L2 = L) → (k ∉ L.map (·.2) → L2.Perm ((x, k) :: L)) → Same H3 (upd H6 D (Sx.MSetO P w D L2)) ∧ ∃ L' : Sx.Rows, (upd H6 D (Sx.MSetO P w D L2)) D = some (Sx.MSetO P w D L') ∧ Sx.TupsIn (upd H6 D (Sx.MSetO P w D L2)) L' ∧ L'.length ≤ i + 1 ∧
            (L'.map (·.2)).Nodup ∧ ∀ c, c ∈ L'.map (·.2) ↔ c ∈ (R.take (i + 1)).map fun p => p.2.2.key := fun H6 t s6 ht => by
        refine ⟨t, R[i].2.2.key, L, rfl, ht, s6 _ _ hL, fun p mp => s6 _ _ (tL p mp), by omega, fun L2 c1 c2 => ⟨same_mut (s4.trans s6) hD, L2, upd_same, ?_, ?_, ?_, ?_⟩⟩
        · intro p mp
          have tup : H6 p.1 = some (.tup (p.2.map kV)) := by
            rcases Classical.em (R[i].2.2.key ∈ L.map (·.2)) with c | c
            · rw [c1 c] at mp
              exact s6 _ _ (tL p mp)
            · rcases List.mem_cons.mp ((c2 c).mem_iff.mp mp) with e | mp
              · rw [e]; exact ht
              · exact s6 _ _ (tL p mp)
          rw [upd_ne (ne_of tup (s6 _ _ hL) (fun z => nomatch z))]
          exact tup
        · rcases Classical.em (R[i].2.2.key ∈ L.map (·.2)) with c | c
          · rw [c1 c]; omega
          · rw [(c2 c).length_eq, List.length_cons]; omega
        · rcases Classical.em (R[i].2.2.key ∈ L.map (·.2)) with c | c
          · rw [c1 c]; exact ndL
          · exact ((c2 c).map (·.2)).nodup_iff.mpr (List.nodup_cons.mpr ⟨c, ndL⟩)
        · intro c0
          rw [take_at hp, List.map_append, List.mem_append, ← mL c0]
          rcases Classical.em (R[i].2.2.key ∈ L.map (·.2)) with c | c
          · rw [c1 c]
            constructor
            · exact .inl
            · rintro (z | z)
              · exact z
              · rw [List.mem_singleton.mp z]; exact c
          · rw [((c2 c).map (·.2)).mem_iff, List.map_cons, List.mem_cons, List.map_cons, List.map_nil, List.mem_singleton]
            exact Or.comm
      refine ⟨rfl, ?_⟩
      refine ⟨_, rfl, R[i].1, R[i].2.2.vs, rfl, ?_⟩
      rcases eb : R[i].2.1 with _ | _
      · rw [eb] at sq
        exact .inr ⟨sq, fin H5 _ (fun _ _ z => z) (o4 _ _ (off_ne hx (a.raw _ m eb) rfl) (a.raw _ m eb))⟩
      · rw [eb] at sq
        exact .inl ⟨sq, fun t ht => fin _ t (same_new ht) upd_same⟩
    · rintro H4 ⟨s4, L, hL, tL, lL, ndL, mL⟩
      rw [lR, List.take_of_length_le (Nat.le_refl _)] at mL
      have keyOfRule : ∀ p ∈ L, ∃ r : Rl, p.2 = r.key := fun p mp => by
        obtain ⟨q, _, e⟩ := List.mem_map.mp ((mL p.2).mp (List.mem_map.mpr ⟨p, mp, rfl⟩))
        exact ⟨q.2.2, e.symm⟩
      refine ⟨D, L, true, sh8, rfl, hL, tL, fun p mp => by obtain ⟨r, e⟩ := keyOfRule p mp; rw [e]; exact shp_key r, fun L2 p5 pm nd2 up hp5 => ?_⟩
      refine ⟨p5, _, rfl, .inl ⟨SqL.of upd_same, fun q5 hq5 => ?_⟩⟩
      -- the kept rules
      have keys2 : L2.map (·.2) = (rulesOf (rsOf R)).map Rl.key := by
        rw [rulesOf_keys]
        refine Sx.lin_tup.is_asc nd2 (List.pairwise_map.mpr up) fun c => ?_
        rw [(pm.map (·.2)).mem_iff, mL c]
        unfold rsOf
        rw [List.map_map] <;> rfl
      have key2 : ∀ p ∈ L2, (unkey p.2).key = p.2 := fun p mp => by
        obtain ⟨r, e⟩ := keyOfRule p (pm.mem_iff.mp mp)
        rw [e, unkey_key]
      let K2 : Kept := L2.map fun p => (p.1, unkey p.2)
      have refs2 : refsK K2 = Sx.refsOf L2 := by
        show (L2.map _).map _ = L2.map _
        rw [List.map_map] <;> rfl
      have rules2 : K2.map (·.2) = rulesOf (rsOf R) := by
        have z := congrArg (List.map unkey) keys2
        rw [List.map_map, List.map_map] at z
        have e1 : (unkey ∘ Rl.key) = id := by funext r; rfl
        rw [e1, List.map_id] at z
        show (L2.map _).map _ = _
        rw [List.map_map]
        exact z
      have s6 : Same H3 (upd (upd H4 p5 (.lst (Sx.refsOf L2))) q5 (.tup (Sx.refsOf L2))) := (s4.trans (same_new hp5)).trans (same_new hq5)
      have kept6 : KeptAt (upd (upd H4 p5 (.lst (Sx.refsOf L2))) q5 (.tup (Sx.refsOf L2))) K2 := fun p mp => by
        obtain ⟨p0, m0, rfl⟩ := List.mem_map.mp mp
        have z := ((same_new hp5).trans (same_new (o := .tup (Sx.refsOf L2)) hq5)) _ _ (tL p0 (pm.mem_iff.mp m0))
        show _ = some (HO.tup ((unkey p0.2).vs))
        rw [← key_vs, key2 p0 m0]
        exact z
      have at6 : (upd (upd H4 p5 (.lst (Sx.refsOf L2))) q5 (.tup (Sx.refsOf L2))) q5 = some (.tup (refsK K2)) := by rw [upd_same, refs2]
      have most2 : (rulesOf (rsOf R)).length ≤ 20000 := by
        unfold rulesOf
        rw [List.length_map]
        refine Nat.le_trans (Sx.asc_len _ _) ?_
        rw [List.length_map]
        unfold rsOf
        rw [List.length_map]
        have := a.few
        omega
      have lK2 : K2.length ≤ 20000 := by
        have z := congrArg List.length rules2
        rw [List.length_map] at z
        omega
      generalize upd (upd H4 p5 (.lst (Sx.refsOf L2))) q5 (.tup (Sx.refsOf L2)) = H6 at s6 kept6 at6 ⊢
      clear_value K2
      have hx6 := s6 _ _ hx3
      refine ⟨_, rfl, x, C, dx, _, rfl, hx6, M.cls, M.rules, (show 2 < 1000 by decide), ?_⟩
      have o7 : Off x H6 (upd H6 x (.ins C dx [("letters", .str l), ("states", .int n), ("rules", .ref q5)])) := Off.put
      have hx7 : (upd H6 x (.ins C dx [("letters", .str l), ("states", .int n), ("rules", .ref q5)])) x = some (.ins C dx [("letters", .str l), ("states", .int n), ("rules", .ref q5)]) := upd_same
      show (tSeq _ _) _ _ (upd H6 x (.ins C dx [("letters", .str l), ("states", .int n), ("rules", .ref q5)]))
      generalize upd H6 x (.ins C dx [("letters", .str l), ("states", .int n), ("rules", .ref q5)]) = H7 at o7 hx7 ⊢
      have oH7 : Off x H H7 := (o3.trans (Off.same s6)).trans o7
      have kept7 := kept6.off hx6 o7
      have at7 := o7 _ _ (off_ne hx6 at6 rfl) at6
      have yes7 := a.args.yes.off hx oH7
      refine ⟨_, rfl, aY, ys, rfl, yes7.any, a.fewY, fun aS c le hn => ⟨aS, _, c, rfl, upd_same, by have := a.fewY; omega, fun ns p8 upn mem len hp8 => ?_⟩⟩
      refine ⟨p8, _, rfl, .inl ⟨SqL.of upd_same, fun q8 hq8 => ?_⟩⟩
      have ens : ns = intsOf ys := ints_are upn fun k => by rw [mem k, decide_eq_true_eq]
      subst ens
      have s8 : Same H7 (upd (upd (upd H7 aS (SetO w aS (fun j => decide (j ∈ ys)) c)) p8 (.lst ((intsOf ys).map V.int))) q8 (.tup ((intsOf ys).map V.int))) := ((same_new hn).trans (same_new hp8)).trans (same_new hq8)
      have at8 : (upd (upd (upd H7 aS (SetO w aS (fun j => decide (j ∈ ys)) c)) p8 (.lst ((intsOf ys).map V.int))) q8 (.tup ((intsOf ys).map V.int))) q8 = some (.tup ((intsOf ys).map V.int)) := upd_same
      show (tVar 0) _ (upd (upd (upd H7 aS (SetO w aS (fun j => decide (j ∈ ys)) c)) p8 (.lst ((intsOf ys).map V.int))) q8 (.tup ((intsOf ys).map V.int))) _
      generalize upd (upd (upd H7 aS (SetO w aS (fun j => decide (j ∈ ys)) c)) p8 (.lst ((intsOf ys).map V.int))) q8 (.tup ((intsOf ys).map V.int)) = H8 at s8 at8 ⊢
      have hx8 := s8 _ _ hx7
      refine ⟨_, rfl, x, C, dx, _, rfl, hx8, M.cls, M.yes, (show 3 < 1000 by decide), ?_⟩
      have o9 : Off x H8 (upd H8 x (.ins C dx [("letters", .str l), ("states", .int n), ("rules", .ref q5), ("yes", .ref q8)])) := Off.put
      have hx9 : (upd H8 x (.ins C dx [("letters", .str l), ("states", .int n), ("rules", .ref q5), ("yes", .ref q8)])) x = some (.ins C dx [("letters", .str l), ("states", .int n), ("rules", .ref q5), ("yes", .ref q8)]) := upd_same
      show (tSeq _ _) _ _ (upd H8 x (.ins C dx [("letters", .str l), ("states", .int n), ("rules", .ref q5), ("yes", .ref q8)]))
      generalize upd H8 x (.ins C dx [("letters", .str l), ("states", .int n), ("rules", .ref q5), ("yes", .ref q8)]) = H9 at o9 hx9 ⊢
      have o79 : Off x H7 H9 := (Off.same s8).trans o9
      have kept9 := kept7.off hx7 o79
      have at9 := o79 _ _ (off_ne hx7 at7 rfl) at7
      have atY9 := o9 _ _ (off_ne hx8 at8 rfl) at8
      -- symbols
      refine ⟨_, rfl, x, C, dx, _, .ref q5, rfl, hx9, M.cls, M.rules, rfl, q5, K2, rfl, .inl (.inl at9), kept9, lK2, fun H10 pS s10 hpS hS10 => ?_⟩
      have hx10 := s10 _ _ hx9
      refine ⟨_, rfl, x, C, dx, _, rfl, hx10, M.cls, M.symbols, (show 4 < 1000 by decide), ?_⟩
      have o11 : Off x H10 (upd H10 x (.ins C dx [("letters", .str l), ("states", .int n), ("rules", .ref q5), ("yes", .ref q8), ("symbols", .ref pS)])) := Off.put
      have hx11 : (upd H10 x (.ins C dx [("letters", .str l), ("states", .int n), ("rules", .ref q5), ("yes", .ref q8), ("symbols", .ref pS)])) x = some (.ins C dx [("letters", .str l), ("states", .int n), ("rules", .ref q5), ("yes", .ref q8), ("symbols", .ref pS)]) := upd_same
      show (tSeq _ _) _ _ (upd H10 x (.ins C dx [("letters", .str l), ("states", .int n), ("rules", .ref q5), ("yes", .ref q8), ("symbols", .ref pS)]))
      generalize upd H10 x (.ins C dx [("letters", .str l), ("states", .int n), ("rules", .ref q5), ("yes", .ref q8), ("symbols", .ref pS)]) = H11 at o11 hx11 ⊢
      have o911 : Off x H9 H11 := (Off.same s10).trans o11
      have kept11 := kept9.off hx9 o911
      have at11 := o911 _ _ (off_ne hx9 at9 rfl) at9
      have atY11 := o911 _ _ (off_ne hx9 atY9 rfl) atY9
      have atS11 := o11 _ _ (off_ne hx10 hS10 rfl) hS10
      -- acts
      refine ⟨_, rfl, x, C, dx, _, .ref q5, rfl, hx11, M.cls, M.rules, rfl, q5, K2, rfl, .inl (.inl at11), kept11, lK2, fun H12 pA s12 hpA hA12 => ?_⟩
      have hx12 := s12 _ _ hx11
      refine ⟨_, rfl, x, C, dx, _, rfl, hx12, M.cls, M.acts, (show 5 < 1000 by decide), ?_⟩
      have o13 : Off x H12 (upd H12 x (.ins C dx (putF "_acts" (.ref pA) [("letters", .str l), ("states", .int n), ("rules", .ref q5), ("yes", .ref q8), ("symbols", .ref pS)]))) := Off.put
      have hx13 : (upd H12 x (.ins C dx (putF "_acts" (.ref pA) [("letters", .str l), ("states", .int n), ("rules", .ref q5), ("yes", .ref q8), ("symbols", .ref pS)]))) x = some (.ins C dx [("letters", .str l), ("states", .int n), ("rules", .ref q5), ("yes", .ref q8), ("symbols", .ref pS), ("_acts", .ref pA)]) := upd_same
      generalize upd H12 x (.ins C dx (putF "_acts" (.ref pA) [("letters", .str l), ("states", .int n), ("rules", .ref q5), ("yes", .ref q8), ("symbols", .ref pS)])) = H13 at o13 hx13 ⊢
      have o1113 : Off x H11 H13 := (Off.same s12).trans o13
      have acts13 := hA12.off hx12 o13
      rw [rules2] at hS10 hA12 acts13 atS11
      -- guess
      refine ⟨_, rfl, x, C, dx, _, .ref pA, rfl, hx13, M.cls, M.acts, rfl, pA, _, rfl, acts13, by rw [grps_keys]; exact Sx.once_nodup _, fun g gm => Nat.le_trans (grps_len _ g gm) most2, fun gv hg => ?_⟩
      refine ⟨_, rfl, x, C, dx, _, rfl, hx13, M.cls, M.guess, (show 6 < 1000 by decide), ?_⟩
      have o14 : Off x H13 (upd H13 x (.ins C dx [("letters", .str l), ("states", .int n), ("rules", .ref q5), ("yes", .ref q8), ("symbols", .ref pS), ("_acts", .ref pA), ("guess", gv)])) := Off.put
      have o1114 := o1113.trans o14
      show Q .non (upd H13 x (.ins C dx [("letters", .str l), ("states", .int n), ("rules", .ref q5), ("yes", .ref q8), ("symbols", .ref pS), ("_acts", .ref pA), ("guess", gv)]))
      refine k _ ((oH7.trans o79).trans (o911.trans o1114)) ⟨dx, q5, q8, pS, pA, gv, K2, upd_same, ?_, kept11.off hx11 o1114, rules2, ?_, ?_, acts13.off hx13 o14, hg.off hx13 o14⟩
      · exact o1114 _ _ (off_ne hx11 at11 rfl) at11
      · exact o1114 _ _ (off_ne hx11 atY11 rfl) atY11
      · exact o1114 _ _ (off_ne hx11 atS11 rfl) atS11
end
end Mk

set_option Elab.async false
set_option maxRecDepth 100000
set_option maxHeartbeats 4000000
namespace Mk
open PySem L2 Pk
abbrev sWhole : Stmt := top 52
abbrev sSame : Stmt := top 53
abbrev sCell : Stmt := top 54
abbrev sDigits : Stmt := top 55
abbrev sAlpha : Stmt := top 56
abbrev sSyms : Stmt := top 57
abbrev sAct : Stmt := top 58
abbrev sCaller : Stmt := top 59
abbrev sScanner : Stmt := top 60
abbrev sRestorer : Stmt := top 61
abbrev sClimber : Stmt := top 62
abbrev sMachine : Stmt := top 63
abbrev sLettered : Stmt := top 64
abbrev sSymboled : Stmt := top 65
abbrev sText : Stmt := top 66
abbrev sSignAt : Stmt := top 67
abbrev sTable : Stmt := top 68
abbrev sTopOf : Stmt := top 69
abbrev sOnce : Stmt := top 71
abbrev sKnown : Stmt := top 72
abbrev sWalk : Stmt := top 70
abbrev sExc : Stmt := top 73
abbrev sRight : Stmt := top 74
abbrev sLaw : Stmt := top 75
section
variable {P : Program} {w : World} {K : PySem.W.Frag} {mg : PySem.Str → Option Value} {base : Heap}
/-! _law_cell: some int -/
theorem small100k {n : Nat} (h : n ≤ 100000) : n < sizeLine := Nat.lt_of_le_of_lt h (by decide)
def spCellA (K : PySem.W.Frag) : Sp := fun vs H Q _ => ∃ (l : Addr) (ns : List Int) (j : Nat), vs = [.ref l, .int (j : Int)] ∧ SqL K H l (ns.map V.int) ∧ ∀ z, Q (.int z) H
theorem scCell : FnScope ["script", "k", "seed", "cell"] ["script", "k"] (defScope sCell) := ⟨rfl, rfl, rfl, by decide +kernel, rfl, by decide +kernel, by decide +kernel⟩
theorem ok_cell {f : Addr} {fd : FuncData} (F : Fun K "_law_cell" "_law_cell" sCell f fd) (T : TM mg) : FnOk P w K mg base CX0 1 f fd ["script", "k"] (spCellA K) := by
  refine F.ok scCell (fun vs H Q E h => ?_) (fun cdv A outer s H vs Q E hr h => ?_)
  · obtain ⟨l, ns, j, rfl, _⟩ := h
    rfl
  · obtain ⟨l, ns, j, rfl, hS, k⟩ := h
    refine ⟨_, pss_cons (ps_if (pt_cmp (pc_lt (pv 1) (pe_callB call_len_seq (by rfl) T.len PySem.boot_len (pa_cons (pv 0) pa_nil)))) (pss_one (ps_ret (pe_ix ix_list (pv 0) (pv 1) fun _ _ => rfl))) pss_nil)
      (pss_cons (ps_set (i := 2) scCell.nd rfl (Or.inl rfl) pe_int)
      (pss_cons (ps_for PassesOwn.never rfl (pi_list (pv 0)) (pg_name (i := 3) scCell.nd rfl (Or.inl rfl))
        (pss_one (ps_set (i := 2) scCell.nd rfl (Or.inl rfl) (pe_op op_mod (pe_callTy call_int1 (by rfl) T.int PyProof.Rows.Boot.int (pa_cons (pe_op op_add (pe_op op_mul (pv 2) pe_int)
          (pe_op op_mod (pe_callTy call_int1 (by rfl) T.int PyProof.Rows.Boot.int (pa_cons (pv 3) pa_nil)) pe_int)) pa_nil)) pe_int))))
      (pss_one (ps_ret (pe_op op_mod (pe_callTy call_int1 (by rfl) T.int PyProof.Rows.Boot.int (pa_cons (pe_op op_mul (pe_op op_mul (pe_op op_add (pv 2) pe_int) (pe_op op_add (pv 1) pe_int)) pe_int) pa_nil)) pe_int))))), ?_⟩
    refine ⟨_, rfl, _, rfl, l, _, rfl, .inl hS, _, _, rfl, rfl, _, rfl, ?_⟩
    refine ite2 (fun c => ?_) (fun c => ?_)
    · have c' := of_decide_eq_true c
      rw [List.length_map] at c'
      have ej : (ns.map V.int)[j]? = some (V.int ns[j]) := by rw [List.getElem?_map, List.getElem?_eq_getElem (by omega)]; rfl
      exact ⟨_, rfl, _, rfl, l, _, _, _, rfl, rfl, hS, atI_nat ej, k _⟩
    · refine ⟨_, rfl, l, rfl, ⟨_, hS⟩, for_list (K := K) (a := l) (xs := ns.map V.int) (fun i σ H' => H' = H ∧ ∃ (z : Int) (v : Option V), σ = [some (.ref l), some (.int j), some (.int z), v] ∧ 0 ≤ z ∧ z < 1000003)
        ⟨rfl, 17, none, rfl, by decide, by decide⟩ (fun i σ H' _ h => by rw [h.1]; exact hS) ?_ ?_⟩
      · rintro i y σ H' hi ⟨rfl, z, v, rfl, hz0, hz1⟩
        obtain ⟨u, _, rfl⟩ := mapInt hi
        refine ⟨_, rfl, _, _, rfl, rfl, .inl (by omega), _, rfl, .inl ⟨_, rfl, _, _, rfl, rfl, (by show (0 : Int) < 1000003; decide), _, _, rfl, rfl, .inl ⟨_, rfl, _, _, rfl, rfl, (by show (0 : Int) < 1000003; decide), ?_⟩⟩⟩
        exact ⟨rfl, _, _, rfl, Int.emod_nonneg _ (by decide), Int.emod_lt_of_pos _ (by decide)⟩
      · rintro σ H' ⟨rfl, z, v, rfl, hz0, hz1⟩
        refine ⟨_, rfl, _, _, rfl, rfl, _, rfl, _, _, rfl, rfl, _, _, rfl, rfl, .inl (by omega), _, _, rfl, rfl, .inr (by decide), .inl ⟨_, rfl, _, _, rfl, rfl, (by show (0 : Int) < 2147483647; decide), ?_⟩⟩
        exact k _
end
end Mk

set_option Elab.async false
set_option maxRecDepth 100000
set_option maxHeartbeats 4000000
namespace Mk
open PySem L2 Pk
section
variable {P : Program} {w : World} {K : PySem.W.Frag} {mg : PySem.Str → Option Value} {base : Heap}
/-! _law_digits: so many digits, each below its size -/
def Digs (sizes row : List Int) : Prop := row.length = sizes.length ∧ ∀ (i : Nat) (s : Int), sizes[i]? = some s → ∃ d, row[i]? = some d ∧ 0 ≤ d ∧ d < s
def spDigits (K : PySem.W.Frag) : Sp := fun vs H Q _ => ∃ (c : Int) (l : Addr) (sizes : List Int), vs = [.int c, .ref l] ∧ SqL K H l (sizes.map V.int) ∧ sizes.length ≤ 10000 ∧ (∀ s ∈ sizes, 0 < s ∧ s < 2 ^ 200) ∧
  ∀ (row : List Int) (p : Addr) (H' : Hp), Digs sizes row → H p = none → Same H H' → H' p = some (.lst (row.map V.int)) → Q (.ref p) H'
theorem map_snoc (row : List Int) (d : Int) : row.map V.int ++ [V.int d] = (row ++ [d]).map V.int := by rw [List.map_append]; rfl
theorem digs_nil : Digs [] [] := ⟨rfl, fun i s e => by simp at e⟩
theorem take_succ_of {α : Type} {l : List α} {i : Nat} {x : α} (h : l[i]? = some x) : l.take (i + 1) = l.take i ++ [x] := by
  rw [List.take_add_one, h]
  rfl
theorem digs_snoc {sizes row : List Int} {i : Nat} {s d : Int} (h : Digs (sizes.take i) row) (e : sizes[i]? = some s) (h0 : 0 ≤ d) (h1 : d < s) : Digs (sizes.take (i + 1)) (row ++ [d]) := by
  rw [take_succ_of e]
  obtain ⟨hl, hd⟩ := h
  refine ⟨by rw [List.length_append, List.length_append, hl]; rfl, fun j t ej => ?_⟩
  by_cases c : j < (sizes.take i).length
  · rw [List.getElem?_append_left c] at ej
    obtain ⟨x, e1, e2⟩ := hd j t ej
    exact ⟨x, by rw [List.getElem?_append_left (by omega)]; exact e1, e2⟩
  · have cj : j = (sizes.take i).length := by
      have q := (List.getElem?_eq_some_iff.mp ej).1
      rw [List.length_append, List.length_singleton] at q
      omega
    rw [cj, List.getElem?_append_right (Nat.le_refl _), Nat.sub_self] at ej
    cases ej
    exact ⟨d, by rw [cj, List.getElem?_append_right (by omega), hl, Nat.sub_self]; rfl, h0, h1⟩
theorem scDigits : FnScope ["cell", "sizes", "row", "rest", "size", "seed", "k", "twice"] ["cell", "sizes"] (defScope sDigits) := ⟨rfl, rfl, rfl, by decide +kernel, rfl, by decide +kernel, by decide +kernel⟩
theorem ok_digits {f : Addr} {fd : FuncData} (F : Fun K "_law_digits" "_law_digits" sDigits f fd) (T : TM mg) : FnOk P w K mg base CX0 1 f fd ["cell", "sizes"] (spDigits K) := by
  refine F.ok scDigits (fun vs H Q E h => ?_) (fun cdv A outer s H vs Q E hr h => ?_)
  · obtain ⟨c, l, sizes, rfl, _⟩ := h
    rfl
  · obtain ⟨c, l, sizes, rfl, hS, hl, hz, k⟩ := h
    refine ⟨_, pss_cons (ps_set (i := 2) scDigits.nd rfl (Or.inl rfl) (pe_lst pa_nil))
      (pss_cons (ps_set (i := 3) scDigits.nd rfl (Or.inl rfl) (pe_callTy call_int1 (by rfl) T.int PyProof.Rows.Boot.int (pa_cons (pv 0) pa_nil)))
      (pss_cons (ps_if (pt_cmp (pc_ge (pv 3) (pe_op op_pow pe_int pe_int)))
        (pss_cons (ps_set (i := 3) scDigits.nd rfl (Or.inl rfl) (pe_op op_sub (pv 3) (pe_op op_pow pe_int pe_int)))
        (pss_cons (ps_for PassesOwn.never rfl (pi_list (pv 1)) (pg_name (i := 4) scDigits.nd rfl (Or.inl rfl))
          (pss_cons (ps_expr (pe_bm PySem.F.plainAttrs_list PySem.F.slot_list_append PySem.F.type_list_append mt_append (pv 2) (pa_cons (pe_op op_mod (pe_callTy call_int1 (by rfl) T.int PyProof.Rows.Boot.int (pa_cons (pv 3) pa_nil)) (pv 4)) pa_nil)))
          (pss_one (ps_set (i := 3) scDigits.nd rfl (Or.inl rfl) (pe_op op_fdivW (pe_callTy call_int1 (by rfl) T.int PyProof.Rows.Boot.int (pa_cons (pv 3) pa_nil)) (pv 4))))))
        (pss_one (ps_ret (pv 2))))) pss_nil)
      (pss_cons (ps_set (i := 5) scDigits.nd rfl (Or.inl rfl) (pe_op op_mod (pe_callTy call_int1 (by rfl) T.int PyProof.Rows.Boot.int (pa_cons (pv 3) pa_nil)) pe_int))
      (pss_cons (ps_for PassesOwn.never rfl (pi_range1 (by rfl) T.range (pa_cons (pe_callB call_len_seq (by rfl) T.len PySem.boot_len (pa_cons (pv 1) pa_nil)) pa_nil)) (pg_name (i := 6) scDigits.nd rfl (Or.inl rfl))
        (pss_cons (ps_set (i := 5) scDigits.nd rfl (Or.inl rfl) (pe_op op_mod (pe_callTy call_int1 (by rfl) T.int PyProof.Rows.Boot.int (pa_cons (pe_op op_add (pe_op op_add (pe_op op_mul (pv 5) pe_int) (pe_op op_mul pe_int (pv 6))) pe_int) pa_nil)) pe_int))
        (pss_cons (ps_set (i := 7) scDigits.nd rfl (Or.inl rfl) (pe_op op_mod (pe_callTy call_int1 (by rfl) T.int PyProof.Rows.Boot.int (pa_cons (pe_op op_mul (pv 5) (pe_op op_add (pe_op op_fdiv (pv 5) pe_int) pe_int)) pa_nil)) pe_int))
        (pss_one (ps_expr (pe_bm PySem.F.plainAttrs_list PySem.F.slot_list_append PySem.F.type_list_append mt_append (pv 2) (pa_cons (pe_op op_mod (pe_op op_fdiv (pv 7) pe_int) (pe_ix ix_list (pv 1) (pv 6) fun _ _ => rfl)) pa_nil)))))))
      (pss_one (ps_ret (pv 2))))))), ?_⟩
    refine ⟨Nat.zero_le _, fun p hp => ?_⟩
    have s0 : Same H (upd H p (.lst [])) := same_new hp
    refine ⟨_, rfl, .inl ⟨c, rfl, ?_⟩⟩
    refine ⟨_, rfl, _, _, rfl, rfl, ⟨by decide, by decide, by decide⟩, _, _, rfl, rfl, _, rfl, ?_⟩
    refine ite2 (fun cc => ?_) (fun cc => ?_)
    · refine ⟨_, rfl, _, _, rfl, rfl, ⟨by decide, by decide, by decide⟩, _, _, rfl, rfl, ?_⟩
      refine ⟨_, rfl, l, rfl, ⟨_, s0.seq hS⟩, for_list (K := K) (a := l) (xs := sizes.map V.int) (fun i σ H' => Same H H' ∧ ∃ (r : Int) (row : List Int) (v : Option V), σ = [some (.int c), some (.ref l), some (.ref p), some (.int r), v, none, none, none] ∧ H' p = some (.lst (row.map V.int)) ∧ Digs (sizes.take i) row)
        ⟨s0, _, [], none, rfl, upd_same, digs_nil⟩ (fun i σ H' _ h => h.1.seq hS) ?_ ?_⟩
      · rintro i y σ H' hi ⟨s1, r, row, v, rfl, hrow, dg⟩
        obtain ⟨u, eu, rfl⟩ := mapInt hi
        obtain ⟨u0, u1⟩ := hz u (List.mem_of_getElem? eu)
        have hi2 : i < sizes.length := (List.getElem?_eq_some_iff.mp eu).1
        have lr : row.length ≤ i := by rw [dg.1, List.length_take]; omega
        refine ⟨_, rfl, .inl ⟨rfl, _, SqL.of hrow⟩, _, rfl, .inl ⟨_, rfl, _, rfl, _, _, rfl, rfl, u0, p, _, _, rfl, rfl, hrow, ?_, ?_⟩⟩
        · rw [List.length_map]
          exact small100k (by omega)
        refine ⟨_, rfl, .inl ⟨_, rfl, _, rfl, _, _, rfl, rfl, ⟨u0, ?_⟩, ?_⟩⟩
        · exact (wide_div (i := r) (b := 200) u0 (by omega) (by decide) (by decide)).2
        refine ⟨same_mut s1 hp, _, row ++ [r % u], _, rfl, ?_, digs_snoc dg eu (Int.emod_nonneg _ (by omega)) (Int.emod_lt_of_pos _ u0)⟩
        rw [upd_same, List.map_append]
        rfl
      · rintro σ H' ⟨s1, r, row, v, rfl, hrow, dg⟩
        rw [List.length_map, List.take_length] at dg
        exact ⟨_, rfl, k row p H' dg hp s1 hrow⟩
    · refine ⟨_, rfl, .inl ⟨_, rfl, _, _, rfl, rfl, (by show (0 : Int) < 2147483629; decide), ?_⟩⟩
      refine ⟨_, rfl, l, _, rfl, .inl (s0.seq hS), ?_⟩
      rw [List.length_map]
      refine ⟨_, rfl, by omega, by omega, for_range (lo := 0) (n := ((sizes.length : Int)).toNat) (fun i σ H' => Same H H' ∧ ∃ (sd : Int) (row : List Int) (v v2 : Option V), σ = [some (.int c), some (.ref l), some (.ref p), some (.int c), none, some (.int sd), v, v2] ∧ 0 ≤ sd ∧ sd < 2 ^ 40 ∧ H' p = some (.lst (row.map V.int)) ∧ Digs (sizes.take i) row)
        ⟨s0, _, [], none, none, rfl, Int.emod_nonneg _ (by decide), Int.lt_trans (Int.emod_lt_of_pos _ (by decide)) (by decide), upd_same, digs_nil⟩ ?_ ?_⟩
      · rintro i σ H' hi ⟨s1, sd, row, v, v2, rfl, h0, h1, hrow, dg⟩
        have hi2 : i < sizes.length := by omega
        have eu : sizes[i]? = some sizes[i] := List.getElem?_eq_getElem hi2
        obtain ⟨u0, u1⟩ := hz _ (List.mem_of_getElem? eu)
        have lr : row.length ≤ i := by rw [dg.1, List.length_take]; omega
        have ei : (0 : Int) + (i : Int) = (i : Int) := by omega
        refine ⟨_, rfl, _, _, rfl, rfl, .inl (by omega), _, rfl, _, _, rfl, rfl, .inl (by decide), _, _, rfl, rfl, _, _, rfl, rfl, .inl ⟨_, rfl, _, _, rfl, rfl, (by show (0 : Int) < 2147483647; decide), ?_⟩⟩
        have b0 := Int.emod_nonneg (sd * 48271 + 974711 * (0 + (i : Int)) + 12345) (show (2147483647 : Int) ≠ 0 by decide)
        have b1 := Int.emod_lt_of_pos (sd * 48271 + 974711 * (0 + (i : Int)) + 12345) (show (0 : Int) < 2147483647 by decide)
        refine ⟨_, rfl, _, rfl, _, _, rfl, rfl, ⟨by decide, by decide⟩, _, _, rfl, rfl, _, _, rfl, rfl, .inl (by omega), .inl ⟨_, rfl, _, _, rfl, rfl, (by show (0 : Int) < 2147483629; decide), ?_⟩⟩
        refine ⟨_, rfl, .inl ⟨rfl, _, SqL.of hrow⟩, _, rfl, _, _, rfl, rfl, ⟨by decide, by decide⟩, _, rfl, _, rfl, l, _, (i : Int), _, rfl, by rw [ei], s1.seq hS, atI_nat (by rw [List.getElem?_map, eu]; rfl), _, _, rfl, rfl, u0, p, _, _, rfl, rfl, hrow, ?_, ?_⟩
        · rw [List.length_map]
          exact small100k (by omega)
        exact ⟨same_mut s1 hp, _, row ++ [_], _, _, rfl, b0, Int.lt_trans b1 (by decide), upd_same.trans (congrArg (fun l => some (HO.lst l)) (map_snoc row _)), digs_snoc dg eu (Int.emod_nonneg _ (by omega)) (Int.emod_lt_of_pos _ u0)⟩
      · rintro σ H' ⟨s1, sd, row, v, v2, rfl, h0, h1, hrow, dg⟩
        rw [Int.toNat_natCast, List.take_length] at dg
        exact ⟨_, rfl, k row p H' dg hp s1 hrow⟩
end
end Mk

set_option Elab.async false
set_option maxRecDepth 100000
set_option maxHeartbeats 4000000
namespace Mk
open PySem L2 Pk
section
variable {P : Program} {w : World} {K : PySem.W.Frag} {mg : PySem.Str → Option Value} {base : Heap}
/-! _law_whole -/
def spWhole : Sp := fun vs H Q _ => ∃ n : Int, vs = [.int n] ∧ Q (.bl true) H
theorem scWhole : FnScope ["value"] ["value"] (defScope sWhole) := ⟨rfl, rfl, rfl, by decide +kernel, rfl, by decide +kernel, by decide +kernel⟩
theorem ok_whole {f : Addr} {fd : FuncData} (F : Fun K "_law_whole" "_law_whole" sWhole f fd) (T : TM mg) : FnOk P w K mg base CX0 1 f fd ["value"] spWhole := by
  refine F.ok scWhole (fun vs H Q E h => ?_) (fun cdv A outer s H vs Q E hr h => ?_)
  · obtain ⟨n, rfl, _⟩ := h
    rfl
  · obtain ⟨n, rfl, k⟩ := h
    refine ⟨_, pss_one (ps_ret (pe_and (pe_callB call_isi (by rfl) T.isi (by decide +kernel) (pa_cons (pv 0) (pa_cons (pe_bltn (v := .ty "int") (by rfl) T.int PyProof.Rows.Boot.int rfl) pa_nil)))
      (pe_one (pe_not (pe_callB call_isi (by rfl) T.isi (by decide +kernel) (pa_cons (pv 0) (pa_cons (pe_bltn (v := .ty "bool") (by rfl) T.bool PyProof.Rows.Boot.bool rfl) pa_nil))))))), ?_⟩
    refine ⟨_, rfl, _, _, _, _, true, rfl, .ty _, .base (.int _), kit_ty (by decide +kernel), _, rfl, ?_⟩
    refine iteT ?_
    refine ⟨_, rfl, _, _, _, _, false, rfl, .ty _, .base (.int _), kit_ty (by decide +kernel), _, rfl, k⟩
/-! _law_same -/
def depthOk : Nat → PyData → Prop
  | _, .none => True
  | _, .bool _ => True
  | _, .int _ => True
  | _, .str _ => True
  | 0, .tuple _ => False
  | n + 1, .tuple ds => ds.length ≤ 100000 ∧ ∀ d ∈ ds, depthOk n d
  | _, .list _ => False
  | _, .dict _ => False
def spSame (K : PySem.W.Frag) (n : Nat) : Sp := fun vs H Q _ => ∃ (x y : V) (d : PyData), vs = [x, y] ∧ Dp K H x d ∧ Dp K H y d ∧ depthOk n d ∧ Q (.bl true) H
theorem scSame : FnScope ["told", "due", "k"] ["told", "due"] (defScope sSame) := ⟨rfl, rfl, rfl, by decide +kernel, rfl, by decide +kernel, by decide +kernel⟩
theorem tyx_tup {H : Hp} {a : Addr} {xs : List V} (h : SqT K H a xs) : TyX K H (.ref a) (.type "tuple") := by
  rcases h with (h | ⟨o, h⟩) | ⟨o, its, n, h, hc, _⟩
  · exact .base (.tup h)
  · exact .fTuple h
  · exact .kTuple h hc
theorem depthOk_list {n : Nat} {ds : List PyData} (h : depthOk n (.list ds)) : False := by cases n <;> exact h
theorem depthOk_dict {n : Nat} {ds : List (PyData × PyData)} (h : depthOk n (.dict ds)) : False := by cases n <;> exact h
def ifThen (s : Stmt) : List Stmt := match s with
  | .If _ b _ _ => b
  | _ => []
theorem same_of {f fW : Addr} {fd fdW : FuncData} (F : Fun K "_law_same" "_law_same" sSame f fd) (T : TM mg) (GW : FnOk P w K mg base CX0 1 fW fdW ["value"] spWhole) (kW : PySem.W.keepIn K (.ref fW) = true) (bW : Binds K fdW ["value"] []) (gW : mg "_law_whole" = some (.ref fW)) (n : Nat)
    (loop : ∀ (cdv : Value) (A : Around) (outer : List Env) (s : Shared) (H : Hp) (E : XK), Room (n + 1) (A.deeper (PyProof.Rows.envOfC "_law_same" (defScope sSame) s.heap.objs.size f cdv)) →
      ∃ tb : TS, PSs (cxOf CX0 P w K mg base ["told", "due", "k"] "_law_same" (defScope sSame) f cdv A outer s H E).nox (ifThen ((defBody sSame).getD 0 (.Pass ⟨0, 0, 0, 0⟩))) tb ∧
        ∀ (ds : List PyData) (D : Ends), depthOk n (.tuple ds) → ∀ (x y : V), Dp K H x (.tuple ds) → Dp K H y (.tuple ds) → D.rt (.bl true) H → tb D [some x, some y, none] H) :
    FnOk P w K mg base CX0 (n + 2) f fd ["told", "due"] (spSame K n) := by
  refine F.ok scSame (fun vs H Q E h => ?_) (fun cdv A outer s H vs Q E hr h => ?_)
  · obtain ⟨x, y, d, rfl, _⟩ := h
    rfl
  · obtain ⟨x, y, d, rfl, hx, hy, hd, k⟩ := h
    have hr1 : Room 1 _ := hr.mono (by omega)
    obtain ⟨tb, hb, hbt⟩ := loop cdv A outer s H E hr
    refine ⟨_, pss_cons (ps_if (pt_val (pe_callB call_isi (by rfl) T.isi (by decide +kernel) (pa_cons (pv 1) (pa_cons (pe_bltn (v := .ty "tuple") (by rfl) T.tuple PyProof.Rows.Boot.tuple rfl) pa_nil)))) hb pss_nil)
      (pss_cons (ps_if (pt_cmp (pc_isN (pv 1))) (pss_one (ps_ret (pe_cmp (pc_isN (pv 0)) rfl))) pss_nil)
      (pss_cons (ps_if (pt_val (pe_callB call_isi (by rfl) T.isi (by decide +kernel) (pa_cons (pv 1) (pa_cons (pe_bltn (v := .ty "bool") (by rfl) T.bool PyProof.Rows.Boot.bool rfl) pa_nil))))
        (pss_one (ps_ret (pe_and (pe_callB call_isi (by rfl) T.isi (by decide +kernel) (pa_cons (pv 0) (pa_cons (pe_bltn (v := .ty "bool") (by rfl) T.bool PyProof.Rows.Boot.bool rfl) pa_nil))) (pe_one (pe_cmpR op_eq (pv 0) (pv 1) (nomark _)))))) pss_nil)
      (pss_cons (ps_if (pt_val (pe_callB call_isi (by rfl) T.isi (by decide +kernel) (pa_cons (pv 1) (pa_cons (pe_bltn (v := .ty "int") (by rfl) T.int PyProof.Rows.Boot.int rfl) pa_nil))))
        (pss_one (ps_ret (pe_and (pe_call GW hr1 (by rfl) gW kW bW .nil pass0 (pa_cons (pv 0) pa_nil)) (pe_one (pe_cmpR op_eq (pv 0) (pv 1) (nomark _)))))) pss_nil)
      (pss_one (ps_ret (pe_and (pe_callB call_isi (by rfl) T.isi (by decide +kernel) (pa_cons (pv 0) (pa_cons (pe_bltn (v := .ty "str") (by rfl) T.str PyProof.Rows.Boot.str rfl) pa_nil))) (pe_one (pe_cmpR op_eq (pv 0) (pv 1) (nomark _))))))))), ?_⟩
    cases d with
    | none =>
      cases hx
      cases hy
      refine ⟨_, rfl, _, _, _, _, false, rfl, .ty _, .base .non, kit_ty (by decide +kernel), _, rfl, ?_⟩
      refine iteF ?_
      refine ⟨_, rfl, _, rfl, ?_⟩
      refine iteT ?_
      exact ⟨_, rfl, k⟩
    | bool b =>
      cases hx
      cases hy
      refine ⟨_, rfl, _, _, _, _, false, rfl, .ty _, .base (.bl _), kit_ty (by decide +kernel), _, rfl, ?_⟩
      refine iteF ?_
      refine ⟨_, rfl, _, rfl, ?_⟩
      refine iteF ?_
      refine ⟨_, rfl, _, _, _, _, true, rfl, .ty _, .base (.bl _), kit_ty (by decide +kernel), _, rfl, ?_⟩
      refine iteT ?_
      refine ⟨_, rfl, _, _, _, _, true, rfl, .ty _, .base (.bl _), kit_ty (by decide +kernel), _, rfl, ?_⟩
      refine iteT ?_
      refine ⟨_, rfl, _, rfl, rfl, ?_⟩
      rw [decide_eq_true rfl]
      exact k
    | int i =>
      cases hx
      cases hy
      refine ⟨_, rfl, _, _, _, _, false, rfl, .ty _, .base (.int _), kit_ty (by decide +kernel), _, rfl, ?_⟩
      refine iteF ?_
      refine ⟨_, rfl, _, rfl, ?_⟩
      refine iteF ?_
      refine ⟨_, rfl, _, _, _, _, false, rfl, .ty _, .base (.int _), kit_ty (by decide +kernel), _, rfl, ?_⟩
      refine iteF ?_
      refine ⟨_, rfl, _, _, _, _, true, rfl, .ty _, .base (.int _), kit_ty (by decide +kernel), _, rfl, ?_⟩
      refine iteT ?_
      refine ⟨_, rfl, _, rfl, _, rfl, ?_⟩
      refine iteT ?_
      refine ⟨_, rfl, _, rfl, rfl, ?_⟩
      rw [decide_eq_true rfl]
      exact k
    | str z =>
      cases hx
      cases hy
      refine ⟨_, rfl, _, _, _, _, false, rfl, .ty _, .base (.str _), kit_ty (by decide +kernel), _, rfl, ?_⟩
      refine iteF ?_
      refine ⟨_, rfl, _, rfl, ?_⟩
      refine iteF ?_
      refine ⟨_, rfl, _, _, _, _, false, rfl, .ty _, .base (.str _), kit_ty (by decide +kernel), _, rfl, ?_⟩
      refine iteF ?_
      refine ⟨_, rfl, _, _, _, _, false, rfl, .ty _, .base (.str _), kit_ty (by decide +kernel), _, rfl, ?_⟩
      refine iteF ?_
      refine ⟨_, rfl, _, _, _, _, true, rfl, .ty _, .base (.str _), kit_ty (by decide +kernel), _, rfl, ?_⟩
      refine iteT ?_
      refine ⟨_, rfl, _, rfl, rfl, ?_⟩
      rw [decide_eq_true rfl]
      exact k
    | list ds => exact (depthOk_list hd).elim
    | tuple ds =>
      have hx' := hx
      have hy' := hy
      cases hx with
      | tup hsx hax =>
        cases hy with
        | tup hsy hay =>
          refine ⟨_, rfl, _, _, _, _, true, rfl, .ty _, tyx_tup hsy, kit_ty (by decide +kernel), _, rfl, ?_⟩
          refine iteT ?_
          exact hbt ds _ hd _ _ hx' hy' k
    | dict ds => exact (depthOk_dict hd).elim
theorem ok_same {f fW : Addr} {fd fdW : FuncData} (F : Fun K "_law_same" "_law_same" sSame f fd) (T : TM mg) (FW : Fun K "_law_whole" "_law_whole" sWhole fW fdW) (bW : Binds K fdW ["value"] []) (gW : mg "_law_whole" = some (.ref fW))
    (bS : Binds K fd ["told", "due"] []) (gS : mg "_law_same" = some (.ref f)) : ∀ n : Nat, FnOk P w K mg base CX0 (n + 2) f fd ["told", "due"] (spSame K n) := by
  have GW : FnOk P w K mg base CX0 1 fW fdW ["value"] spWhole := ok_whole FW T
  intro n
  induction n with
  | zero => exact same_of F T GW FW.kp bW gW 0 fun cdv A outer s H E hr => ⟨_, pss_never, fun ds D hd => hd.elim⟩
  | succ n ih =>
    refine same_of F T GW FW.kp bW gW (n + 1) fun cdv A outer s H E hr => ?_
    refine ⟨_, pss_cons (ps_if (PW.pt (pw_or (pt_not (pt_val (pe_callB call_isi (by rfl) T.isi (by decide +kernel) (pa_cons (pv 0) (pa_cons (pe_bltn (v := .ty "tuple") (by rfl) T.tuple PyProof.Rows.Boot.tuple rfl) pa_nil)))))
        (pw_or1 (pt_cmpR op_ne (pe_callB call_len_seq (by rfl) T.len PySem.boot_len (pa_cons (pv 0) pa_nil)) (pe_callB call_len_seq (by rfl) T.len PySem.boot_len (pa_cons (pv 1) pa_nil)) (nomark _))))) (pss_one (ps_ret pe_bl)) pss_nil)
      (pss_cons (ps_for PassesOwn.never rfl (pi_range1 (by rfl) T.range (pa_cons (pe_callB call_len_seq (by rfl) T.len PySem.boot_len (pa_cons (pv 1) pa_nil)) pa_nil)) (pg_name (i := 2) scSame.nd rfl (Or.inl rfl))
        (pss_one (ps_if (pt_not (pt_val (pe_call ih hr (by rfl) gS F.kp bS .nil pass0 (pa_cons (pe_ix ix_seq (pv 0) (pv 2) fun _ _ => rfl) (pa_cons (pe_ix ix_seq (pv 1) (pv 2) fun _ _ => rfl) pa_nil))))) (pss_one (ps_ret pe_bl)) pss_nil)))
      (pss_one (ps_ret pe_bl))), fun ds D hd x y hx hy k => ?_⟩
    cases hx with
    | @tup a xs _ hsx hax =>
    cases hy with
    | @tup b ys _ hsy hay =>
    have lx := dpa_len hax
    have ly := dpa_len hay
    refine ⟨_, rfl, _, _, _, _, true, rfl, .ty _, tyx_tup hsx, kit_ty (by decide +kernel), _, rfl, ?_⟩
    refine iteF ?_
    refine ⟨_, rfl, a, xs, rfl, .inr hsx, _, rfl, b, ys, rfl, .inr hsy, rfl, _, rfl, ?_⟩
    refine iteNS (by rw [lx, ly]) ?_
    have hl : ys.length ≤ 100000 := by rw [ly]; exact hd.1
    refine ⟨_, rfl, b, ys, rfl, .inr hsy, _, rfl, by omega, by omega, for_range (lo := 0) (n := ((ys.length : Int)).toNat) (fun i σ H' => H' = H ∧ ∃ v : Option V, σ = [some (.ref a), some (.ref b), v])
      ⟨rfl, none, rfl⟩ ?_ ?_⟩
    · rintro i σ H' hi ⟨rfl, v, rfl⟩
      have hi' : i < ys.length := by omega
      have ex : xs[i]? = some xs[i] := List.getElem?_eq_getElem (by omega)
      have ey : ys[i]? = some ys[i] := List.getElem?_eq_getElem hi'
      obtain ⟨d1, e1, q1⟩ := dpa_get hax ex
      obtain ⟨d2, e2, q2⟩ := dpa_get hay ey
      rw [e1] at e2
      cases e2
      have ei : (0 : Int) + (i : Int) = (i : Int) := by omega
      refine ⟨_, rfl, _, rfl, .inr (.inl ⟨a, xs, (i : Int), _, rfl, by rw [ei], hsx, atI_nat ex, _, rfl, _, rfl, .inr (.inl ⟨b, ys, (i : Int), _, rfl, by rw [ei], hsy, atI_nat ey, ?_⟩)⟩)⟩
      refine ⟨_, _, d1, rfl, q1, q2, hd.2 d1 (List.mem_of_getElem? e1), _, rfl, ?_⟩
      refine iteF ?_
      exact ⟨rfl, _, rfl⟩
    · rintro σ H' ⟨rfl, v, rfl⟩
      exact k
end
end Mk

set_option Elab.async false
set_option maxRecDepth 100000
set_option maxHeartbeats 4000000
namespace Mk
open PySem L2 Pk
/-! texts of signs -/
abbrev sgn1 (c : Nat) : PySem.Str := ⟨#[c]⟩
theorem joinL_one : ∀ cs : List Nat, TL.joinL [] (cs.map fun c => [c]) = cs
  | [] => rfl
  | [c] => rfl
  | c :: d :: r => by
    show [c] ++ ([] ++ TL.joinL [] ((d :: r).map fun c => [c])) = c :: d :: r
    rw [joinL_one (d :: r)] <;> rfl
theorem join_signs (cs : List Nat) : Txt.join (PySem.Str.ofString "") (cs.map sgn1) = ⟨cs.toArray⟩ := by
  have e : cs.map sgn1 = (cs.map fun c => [c]).map SX.S := by
    rw [List.map_map]
    exact List.map_congr_left fun c _ => rfl
  have z : PySem.Str.ofString "" = SX.S [] := by decide +kernel
  rw [e, z, SX.join_S, joinL_one] <;> rfl
def abc (p : Nat → Bool) : List Nat := ((List.range 26).filter p).map (97 + ·)
theorem abc_low {p : Nat → Bool} {c : Nat} (h : c ∈ abc p) : 97 ≤ c ∧ c ≤ 122 := by
  obtain ⟨k, m, rfl⟩ := List.mem_map.mp h
  have z := List.mem_range.mp (List.mem_filter.mp m).1
  omega
theorem alpha_of {cs : List Nat} (low : ∀ c ∈ cs, 97 ≤ c ∧ c ≤ 122) (pos : 1 ≤ cs.length) (most : cs.length ≤ 26) (up : cs.Pairwise (· < ·)) : Alpha ⟨cs.toArray⟩ where
  low := by
    show cs.all lowC = true
    rw [List.all_eq_true]
    intro c m
    unfold lowC
    rw [decide_eq_true (low c m).1, decide_eq_true (low c m).2] <;> rfl
  pos := pos
  most := most
  up := fun i c d e1 e2 => by
    have e1' : cs[i]? = some c := e1
    have e2' : cs[i + 1]? = some d := e2
    obtain ⟨h1, rfl⟩ := List.getElem?_eq_some_iff.mp e1'
    obtain ⟨h2, rfl⟩ := List.getElem?_eq_some_iff.mp e2'
    exact List.pairwise_iff_getElem.mp up i (i + 1) h1 h2 (Nat.lt_succ_self i)
theorem alpha_abc {p : Nat → Bool} (h : ∃ k, k < 26 ∧ p k = true) : Alpha ⟨(abc p).toArray⟩ := by
  refine alpha_of (fun c m => abc_low m) ?_ ?_ ?_
  · obtain ⟨k, lt, e⟩ := h
    have m : k ∈ (List.range 26).filter p := List.mem_filter.mpr ⟨List.mem_range.mpr lt, e⟩
    unfold abc
    rw [List.length_map]
    exact List.length_pos_of_mem m
  · unfold abc
    rw [List.length_map]
    exact Nat.le_trans (List.length_filter_le _ _) (by rw [List.length_range]; exact Nat.le_refl _)
  · unfold abc
    rw [List.pairwise_map]
    exact (List.pairwise_lt_range (n := 26)).filter p |>.imp fun h => by omega
theorem alpha_one {c : Nat} (h : 97 ≤ c ∧ c ≤ 122) : Alpha (sgn1 c) := alpha_of (cs := [c]) (fun d m => by rw [List.mem_singleton.mp m]; exact h) (Nat.le_refl _) (show 1 ≤ 26 by decide) (List.pairwise_singleton _ _)
abbrev abc26 : PySem.Str := PySem.Str.ofString "abcdefghijklmnopqrstuvwxyz"
theorem abc26_eq : abc26 = ⟨(abc fun _ => true).toArray⟩ := by decide +kernel
theorem abc26_at {k : Nat} (h : k < 26) : abc26.cps.toList[k]? = some (97 + k) := by
  have all : ∀ k, k < 26 → abc26.cps.toList[k]? = some (97 + k) := by decide +kernel
  exact all k h
theorem abc_snoc (p : Nat → Bool) (i : Nat) : (((List.range (i + 1)).filter p).map (97 + ·)) = (((List.range i).filter p).map (97 + ·)) ++ (if p i = true then [97 + i] else []) := by
  rw [List.range_succ, List.filter_append, List.map_append]
  by_cases c : p i = true
  · rw [List.filter_cons_of_pos c, if_pos c] <;> rfl
  · rw [List.filter_cons_of_neg c, if_neg c] <;> rfl
end Mk

set_option maxRecDepth 100000
set_option linter.all false
/-! the law's guess and the program's -/
namespace Mk
open PySem L2 Pk Sx
def adjK {κ : Type} [DecidableEq κ] : List κ → Option κ
  | a :: b :: r => if a = b then some a else adjK (b :: r)
  | _ => none
section
variable {κ α : Type} [DecidableEq κ]
def cnt (k : κ) (l : List κ) : Nat := l.count k
theorem cnt_append (k : κ) (l m : List κ) : cnt k (l ++ m) = cnt k l + cnt k m := List.count_append ..
theorem cnt_one (k : κ) : cnt k [k] = 1 := List.count_singleton_self ..
theorem cnt_zero {k : κ} {l : List κ} (h : k ∉ l) : cnt k l = 0 := List.count_eq_zero.mpr h
theorem cnt_self (k : κ) (l : List κ) : cnt k (k :: l) = cnt k l + 1 := List.count_cons_self ..
theorem cnt_ne {a k : κ} (h : a ≠ k) (l : List κ) : cnt k (a :: l) = cnt k l := List.count_cons_of_ne h
theorem go_more : ∀ (l acc : List κ), ∃ t, onceGo acc l = acc ++ t
  | [], acc => ⟨[], by simp [onceGo]⟩
  | y :: l, acc => by
    by_cases c : y ∈ acc
    · have e : onceGo acc (y :: l) = onceGo acc l := by unfold onceGo; rw [List.foldl_cons, if_pos c]
      rw [e]
      exact go_more l acc
    · have e : onceGo acc (y :: l) = onceGo (acc ++ [y]) l := by unfold onceGo; rw [List.foldl_cons, if_neg c]
      obtain ⟨t, et⟩ := go_more l (acc ++ [y])
      exact ⟨y :: t, by rw [e, et, List.append_assoc] <;> rfl⟩
theorem go_cons {a : κ} : ∀ (l acc : List κ), a ∉ l → onceGo (a :: acc) l = a :: onceGo acc l
  | [], acc, _ => rfl
  | y :: l, acc, h => by
    have ya : y ≠ a := fun e => h (by rw [e]; exact List.mem_cons_self)
    have hl : a ∉ l := fun m => h (List.mem_cons_of_mem _ m)
    by_cases c : y ∈ acc
    · have e1 : onceGo (a :: acc) (y :: l) = onceGo (a :: acc) l := by unfold onceGo; rw [List.foldl_cons, if_pos (List.mem_cons_of_mem _ c)]
      have e2 : onceGo acc (y :: l) = onceGo acc l := by unfold onceGo; rw [List.foldl_cons, if_pos c]
      rw [e1, e2]
      exact go_cons l acc hl
    · have c2 : y ∉ a :: acc := fun m => by
        rcases List.mem_cons.mp m with e | m
        · exact ya e
        · exact c m
      have e1 : onceGo (a :: acc) (y :: l) = onceGo (a :: (acc ++ [y])) l := by unfold onceGo; rw [List.foldl_cons, if_neg c2] <;> rfl
      have e2 : onceGo acc (y :: l) = onceGo (acc ++ [y]) l := by unfold onceGo; rw [List.foldl_cons, if_neg c]
      rw [e1, e2]
      exact go_cons l (acc ++ [y]) hl
theorem once_cons (a : κ) (l : List κ) : once (a :: l) = onceGo [a] l := rfl
theorem once_cons_new {a : κ} {l : List κ} (h : a ∉ l) : once (a :: l) = a :: once l := (once_cons a l).trans (go_cons l [] h)
/-- in a rising list what comes twice comes twice at once -/
theorem find_adj {lt : κ → κ → Bool} (O : Lin lt) : ∀ ks : List κ, Up lt ks → (once ks).find? (fun k => decide (1 < cnt k ks)) = adjK ks
  | [], _ => rfl
  | [a], _ => by
    have e : once [a] = [a] := rfl
    have z : decide (1 < cnt a [a]) = false := by rw [cnt_one]; rfl
    rw [e, List.find?_cons, z] <;> rfl
  | a :: b :: r, h => by
    obtain ⟨h1, h2⟩ := List.pairwise_cons.mp h
    by_cases c : a = b
    · subst c
      obtain ⟨t, et⟩ := go_more (a :: r) [a]
      have e : once (a :: a :: r) = a :: t := (once_cons a (a :: r)).trans et
      have big : decide (1 < cnt a (a :: a :: r)) = true := decide_eq_true (by rw [cnt_self, cnt_self]; omega)
      rw [e, List.find?_cons, big]
      unfold adjK
      rw [if_pos rfl]
    · have new : a ∉ b :: r := fun m => by
        rcases List.mem_cons.mp m with e | m
        · exact c e
        · have z1 := h1 b List.mem_cons_self
          have z2 := (List.pairwise_cons.mp h2).1 a m
          exact c (O.anti z2 z1)
      have n0 : cnt a (b :: r) = 0 := cnt_zero new
      have small : decide (1 < cnt a (a :: b :: r)) = false := by
        rw [cnt_self, n0]
        rfl
      rw [once_cons_new new, List.find?_cons, small]
      unfold adjK
      rw [if_neg c, ← find_adj O (b :: r) h2]
      have cong : ∀ k ∈ once (b :: r), decide (1 < cnt k (a :: b :: r)) = decide (1 < cnt k (b :: r)) := fun k m => by
        have ka : a ≠ k := fun e => new (by rw [e]; exact (once_mem _ _).mp m)
        rw [cnt_ne ka]
      show List.find? _ _ = List.find? _ _
      revert cong
      generalize once (b :: r) = l
      intro cong
      induction l with
      | nil => rfl
      | cons x l ih =>
        have ex := cong x List.mem_cons_self
        have ih2 : List.find? (fun k => decide (1 < cnt k (a :: b :: r))) l = List.find? (fun k => decide (1 < cnt k (b :: r))) l := ih fun k m => cong k (List.mem_cons_of_mem _ m)
        show List.find? (fun k => decide (1 < cnt k (a :: b :: r))) (x :: l) = List.find? (fun k => decide (1 < cnt k (b :: r))) (x :: l)
        rw [List.find?_cons, List.find?_cons, ex, ih2]
end
theorem grps_count (rs : List Rl) : ∀ g ∈ grps rs, g.2.length = cnt g.1 (rs.map Rl.k3) := by
  have gen : ∀ (l pre : List Rl), (∀ g ∈ grps pre, g.2.length = cnt g.1 (pre.map Rl.k3)) → ∀ g ∈ grps (pre ++ l), g.2.length = cnt g.1 ((pre ++ l).map Rl.k3) := by
    intro l
    induction l with
    | nil => intro pre h; simpa using h
    | cons r l ih =>
      intro pre h
      have e : pre ++ r :: l = (pre ++ [r]) ++ l := by simp
      rw [e]
      refine ih (pre ++ [r]) ?_
      rw [grps_snoc, List.map_append]
      intro g m
      rw [cnt_append]
      unfold gAdd at m
      split at m
      · rename_i c
        obtain ⟨g0, m0, rfl⟩ := List.mem_map.mp m
        have z := h g0 m0
        split
        · rename_i eq
          rw [List.length_append, z]
          show _ + 1 = cnt g0.1 _ + cnt g0.1 [r.k3]
          rw [eq, cnt_one]
        · rename_i ne
          rw [z]
          have n : cnt g0.1 [r.k3] = 0 := cnt_zero fun m => ne (List.mem_singleton.mp m)
          rw [show (List.map Rl.k3 [r]) = [r.k3] from rfl, n] <;> rfl
      · rename_i c
        rcases List.mem_append.mp m with m | m
        · have z := h g m
          have ne : g.1 ≠ r.k3 := fun eq => c (by rw [← eq]; exact List.mem_map.mpr ⟨g, m, rfl⟩)
          have n : cnt g.1 [r.k3] = 0 := cnt_zero fun m => ne (List.mem_singleton.mp m)
          rw [z, show (List.map Rl.k3 [r]) = [r.k3] from rfl, n] <;> rfl
        · rw [List.mem_singleton.mp m]
          have n : cnt r.k3 (pre.map Rl.k3) = 0 := cnt_zero fun m => c (by rw [grps_keys]; exact (once_mem _ _).mpr m)
          show 1 = cnt r.k3 _ + cnt r.k3 [r.k3]
          rw [n, cnt_one]
  exact gen rs [] fun g m => absurd m List.not_mem_nil
theorem guess_find (rs : List Rl) : guessOf (grps rs) = (once (rs.map Rl.k3)).find? fun k => decide (1 < cnt k (rs.map Rl.k3)) := by
  have ks := grps_keys rs
  have cn := grps_count rs
  unfold guessOf
  rw [← ks]
  revert cn
  generalize grps rs = G
  intro cn
  induction G with
  | nil => rfl
  | cons g G ih =>
    rw [List.map_cons, List.find?_cons, List.find?_cons, cn g List.mem_cons_self]
    cases decide (1 < cnt g.1 (rs.map Rl.k3)) with
    | true => rfl
    | false => exact ih fun x m => cn x (List.mem_cons_of_mem _ m)
theorem k3_up {x y : Rl} (h : ltT y.key x.key = false) : ltT y.k3 x.k3 = false := by
  have pre : ∀ (as bs cs ds : List Key), as.length = bs.length → as ≠ bs → ltT (as ++ cs) (bs ++ ds) = ltT as bs := by
    intro as
    induction as with
    | nil =>
      intro bs cs ds e ne
      cases bs with
      | nil => exact absurd rfl ne
      | cons => cases e
    | cons a as ih =>
      intro bs cs ds e ne
      cases bs with
      | nil => cases e
      | cons b bs =>
        show (if a = b then ltT (as ++ cs) (bs ++ ds) else ltKey a b) = if a = b then ltT as bs else ltKey a b
        by_cases c : a = b
        · rw [if_pos c, if_pos c]
          exact ih bs cs ds (Nat.succ.inj e) fun z => ne (by rw [c, z])
        · rw [if_neg c, if_neg c]
  by_cases c : y.k3 = x.k3
  · rw [c]; exact lin_tup.irr _
  · have z := pre y.k3 x.k3 y.a5 x.a5 rfl c
    rw [← z]
    exact h
theorem guess_adj {l : List Rl} (up : l.Pairwise fun x y => ltT y.key x.key = false) : guessOf (grps l) = adjK (l.map Rl.k3) := by
  rw [guess_find]
  exact find_adj lin_tup _ (List.pairwise_map.mpr (up.imp fun h => k3_up h))
theorem rulesOf_up (rs : List Rl) : (rulesOf rs).Pairwise fun x y => ltT y.key x.key = false := by
  have z := lin_tup.asc_up (rs.map Rl.key)
  rw [← rulesOf_keys] at z
  exact List.pairwise_map.mp z
end Mk

set_option maxRecDepth 100000
set_option linter.all false
/-! what is due, as data -/
namespace Mk
open PySem L2 Pk Sx
def keyD : Key → PyData
  | .inl n => .int n
  | .inr x => .str x
def rlD (r : Rl) : PyData := .tuple (r.key.map keyD)
def guessD : Option (List Key) → PyData
  | none => .none
  | some k => .tuple (k.map keyD)
def symsL (rs : List Rl) : List PySem.Str := asc ltText ((rs.map Rl.tp ++ rs.map Rl.sy).filter fun x => decide (x ≠ nil0))
def dueD (l : PySem.Str) (n : Int) (rs : List Rl) (ys : List Int) : PyData :=
  .tuple [.str l, .int n, .tuple ((rulesOf rs).map rlD), .tuple ((intsOf ys).map .int), .tuple ((symsL rs).map .str), guessD (adjK ((rulesOf rs).map Rl.k3))]
theorem rulesOf_mem (rs : List Rl) (r : Rl) : r ∈ rulesOf rs ↔ r ∈ rs := by
  have e : r.key ∈ (rulesOf rs).map Rl.key ↔ r.key ∈ rs.map Rl.key := by rw [rulesOf_keys, asc_mem]
  constructor
  · intro m
    obtain ⟨q, mq, eq⟩ := List.mem_map.mp (e.mp (List.mem_map.mpr ⟨r, m, rfl⟩))
    rw [← key_inj eq]
    exact mq
  · intro m
    obtain ⟨q, mq, eq⟩ := List.mem_map.mp (e.mpr (List.mem_map.mpr ⟨r, m, rfl⟩))
    rw [← key_inj eq]
    exact mq
theorem rulesOf_len (rs : List Rl) : (rulesOf rs).length ≤ rs.length := by
  unfold rulesOf
  rw [List.length_map]
  refine Nat.le_trans (asc_len _ _) ?_
  rw [List.length_map]
  exact Nat.le_refl _
theorem syms_same (rs : List Rl) : symsOf (rulesOf rs) = symsL rs := by
  unfold symsOf symsL
  refine lin_text.is_asc ?_ (lin_text.srt_up _) fun x => ?_
  · exact (srt_perm _ _).nodup_iff.mpr ((once_nodup _).filter _)
  · rw [(srt_perm _ _).mem_iff, List.mem_filter, List.mem_filter, once_mem, List.mem_append, List.mem_append]
    have tp : x ∈ (rulesOf rs).map Rl.tp ↔ x ∈ rs.map Rl.tp := by
      rw [List.mem_map, List.mem_map]
      exact ⟨fun ⟨r, m, e⟩ => ⟨r, (rulesOf_mem rs r).mp m, e⟩, fun ⟨r, m, e⟩ => ⟨r, (rulesOf_mem rs r).mpr m, e⟩⟩
    have sy : x ∈ (rulesOf rs).map Rl.sy ↔ x ∈ rs.map Rl.sy := by
      rw [List.mem_map, List.mem_map]
      exact ⟨fun ⟨r, m, e⟩ => ⟨r, (rulesOf_mem rs r).mp m, e⟩, fun ⟨r, m, e⟩ => ⟨r, (rulesOf_mem rs r).mpr m, e⟩⟩
    rw [tp, sy]
theorem guess_same (rs : List Rl) : guessOf (grps (rulesOf rs)) = adjK ((rulesOf rs).map Rl.k3) := guess_adj (rulesOf_up rs)
theorem adjK_step {κ : Type} [DecidableEq κ] : ∀ {l : List κ} {i : Nat} {a b : κ}, l[i]? = some a → l[i + 1]? = some b →
    adjK (l.take (i + 2)) = match adjK (l.take (i + 1)) with | some k => some k | none => if a = b then some a else none
  | [], i, a, b, e, _ => by simp at e
  | [x], i, a, b, _, e => by simp at e
  | x :: y :: r, 0, a, b, e1, e2 => by
    simp at e1 e2
    subst e1; subst e2
    show adjK [x, y] = _
    have z : adjK ((x :: y :: r).take (0 + 1)) = none := rfl
    rw [z]
    rfl
  | x :: y :: r, i + 1, a, b, e1, e2 => by
    have ih := adjK_step (l := y :: r) (i := i) (a := a) (b := b) (by simpa using e1) (by simpa using e2)
    have t1 : (x :: y :: r).take (i + 1 + 2) = x :: y :: r.take (i + 1) := rfl
    have t2 : (x :: y :: r).take (i + 1 + 1) = x :: y :: r.take i := rfl
    have t3 : (y :: r).take (i + 2) = y :: r.take (i + 1) := rfl
    have t4 : (y :: r).take (i + 1) = y :: r.take i := rfl
    rw [t1, t2]
    rw [t3, t4] at ih
    show (if x = y then some x else adjK (y :: r.take (i + 1))) = _
    rw [show adjK (x :: y :: r.take i) = if x = y then some x else adjK (y :: r.take i) from rfl]
    by_cases c : x = y
    · rw [if_pos c, if_pos c]
    · rw [if_neg c, if_neg c, ih]
/-! data in the heap -/
section
variable {K : PySem.W.Frag} {H : Hp}
theorem dpa_keys : ∀ k : List Key, DpAll K H (k.map kV) (k.map keyD)
  | [] => .nil
  | .inl n :: k => .cons (.int n) (dpa_keys k)
  | .inr x :: k => .cons (.str x) (dpa_keys k)
theorem dp_keys {p : Addr} {k : List Key} (h : H p = some (.tup (k.map kV))) : Dp K H (.ref p) (.tuple (k.map keyD)) := .tup (.inl (.inl h)) (dpa_keys k)
theorem dpa_rules : ∀ {R : Kept}, KeptAt H R → DpAll K H (refsK R) ((R.map (·.2)).map rlD)
  | [], _ => .nil
  | p :: R, h => .cons (dp_keys (k := p.2.key) (h p List.mem_cons_self)) (dpa_rules fun q m => h q (List.mem_cons_of_mem _ m))
theorem dpa_ints : ∀ ys : List Int, DpAll K H (ys.map V.int) (ys.map .int)
  | [] => .nil
  | y :: ys => .cons (.int y) (dpa_ints ys)
theorem dpa_strs : ∀ xs : List PySem.Str, DpAll K H (xs.map V.str) (xs.map .str)
  | [] => .nil
  | x :: xs => .cons (.str x) (dpa_strs xs)
theorem dp_guess {v : V} {g : Option (List Key)} (h : GuessV H v g) : Dp K H v (guessD g) := by
  cases g with
  | none =>
    have e : v = .non := h
    rw [e]
    exact .non
  | some k =>
    obtain ⟨q, e, t⟩ := h
    rw [e]
    exact dp_keys t
end
/-- the six attributes, or what is due of them -/
structure DueAt (H : Hp) (p : Addr) (l : PySem.Str) (n : Int) (rs : List Rl) (ys : List Int) : Prop where
  ex : ∃ (aR aY aS : Addr) (g : V) (R : Kept), H p = some (.tup [.str l, .int n, .ref aR, .ref aY, .ref aS, g]) ∧ H aR = some (.tup (refsK R)) ∧ KeptAt H R ∧ R.map (·.2) = rulesOf rs ∧
    H aY = some (.tup ((intsOf ys).map V.int)) ∧ H aS = some (.tup ((symsL rs).map V.str)) ∧ GuessV H g (adjK ((rulesOf rs).map Rl.k3))
theorem DueAt.dp {K : PySem.W.Frag} {H : Hp} {p : Addr} {l : PySem.Str} {n : Int} {rs : List Rl} {ys : List Int} (h : DueAt H p l n rs ys) : Dp K H (.ref p) (dueD l n rs ys) := by
  obtain ⟨aR, aY, aS, g, R, hp, hR, kR, eR, hY, hS, hg⟩ := h.ex
  refine .tup (.inl (.inl hp)) (.cons (.str l) (.cons (.int n) (.cons (.tup (.inl (.inl hR)) ?_) (.cons (.tup (.inl (.inl hY)) (dpa_ints _)) (.cons (.tup (.inl (.inl hS)) (dpa_strs _)) (.cons (dp_guess hg) .nil))))))
  rw [← eR]
  exact dpa_rules kR
/-- all tuples stay -/
def Tk (H H' : Hp) : Prop := ∀ b xs, H b = some (.tup xs) → H' b = some (.tup xs)
theorem Tk.of {H H' : Hp} (s : Same H H') : Tk H H' := fun b xs e => s b _ e
theorem Tk.trans {H H' H'' : Hp} (a : Tk H H') (b : Tk H' H'') : Tk H H'' := fun c xs e => b c xs (a c xs e)
theorem Tk.refl (H : Hp) : Tk H H := fun _ _ e => e
theorem Tk.put {H : Hp} {q : Addr} {o o' : HO} (h : H q = some o) (n : ∀ xs, o ≠ .tup xs) : Tk H (upd H q o') := fun b xs e => by
  have ne : b ≠ q := fun z => by
    rw [z, h] at e
    exact n xs (Option.some.inj e)
  rw [upd_ne ne]
  exact e
theorem GuessV.tk {H H' : Hp} {v : V} {g : Option (List Key)} (h : GuessV H v g) (t : Tk H H') : GuessV H' v g := by
  cases g with
  | none => exact h
  | some k =>
    obtain ⟨q, e, z⟩ := h
    exact ⟨q, e, t _ _ z⟩
theorem DueAt.tk {H H' : Hp} {p : Addr} {l : PySem.Str} {n : Int} {rs : List Rl} {ys : List Int} (h : DueAt H p l n rs ys) (t : Tk H H') : DueAt H' p l n rs ys := by
  obtain ⟨aR, aY, aS, g, R, hp, hR, kR, eR, hY, hS, hg⟩ := h.ex
  exact ⟨aR, aY, aS, g, R, t _ _ hp, t _ _ hR, fun q m => t _ _ (kR q m), eR, t _ _ hY, t _ _ hS, hg.tk t⟩
/-! comparing -/
theorem eqv_key (a b : Key) : PyData.eqv (keyD a) (keyD b) = decide (a = b) := by
  cases a with
  | inl x =>
    cases b with
    | inl y =>
      show (x == y) = _
      by_cases c : x = y
      · rw [c, decide_eq_true rfl]
        exact beq_iff_eq.mpr rfl
      · rw [decide_eq_false (fun z => c (Sum.inl.inj z))]
        exact Bool.eq_false_iff.mpr fun z => c (beq_iff_eq.mp z)
    | inr y => rw [decide_eq_false (fun z => nomatch z)]; rfl
  | inr x =>
    cases b with
    | inl y => rw [decide_eq_false (fun z => nomatch z)]; rfl
    | inr y =>
      show (x == y) = _
      by_cases c : x = y
      · rw [c, decide_eq_true rfl]
        exact beq_iff_eq.mpr rfl
      · rw [decide_eq_false (fun z => c (Sum.inr.inj z))]
        exact Bool.eq_false_iff.mpr fun z => c (beq_iff_eq.mp z)
theorem eqv_keys : ∀ a b : List Key, PyData.eqv (.tuple (a.map keyD)) (.tuple (b.map keyD)) = decide (a = b)
  | [], [] => rfl
  | [], _ :: _ => by rw [decide_eq_false (fun z => nomatch z)]; rfl
  | _ :: _, [] => by rw [decide_eq_false (fun z => nomatch z)]; rfl
  | x :: a, y :: b => by
    have ih := eqv_keys a b
    have e : PyData.eqv (.tuple ((x :: a).map keyD)) (.tuple ((y :: b).map keyD)) = (PyData.eqv (keyD x) (keyD y) && PyData.eqv (.tuple (a.map keyD)) (.tuple (b.map keyD))) := by
      simp [PyData.eqv, PyData.eqvAll]
    rw [e, ih, eqv_key]
    by_cases c : x = y
    · by_cases d : a = b
      · rw [decide_eq_true c, decide_eq_true d, decide_eq_true (by rw [c, d])]; rfl
      · rw [decide_eq_true c, decide_eq_false d, decide_eq_false (fun z => d (List.cons.inj z).2)]; rfl
    · rw [decide_eq_false c, decide_eq_false (fun z => c (List.cons.inj z).1)]; rfl
def KeyOk : Key → Prop
  | .inl _ => True
  | .inr x => ∀ c ∈ x.cps.toList, c < 1114112
theorem strOk_of {x : PySem.Str} (h : ∀ c ∈ x.cps.toList, c < 1114112) : PyData.strOk x = true := by
  unfold PyData.strOk
  rw [← Array.all_toList, List.all_eq_true]
  exact fun c m => decide_eq_true (h c m)
theorem lay_keys : ∀ k : List Key, (∀ x ∈ k, KeyOk x) → PyData.canLayAll0 (k.map keyD) = true ∧ PyData.depthAll (k.map keyD) = 0
  | [], _ => ⟨by simp [PyData.canLayAll0], by simp [PyData.depthAll]⟩
  | x :: k, h => by
    have ih := lay_keys k fun z m => h z (List.mem_cons_of_mem _ m)
    have hx := h x List.mem_cons_self
    cases x with
    | inl n => exact ⟨by simp [PyData.canLayAll0, PyData.canLay0, keyD, ih.1], by simp [PyData.depthAll, PyData.depth, keyD, ih.2]⟩
    | inr t =>
      have s : PyData.strOk t = true := strOk_of hx
      exact ⟨by simp [PyData.canLayAll0, PyData.canLay0, keyD, ih.1, s], by simp [PyData.depthAll, PyData.depth, keyD, ih.2]⟩
theorem shaped_keys {k : List Key} (h : ∀ x ∈ k, KeyOk x) : SeqAt.shaped (.tuple (k.map keyD)) = true := by
  obtain ⟨a, b⟩ := lay_keys k h
  unfold SeqAt.shaped
  simp [PyData.canLay0, PyData.depth, a, b]
/-- a rule in a list or a tuple -/
def rowD (b : Bool) (r : Rl) : PyData := match b with
  | true => .list (r.key.map keyD)
  | false => .tuple (r.key.map keyD)
theorem lay_rows : ∀ {rs : List (Bool × Rl)}, (∀ p ∈ rs, ∀ x ∈ p.2.key, KeyOk x) → PyData.canLayAll0 (rs.map fun p => rowD p.1 p.2) = true ∧ PyData.depthAll (rs.map fun p => rowD p.1 p.2) ≤ 1
  | [], _ => ⟨by simp [PyData.canLayAll0], by simp [PyData.depthAll]⟩
  | p :: rs, h => by
    have ih := lay_rows (rs := rs) fun q m => h q (List.mem_cons_of_mem _ m)
    have lp := lay_keys p.2.key (h p List.mem_cons_self)
    obtain ⟨b, r⟩ := p
    have one : PyData.canLay0 (rowD b r) = true ∧ PyData.depth (rowD b r) = 1 := by
      cases b with
      | true =>
        show PyData.canLay0 (.list (r.key.map keyD)) = true ∧ PyData.depth (.list (r.key.map keyD)) = 1
        exact ⟨by rw [PyData.canLay0]; exact lp.1, by rw [PyData.depth, lp.2]⟩
      | false =>
        show PyData.canLay0 (.tuple (r.key.map keyD)) = true ∧ PyData.depth (.tuple (r.key.map keyD)) = 1
        exact ⟨by rw [PyData.canLay0]; exact lp.1, by rw [PyData.depth, lp.2]⟩
    rw [List.map_cons]
    refine ⟨by rw [PyData.canLayAll0, one.1, ih.1]; rfl, ?_⟩
    rw [PyData.depthAll, one.2]
    omega
theorem shaped_rows {rs : List (Bool × Rl)} (h : ∀ p ∈ rs, ∀ x ∈ p.2.key, KeyOk x) : SeqAt.shaped (.list (rs.map fun p => rowD p.1 p.2)) = true ∧ PyData.eqv (.list (rs.map fun p => rowD p.1 p.2)) (.list (rs.map fun p => rowD p.1 p.2)) = true := by
  obtain ⟨a, b⟩ := lay_rows h
  have c : PyData.canLay0 (.list (rs.map fun p => rowD p.1 p.2)) = true := by
    unfold PyData.canLay0
    exact a
  refine ⟨?_, SeqAt.eqv_refl _ c⟩
  unfold SeqAt.shaped
  rw [c]
  have d : PyData.depth (.list (rs.map fun p => rowD p.1 p.2)) = PyData.depthAll (rs.map fun p => rowD p.1 p.2) + 1 := by simp [PyData.depth]
  rw [d]
  exact decide_eq_true (by omega)
theorem shaped_ints (ys : List Int) : SeqAt.shaped (.list (ys.map .int)) = true ∧ PyData.eqv (.list (ys.map .int)) (.list (ys.map .int)) = true := by
  have lay : ∀ ys : List Int, PyData.canLayAll0 (ys.map .int) = true ∧ PyData.depthAll (ys.map .int) = 0 := by
    intro ys
    induction ys with
    | nil => exact ⟨by simp [PyData.canLayAll0], by simp [PyData.depthAll]⟩
    | cons y ys ih => exact ⟨by simp only [List.map_cons, PyData.canLayAll0, PyData.canLay0, ih.1]; rfl, by simp only [List.map_cons, PyData.depthAll, PyData.depth, ih.2]; rfl⟩
  obtain ⟨a, b⟩ := lay ys
  have c : PyData.canLay0 (.list (ys.map .int)) = true := by
    unfold PyData.canLay0
    exact a
  refine ⟨?_, SeqAt.eqv_refl _ c⟩
  unfold SeqAt.shaped
  rw [c]
  have d : PyData.depth (.list (ys.map .int)) = PyData.depthAll (ys.map .int) + 1 := by simp [PyData.depth]
  rw [d, b]
  rfl
end Mk

set_option Elab.async false
set_option linter.unusedVariables false
set_option maxRecDepth 100000
set_option maxHeartbeats 8000000
namespace Mk
open PySem L2 Pk
theorem str_eqT {x y : PySem.Str} (h : TL.tl x = TL.tl y) : x = y := TL.ext_tl h
theorem sgn_two (a b : Nat) : sgn1 a ++ sgn1 b = (⟨[a, b].toArray⟩ : PySem.Str) := str_eqT (by rw [TL.tl_append] <;> rfl)
theorem sgn_three (a b c : Nat) : sgn1 a ++ sgn1 b ++ sgn1 c = (⟨[a, b, c].toArray⟩ : PySem.Str) := str_eqT (by rw [TL.tl_append, sgn_two] <;> rfl)
theorem alpha_two {a b : Nat} (h1 : 97 ≤ a) (h2 : a < b) (h3 : b ≤ 122) : Alpha (sgn1 a ++ sgn1 b) := by
  rw [sgn_two]
  refine alpha_of (fun c m => ?_) (show 1 ≤ 2 by decide) (show 2 ≤ 26 by decide) ?_
  · rcases List.mem_cons.mp m with rfl | m
    · exact ⟨h1, by omega⟩
    · rw [List.mem_singleton.mp m]; exact ⟨by omega, h3⟩
  · exact List.pairwise_cons.mpr ⟨fun x m => by rw [List.mem_singleton.mp m]; exact h2, List.pairwise_singleton _ _⟩
theorem alpha_three {a b c : Nat} (h1 : 97 ≤ a) (h2 : a < b) (h3 : b < c) (h4 : c ≤ 122) : Alpha (sgn1 a ++ sgn1 b ++ sgn1 c) := by
  rw [sgn_three]
  refine alpha_of (fun x m => ?_) (show 1 ≤ 3 by decide) (show 3 ≤ 26 by decide) ?_
  · rcases List.mem_cons.mp m with rfl | m
    · exact ⟨h1, by omega⟩
    · rcases List.mem_cons.mp m with rfl | m
      · exact ⟨by omega, by omega⟩
      · rw [List.mem_singleton.mp m]; exact ⟨by omega, h4⟩
  · refine List.pairwise_cons.mpr ⟨fun x m => ?_, List.pairwise_cons.mpr ⟨fun x m => ?_, List.pairwise_singleton _ _⟩⟩
    · rcases List.mem_cons.mp m with rfl | m
      · exact h2
      · rw [List.mem_singleton.mp m]; omega
    · rw [List.mem_singleton.mp m]; exact h3
section
variable {P : Program} {w : World} {K : PySem.W.Frag} {mg : PySem.Str → Option Value} {base : Heap}
/-! _law_alphabet -/
def spAlpha (K : PySem.W.Frag) : Sp := fun vs H Q _ => ∃ (a : Addr) (row : List Int) (d0 d1 d2 : Nat), vs = [.ref a] ∧ SqL K H a (row.map V.int) ∧ row[0]? = some (d0 : Int) ∧ row[1]? = some (d1 : Int) ∧ row[2]? = some (d2 : Int) ∧ d1 < 12 ∧ d2 < 13 ∧
  ∀ l : PySem.Str, Alpha l → l.length ≤ 3 → (d0 < 7 → l.length ≤ 2) → Q (.str l) H
theorem scAlpha : FnScope ["row", "letters", "second"] ["row"] (defScope sAlpha) := ⟨rfl, rfl, rfl, by decide +kernel, rfl, by decide +kernel, by decide +kernel⟩
theorem ok_alpha {f : Addr} {fd : FuncData} (F : Fun K "_law_alphabet" "_law_alphabet" sAlpha f fd) : FnOk P w K mg base CX0 1 f fd ["row"] (spAlpha K) := by
  refine F.ok scAlpha (fun vs H Q E h => ?_) (fun cdv A outer s H vs Q E hr h => ?_)
  · obtain ⟨a, row, d0, d1, d2, rfl, _⟩ := h
    rfl
  · obtain ⟨a, row, d0, d1, d2, rfl, hS, e0, e1, e2, b1, b2, k⟩ := h
    refine ⟨_, pss_cons (ps_set (i := 1) scAlpha.nd rfl (Or.inl rfl) pe_str)
      (pss_cons (ps_set (i := 2) scAlpha.nd rfl (Or.inl rfl) (pe_op op_add (pe_op op_add (pe_ix ix_list (pv 0) pe_int fun _ _ => rfl) pe_int) (pe_ix ix_list (pv 0) pe_int fun _ _ => rfl)))
      (pss_cons (ps_if (pt_cmpR op_lt (pe_ix ix_list (pv 0) pe_int fun _ _ => rfl) pe_int (nomark _)) (pss_one (ps_ret (pe_ix ix_str (pv 1) (pe_ix ix_list (pv 0) pe_int fun _ _ => rfl) fun _ _ => rfl))) pss_nil)
      (pss_cons (ps_if (pt_cmpR op_lt (pe_ix ix_list (pv 0) pe_int fun _ _ => rfl) pe_int (nomark _)) (pss_one (ps_ret (pe_op op_add_str (pe_ix ix_str (pv 1) (pe_ix ix_list (pv 0) pe_int fun _ _ => rfl) fun _ _ => rfl) (pe_ix ix_str (pv 1) (pv 2) fun _ _ => rfl)))) pss_nil)
      (pss_one (ps_ret (pe_op op_add_str (pe_op op_add_str (pe_ix ix_str (pv 1) (pe_ix ix_list (pv 0) pe_int fun _ _ => rfl) fun _ _ => rfl) (pe_ix ix_str (pv 1) (pv 2) fun _ _ => rfl)) (pe_ix ix_str (pv 1) pe_int fun _ _ => rfl))))))), ?_⟩
    have rowAt : ∀ {j : Nat} {d : Nat}, row[j]? = some (d : Int) → atI (row.map V.int) (j : Int) = some (V.int d) := fun {j d} e => atI_nat (by rw [List.getElem?_map, e]; rfl)
    have at_ : ∀ {j : Nat}, j < 26 → atI abc26.cps.toList (j : Int) = some (97 + j) := fun h => atI_nat (abc26_at h)
    have sz : abc26.length ≤ sizeLine := by decide +kernel
    have e3 : (d1 : Int) + 1 + (d2 : Int) = ((d1 + 1 + d2 : Nat) : Int) := by omega
    have two : (sgn1 (97 + d1)).length + (sgn1 (97 + (d1 + 1 + d2))).length ≤ sizeLine := (show 1 + 1 ≤ sizeLine by decide)
    refine ⟨_, rfl, a, _, _, _, rfl, rfl, hS, rowAt (j := 1) e1, _, _, rfl, rfl, _, rfl, a, _, _, _, rfl, rfl, hS, rowAt (j := 2) e2, _, _, rfl, rfl, ?_⟩
    refine ⟨_, rfl, a, _, _, _, rfl, rfl, hS, rowAt (j := 0) e0, _, _, rfl, rfl, _, rfl, ite2 (fun _ => ?_) (fun _ => ?_)⟩
    · refine ⟨_, rfl, _, rfl, a, _, _, _, rfl, rfl, hS, rowAt (j := 1) e1, abc26, _, 97 + d1, rfl, rfl, sz, at_ (by omega), ?_⟩
      exact k _ (alpha_one ⟨by omega, by omega⟩) (show 1 ≤ 3 by decide) (fun _ => show 1 ≤ 2 by decide)
    refine ⟨_, rfl, a, _, _, _, rfl, rfl, hS, rowAt (j := 0) e0, _, _, rfl, rfl, _, rfl, ite2 (fun _ => ?_) (fun e7 => ?_)⟩
    · refine ⟨_, rfl, _, rfl, a, _, _, _, rfl, rfl, hS, rowAt (j := 1) e1, abc26, _, 97 + d1, rfl, rfl, sz, at_ (by omega), _, rfl, _, rfl, abc26, _, 97 + (d1 + 1 + d2), rfl, rfl, sz, by rw [e3]; exact at_ (by omega), _, _, rfl, rfl, two, ?_⟩
      exact k _ (alpha_two (by omega) (by omega) (by omega)) (show 2 ≤ 3 by decide) (fun _ => show 2 ≤ 2 by decide)
    · refine ⟨_, rfl, _, rfl, a, _, _, _, rfl, rfl, hS, rowAt (j := 1) e1, abc26, _, 97 + d1, rfl, rfl, sz, at_ (by omega), _, rfl, _, rfl, abc26, _, 97 + (d1 + 1 + d2), rfl, rfl, sz, by rw [e3]; exact at_ (by omega), _, _, rfl, rfl, two, ?_⟩
      refine ⟨_, rfl, abc26, _, 97 + 25, rfl, rfl, sz, at_ (j := 25) (by decide), _, _, rfl, rfl, ?_, ?_⟩
      · exact (show 2 + 1 ≤ sizeLine by decide)
      · exact k _ (alpha_three (by omega) (by omega) (by omega) (by omega)) (show 3 ≤ 3 by decide) (fun z => absurd (decide_eq_true (show (d0 : Int) < 7 by omega)) e7)
end
end Mk

set_option Elab.async false
set_option linter.unusedVariables false
set_option maxRecDepth 100000
set_option maxHeartbeats 8000000
namespace Mk
open PySem L2 Pk
/-- tops that no generator of machines draws: those that are put in later -/
def freshL : List PySem.Str := ["m", "M1", "mm", "n0n", "99", "kkkkkkkk"].map PySem.Str.ofString
section
variable {P : Program} {w : World} {K : PySem.W.Frag} {mg : PySem.Str → Option Value} {base : Heap}
/-! _law_symbols -/
def spSyms : Sp := fun vs H Q _ => ∃ d : Nat, vs = [.int (d : Int)] ∧ d < 6 ∧ ∀ (p : Addr) (x y z : PySem.Str) (H' : Hp), Same H H' → symB x = true → symB y = true → symB z = true → (x ≠ y ∧ x ≠ z ∧ y ≠ z ∧ x ∉ freshL ∧ y ∉ freshL ∧ z ∉ freshL) → H' p = some (.lst [.str x, .str y, .str z]) → Q (.ref p) H'
theorem scSyms : FnScope ["digit", "menu"] ["digit"] (defScope sSyms) := ⟨rfl, rfl, rfl, by decide +kernel, rfl, by decide +kernel, by decide +kernel⟩
abbrev ls3 (x y z : PySem.Str) : HO := .lst [.str x, .str y, .str z]
theorem ok_syms {f : Addr} {fd : FuncData} (F : Fun K "_law_symbols" "_law_symbols" sSyms f fd) : FnOk P w K mg base CX0 1 f fd ["digit"] spSyms := by
  refine F.ok scSyms (fun vs H Q E h => ?_) (fun cdv A outer s H vs Q E hr h => ?_)
  · obtain ⟨d, rfl, _⟩ := h
    rfl
  · obtain ⟨d, rfl, hd, k⟩ := h
    refine ⟨_, pss_cons (ps_set (i := 1) scSyms.nd rfl (Or.inl rfl) (pe_lst (pa_cons (pe_lst (pa_cons pe_str (pa_cons pe_str (pa_cons pe_str pa_nil)))) (pa_cons (pe_lst (pa_cons pe_str (pa_cons pe_str (pa_cons pe_str pa_nil)))) (pa_cons (pe_lst (pa_cons pe_str (pa_cons pe_str (pa_cons pe_str pa_nil))))
        (pa_cons (pe_lst (pa_cons pe_str (pa_cons pe_str (pa_cons pe_str pa_nil)))) (pa_cons (pe_lst (pa_cons pe_str (pa_cons pe_str (pa_cons pe_str pa_nil)))) pa_nil)))))))
      (pss_one (ps_ret (pe_ix ix_list (pe_op op_cat (pv 1) (pe_lst (pa_cons (pe_lst (pa_cons pe_str (pa_cons pe_str (pa_cons pe_str pa_nil)))) pa_nil))) (pv 0) fun _ _ => rfl))), ?_⟩
    have le3 : (3 : Nat) ≤ sizeLine := by decide
    refine ⟨le3, fun q1 n1 => ?_⟩
    have t1 := same_new (o := ls3 (PySem.Str.ofString "x") (PySem.Str.ofString "y") (PySem.Str.ofString "xy")) n1
    have h1 : (upd H q1 (ls3 (PySem.Str.ofString "x") (PySem.Str.ofString "y") (PySem.Str.ofString "xy"))) q1 = some (ls3 (PySem.Str.ofString "x") (PySem.Str.ofString "y") (PySem.Str.ofString "xy")) := upd_same
    generalize upd H q1 (ls3 (PySem.Str.ofString "x") (PySem.Str.ofString "y") (PySem.Str.ofString "xy")) = H1 at t1 h1 ⊢
    refine ⟨le3, fun q2 n2 => ?_⟩
    have t2 := same_new (o := ls3 (PySem.Str.ofString "a") (PySem.Str.ofString "aa") (PySem.Str.ofString "A")) n2
    have h2 : (upd H1 q2 (ls3 (PySem.Str.ofString "a") (PySem.Str.ofString "aa") (PySem.Str.ofString "A"))) q2 = some (ls3 (PySem.Str.ofString "a") (PySem.Str.ofString "aa") (PySem.Str.ofString "A")) := upd_same
    generalize upd H1 q2 (ls3 (PySem.Str.ofString "a") (PySem.Str.ofString "aa") (PySem.Str.ofString "A")) = H2 at t2 h2 ⊢
    refine ⟨le3, fun q3 n3 => ?_⟩
    have t3 := same_new (o := ls3 (PySem.Str.ofString "Q1") (PySem.Str.ofString "q1") (PySem.Str.ofString "Q2")) n3
    have h3 : (upd H2 q3 (ls3 (PySem.Str.ofString "Q1") (PySem.Str.ofString "q1") (PySem.Str.ofString "Q2"))) q3 = some (ls3 (PySem.Str.ofString "Q1") (PySem.Str.ofString "q1") (PySem.Str.ofString "Q2")) := upd_same
    generalize upd H2 q3 (ls3 (PySem.Str.ofString "Q1") (PySem.Str.ofString "q1") (PySem.Str.ofString "Q2")) = H3 at t3 h3 ⊢
    refine ⟨le3, fun q4 n4 => ?_⟩
    have t4 := same_new (o := ls3 (PySem.Str.ofString "eightsym") (PySem.Str.ofString "eightsyn") (PySem.Str.ofString "neightsy")) n4
    have h4 : (upd H3 q4 (ls3 (PySem.Str.ofString "eightsym") (PySem.Str.ofString "eightsyn") (PySem.Str.ofString "neightsy"))) q4 = some (ls3 (PySem.Str.ofString "eightsym") (PySem.Str.ofString "eightsyn") (PySem.Str.ofString "neightsy")) := upd_same
    generalize upd H3 q4 (ls3 (PySem.Str.ofString "eightsym") (PySem.Str.ofString "eightsyn") (PySem.Str.ofString "neightsy")) = H4 at t4 h4 ⊢
    refine ⟨le3, fun q5 n5 => ?_⟩
    have t5 := same_new (o := ls3 (PySem.Str.ofString "7") (PySem.Str.ofString "12") (PySem.Str.ofString "71")) n5
    have h5 : (upd H4 q5 (ls3 (PySem.Str.ofString "7") (PySem.Str.ofString "12") (PySem.Str.ofString "71"))) q5 = some (ls3 (PySem.Str.ofString "7") (PySem.Str.ofString "12") (PySem.Str.ofString "71")) := upd_same
    generalize upd H4 q5 (ls3 (PySem.Str.ofString "7") (PySem.Str.ofString "12") (PySem.Str.ofString "71")) = H5 at t5 h5 ⊢
    refine ⟨show 5 ≤ sizeLine by decide, fun q6 n6 => ?_⟩
    have t6 := same_new (o := HO.lst [.ref q1, .ref q2, .ref q3, .ref q4, .ref q5]) n6
    have h6 : (upd H5 q6 (.lst [.ref q1, .ref q2, .ref q3, .ref q4, .ref q5])) q6 = some (.lst [.ref q1, .ref q2, .ref q3, .ref q4, .ref q5]) := upd_same
    generalize upd H5 q6 (.lst [.ref q1, .ref q2, .ref q3, .ref q4, .ref q5]) = H6 at t6 h6 ⊢
    refine ⟨_, rfl, le3, fun q7 n7 => ?_⟩
    have t7 := same_new (o := ls3 (PySem.Str.ofString "Zz") (PySem.Str.ofString "zz") (PySem.Str.ofString "Z")) n7
    have h7 : (upd H6 q7 (ls3 (PySem.Str.ofString "Zz") (PySem.Str.ofString "zz") (PySem.Str.ofString "Z"))) q7 = some (ls3 (PySem.Str.ofString "Zz") (PySem.Str.ofString "zz") (PySem.Str.ofString "Z")) := upd_same
    generalize upd H6 q7 (ls3 (PySem.Str.ofString "Zz") (PySem.Str.ofString "zz") (PySem.Str.ofString "Z")) = H7 at t7 h7 ⊢
    refine ⟨show 1 ≤ sizeLine by decide, fun q8 n8 => ?_⟩
    have t8 := same_new (o := HO.lst [.ref q7]) n8
    have h8 : (upd H7 q8 (.lst [.ref q7])) q8 = some (.lst [.ref q7]) := upd_same
    generalize upd H7 q8 (.lst [.ref q7]) = H8 at t8 h8 ⊢
    refine ⟨q6, q8, _, _, rfl, rfl, t8 _ _ (t7 _ _ h6), h8, show 6 ≤ sizeLine by decide, fun q9 n9 => ?_⟩
    have t9 := same_new (o := HO.lst ([.ref q1, .ref q2, .ref q3, .ref q4, .ref q5] ++ [.ref q7])) n9
    have h9 : (upd H8 q9 (.lst ([.ref q1, .ref q2, .ref q3, .ref q4, .ref q5] ++ [.ref q7]))) q9 = some (.lst [.ref q1, .ref q2, .ref q3, .ref q4, .ref q5, .ref q7]) := upd_same
    show (tVar 0) _ (upd H8 q9 (.lst ([.ref q1, .ref q2, .ref q3, .ref q4, .ref q5] ++ [.ref q7]))) _
    generalize upd H8 q9 (.lst ([.ref q1, .ref q2, .ref q3, .ref q4, .ref q5] ++ [.ref q7])) = H9 at t9 h9 ⊢
    have s79 := t8.trans t9
    have s69 := t7.trans s79
    have s59 := t6.trans s69
    have s49 := t5.trans s59
    have s39 := t4.trans s49
    have s29 := t3.trans s39
    have s19 := t2.trans s29
    have sAll := t1.trans s19
    have c : d = 0 ∨ d = 1 ∨ d = 2 ∨ d = 3 ∨ d = 4 ∨ d = 5 := by omega
    rcases c with rfl | rfl | rfl | rfl | rfl | rfl
    · exact ⟨_, rfl, q9, _, 0, .ref q1, rfl, rfl, SqL.of h9, rfl, k q1 _ _ _ _ sAll (by decide +kernel) (by decide +kernel) (by decide +kernel) (by decide +kernel) (s19 _ _ h1)⟩
    · exact ⟨_, rfl, q9, _, 1, .ref q2, rfl, rfl, SqL.of h9, rfl, k q2 _ _ _ _ sAll (by decide +kernel) (by decide +kernel) (by decide +kernel) (by decide +kernel) (s29 _ _ h2)⟩
    · exact ⟨_, rfl, q9, _, 2, .ref q3, rfl, rfl, SqL.of h9, rfl, k q3 _ _ _ _ sAll (by decide +kernel) (by decide +kernel) (by decide +kernel) (by decide +kernel) (s39 _ _ h3)⟩
    · exact ⟨_, rfl, q9, _, 3, .ref q4, rfl, rfl, SqL.of h9, rfl, k q4 _ _ _ _ sAll (by decide +kernel) (by decide +kernel) (by decide +kernel) (by decide +kernel) (s49 _ _ h4)⟩
    · exact ⟨_, rfl, q9, _, 4, .ref q5, rfl, rfl, SqL.of h9, rfl, k q5 _ _ _ _ sAll (by decide +kernel) (by decide +kernel) (by decide +kernel) (by decide +kernel) (s59 _ _ h5)⟩
    · exact ⟨_, rfl, q9, _, 5, .ref q7, rfl, rfl, SqL.of h9, rfl, k q7 _ _ _ _ sAll (by decide +kernel) (by decide +kernel) (by decide +kernel) (by decide +kernel) (s79 _ _ h7)⟩
end
end Mk

set_option Elab.async false
set_option linter.unusedVariables false
set_option maxRecDepth 100000
set_option maxHeartbeats 8000000
namespace Mk
open PySem L2 Pk
def menu1 : List PySem.Str := [keep0, push0, pop0, pop0, push0, swap0, push0, pop0]
def menu2 : List PySem.Str := [push0, push0, keep0, push0, keep0, keep0, push0, keep0]
def saids : List PySem.Str := ["", "", "", "", "a", "b", "ab", "", "", "k", "", "xyz"].map PySem.Str.ofString
theorem menu1_at : ∀ d, d < 8 → ∃ x, menu1[d]? = some x ∧ (x = keep0 ∨ x = pop0 ∨ x = push0 ∨ x = swap0) := by
  intro d h
  have c : d = 0 ∨ d = 1 ∨ d = 2 ∨ d = 3 ∨ d = 4 ∨ d = 5 ∨ d = 6 ∨ d = 7 := by omega
  rcases c with rfl | rfl | rfl | rfl | rfl | rfl | rfl | rfl
  · exact ⟨keep0, rfl, .inl rfl⟩
  · exact ⟨push0, rfl, .inr (.inr (.inl rfl))⟩
  · exact ⟨pop0, rfl, .inr (.inl rfl)⟩
  · exact ⟨pop0, rfl, .inr (.inl rfl)⟩
  · exact ⟨push0, rfl, .inr (.inr (.inl rfl))⟩
  · exact ⟨swap0, rfl, .inr (.inr (.inr rfl))⟩
  · exact ⟨push0, rfl, .inr (.inr (.inl rfl))⟩
  · exact ⟨pop0, rfl, .inr (.inl rfl)⟩
theorem menu2_at : ∀ d, d < 8 → ∃ x, menu2[d]? = some x ∧ (x = keep0 ∨ x = push0) := by
  intro d h
  have c : d = 0 ∨ d = 1 ∨ d = 2 ∨ d = 3 ∨ d = 4 ∨ d = 5 ∨ d = 6 ∨ d = 7 := by omega
  rcases c with rfl | rfl | rfl | rfl | rfl | rfl | rfl | rfl
  · exact ⟨push0, rfl, .inr rfl⟩
  · exact ⟨push0, rfl, .inr rfl⟩
  · exact ⟨keep0, rfl, .inl rfl⟩
  · exact ⟨push0, rfl, .inr rfl⟩
  · exact ⟨keep0, rfl, .inl rfl⟩
  · exact ⟨keep0, rfl, .inl rfl⟩
  · exact ⟨push0, rfl, .inr rfl⟩
  · exact ⟨keep0, rfl, .inl rfl⟩
theorem saids_at : ∀ d, d < 12 → ∃ x, saids[d]? = some x ∧ lowB x = true ∧ x.length ≤ 3 := by
  have all : ∀ d, d < 12 → ∃ x, saids[d]? = some x := fun d h => ⟨saids[d]'h, List.getElem?_eq_getElem h⟩
  have ok : ∀ x ∈ saids, lowB x = true ∧ x.length ≤ 3 := by decide +kernel
  intro d h
  obtain ⟨x, e⟩ := all d h
  exact ⟨x, e, ok x (List.mem_of_getElem? e)⟩
theorem moves_at : ∀ d, d < 6 → ∃ v : Int, ([V.int 1, V.int 1, V.int 1, V.int (-1), V.int (-1), V.int 0] : List V)[d]? = some (.int v) ∧ -1 ≤ v ∧ v ≤ 1 := by
  intro d h
  have c : d = 0 ∨ d = 1 ∨ d = 2 ∨ d = 3 ∨ d = 4 ∨ d = 5 := by omega
  rcases c with rfl | rfl | rfl | rfl | rfl | rfl
  · exact ⟨1, rfl, by omega, by omega⟩
  · exact ⟨1, rfl, by omega, by omega⟩
  · exact ⟨1, rfl, by omega, by omega⟩
  · exact ⟨-1, rfl, by omega, by omega⟩
  · exact ⟨-1, rfl, by omega, by omega⟩
  · exact ⟨0, rfl, by omega, by omega⟩
section
variable {P : Program} {w : World} {K : PySem.W.Frag} {mg : PySem.Str → Option Value} {base : Heap}
/-- five digits of an act -/
structure ActRow (row : List Int) (d0 d1 d2 d3 d4 : Nat) : Prop where
  e0 : row[0]? = some (d0 : Int)
  e1 : row[1]? = some (d1 : Int)
  e2 : row[2]? = some (d2 : Int)
  e3 : row[3]? = some (d3 : Int)
  e4 : row[4]? = some (d4 : Int)
  b1 : d1 < 6
  b2 : d2 < 8
  b4 : d4 < 12
def spAct (K : PySem.W.Frag) : Sp := fun vs H Q _ => ∃ (aR aS : Addr) (row : List Int) (d0 d1 d2 d3 d4 : Nat) (n : Int) (l sg tp : PySem.Str) (ss : List PySem.Str), vs = [.ref aR, .int n, .ref aS, .str sg, .str tp] ∧ SqL K H aR (row.map V.int) ∧ ActRow row d0 d1 d2 d3 d4 ∧
  SqL K H aS (ss.map V.str) ∧ 1 ≤ n ∧ ss ≠ [] ∧ (∀ x ∈ ss, symB x = true) ∧ Sgn l sg ∧ Top tp ∧ Q .non H ∧
  ∀ (p : Addr) (r : Rl) (H' : Hp), Same H H' → r.sg = sg → r.tp = tp → RlOk l n r → H' p = some (.tup (r.a5.map kV)) → Q (.ref p) H'
abbrev nAct : List PySem.Str := ["row", "states", "symbols", "sign", "top", "deed", "move", "symbol", "said"]
theorem scAct : FnScope nAct ["row", "states", "symbols", "sign", "top"] (defScope sAct) := ⟨rfl, rfl, rfl, by decide +kernel, rfl, by decide +kernel, by decide +kernel⟩
theorem ok_act {f : Addr} {fd : FuncData} (F : Fun K "_law_act" "_law_act" sAct f fd) (T : TM mg) : FnOk P w K mg base CX0 1 f fd ["row", "states", "symbols", "sign", "top"] (spAct K) := by
  refine F.ok scAct (fun vs H Q E h => ?_) (fun cdv A outer s H vs Q E hr h => ?_)
  · obtain ⟨aR, aS, row, d0, d1, d2, d3, d4, n, l, sg, tp, ss, rfl, _⟩ := h
    rfl
  · obtain ⟨aR, aS, row, d0, d1, d2, d3, d4, n, l, sg, tp, ss, rfl, hS, AR, hSS, n1, ne, oks, hsg, htp, kn, k⟩ := h
    have nd := scAct.nd
    refine ⟨_, C8.pss_cut (ps_if (PW.pt (pw_and (pt_cmpR op_eq (pe_ix ix_list (pv 0) pe_int fun _ _ => rfl) pe_int (nomark _)) (pw_and1 (pt_cmpR op_lt (pe_ix ix_list (pv 0) pe_int fun _ _ => rfl) pe_int (nomark _))))) (pss_one (ps_ret pe_non)) pss_nil)
      (pss_cons (ps_set (i := 5) nd rfl (Or.inl rfl) (pe_ix ix_list (pe_lst (pa_cons pe_str (pa_cons pe_str (pa_cons pe_str (pa_cons pe_str (pa_cons pe_str (pa_cons pe_str (pa_cons pe_str (pa_cons pe_str pa_nil))))))))) (pe_ix ix_list (pv 0) pe_int fun _ _ => rfl) fun _ _ => rfl))
      (C8.pss_cut (ps_if (pt_cmpR op_eq (pv 4) pe_str (nomark _)) (pss_one (ps_set (i := 5) nd rfl (Or.inl rfl) (pe_ix ix_list (pe_lst (pa_cons pe_str (pa_cons pe_str (pa_cons pe_str (pa_cons pe_str (pa_cons pe_str (pa_cons pe_str (pa_cons pe_str (pa_cons pe_str pa_nil))))))))) (pe_ix ix_list (pv 0) pe_int fun _ _ => rfl) fun _ _ => rfl))) pss_nil)
      (pss_cons (ps_set (i := 6) nd rfl (Or.inl rfl) (pe_ix ix_list (pe_lst (pa_cons pe_int (pa_cons pe_int (pa_cons pe_int (pa_cons (pe_un un_neg pe_int) (pa_cons (pe_un un_neg pe_int) (pa_cons pe_int pa_nil))))))) (pe_ix ix_list (pv 0) pe_int fun _ _ => rfl) fun _ _ => rfl))
      (C8.pss_cut (ps_if (PW.pt (pw_and (pt_cmpR op_eq (pv 6) pe_int (nomark _)) (pw_and (pt_cmpR op_eq (pv 5) pe_str (nomark _)) (pw_and1 (pt_cmpR op_eq (pe_op op_mod (pe_callTy call_int1 (by rfl) T.int PyProof.Rows.Boot.int (pa_cons (pe_ix ix_list (pv 0) pe_int fun _ _ => rfl) pa_nil)) pe_int) pe_int (nomark _))))))
          (pss_one (ps_set (i := 6) nd rfl (Or.inl rfl) pe_int)) pss_nil)
      (C8.pss_cut (ps_if (pt_cmpR op_eq (pv 3) pe_str (nomark _)) (pss_one (ps_set (i := 6) nd rfl (Or.inl rfl) (pe_callB call_abs (by rfl) T.abs (by decide +kernel) (pa_cons (pv 6) pa_nil)))) pss_nil)
      (C8.pss_cut (ps_if (pt_cmpR op_eq (pv 3) pe_str (nomark _)) (pss_one (ps_set (i := 6) nd rfl (Or.inl rfl) (pe_un un_neg (pe_callB call_abs (by rfl) T.abs (by decide +kernel) (pa_cons (pv 6) pa_nil))))) pss_nil)
      (pss_cons (ps_set (i := 7) nd rfl (Or.inl rfl) pe_str)
      (C8.pss_cut (ps_if (PW.pt (pw_or (pt_cmpR op_eq (pv 5) pe_str (nomark _)) (pw_or1 (pt_cmpR op_eq (pv 5) pe_str (nomark _))))) (pss_one (ps_set (i := 7) nd rfl (Or.inl rfl) (pe_ix ix_list (pv 2) (pe_op op_mod (pe_callTy call_int1 (by rfl) T.int PyProof.Rows.Boot.int (pa_cons (pe_ix ix_list (pv 0) pe_int fun _ _ => rfl) pa_nil))
          (pe_callB call_len_seq (by rfl) T.len PySem.boot_len (pa_cons (pv 2) pa_nil))) fun _ _ => rfl))) pss_nil)
      (pss_cons (ps_set (i := 8) nd rfl (Or.inl rfl) (pe_ix ix_list (pe_lst (pa_cons pe_str (pa_cons pe_str (pa_cons pe_str (pa_cons pe_str (pa_cons pe_str (pa_cons pe_str (pa_cons pe_str (pa_cons pe_str (pa_cons pe_str (pa_cons pe_str (pa_cons pe_str (pa_cons pe_str pa_nil))))))))))))) (pe_ix ix_list (pv 0) pe_int fun _ _ => rfl) fun _ _ => rfl))
      (pss_one (ps_ret (pe_tup (pa_cons (pe_op op_mod (pe_callTy call_int1 (by rfl) T.int PyProof.Rows.Boot.int (pa_cons (pe_ix ix_list (pv 0) pe_int fun _ _ => rfl) pa_nil)) (pv 1)) (pa_cons (pv 6) (pa_cons (pv 5) (pa_cons (pv 7) (pa_cons (pv 8) pa_nil))))))))))))))))), ?_⟩
    have rowAt : ∀ {j : Nat} {d : Nat}, row[j]? = some (d : Int) → atI (row.map V.int) (j : Int) = some (V.int d) := fun {j d} e => atI_nat (by rw [List.getElem?_map, e]; rfl)
    have b1 := AR.b1
    have b2 := AR.b2
    have b4 := AR.b4
    refine ⟨fun σ' H' => σ' = [some (.ref aR), some (.int n), some (.ref aS), some (.str sg), some (.str tp), none, none, none, none] ∧ H' = H, ?_, ?_⟩
    · refine ⟨_, rfl, aR, _, _, _, rfl, rfl, hS, rowAt (j := 0) AR.e0, rfl, _, rfl, ite2 (fun _ => ?_) (fun _ => ⟨rfl, rfl⟩)⟩
      exact ⟨_, rfl, aR, _, _, _, rfl, rfl, hS, rowAt (j := 1) AR.e1, _, _, rfl, rfl, _, rfl, ite2 (fun _ => kn) (fun _ => ⟨rfl, rfl⟩)⟩
    rintro _ H0 ⟨rfl, e00⟩
    replace hS : SqL K H0 aR (row.map V.int) := by rw [e00]; exact hS
    replace hSS : SqL K H0 aS (ss.map V.str) := by rw [e00]; exact hSS
    rw [← e00] at k
    -- deed
    obtain ⟨x1, ex1, ox1⟩ := menu1_at d2 b2
    obtain ⟨x2, ex2, ox2⟩ := menu2_at d2 b2
    obtain ⟨sa, esa, lsa, tsa⟩ := saids_at d4 b4
    obtain ⟨m0, em0', lm0, hm0⟩ := moves_at d1 b1
    refine ⟨show 8 ≤ sizeLine by decide, fun q1 n1 => ?_⟩
    have t1 := same_new (o := HO.lst (menu1.map V.str)) n1
    refine ⟨_, rfl, aR, _, _, _, rfl, rfl, t1.seq hS, rowAt (j := 2) AR.e2, q1, _, _, .str x1, rfl, rfl, SqL.of upd_same, atI_nat (xs := menu1.map V.str) (by rw [List.getElem?_map, ex1] <;> rfl), ?_⟩
    dsimp only [gName]
    show (C8.tCut _ _) _ _ (upd H0 q1 (.lst (menu1.map V.str)))
    generalize upd H0 q1 (.lst (menu1.map V.str)) = H1 at t1 ⊢
    refine ⟨fun σ' H' => ∃ de : PySem.Str, σ' = [some (.ref aR), some (.int n), some (.ref aS), some (.str sg), some (.str tp), some (.str de), none, none, none] ∧ Same H0 H' ∧ (de = keep0 ∨ de = pop0 ∨ de = push0 ∨ de = swap0) ∧ (tp = nil0 → de = keep0 ∨ de = push0), ?_, ?_⟩
    · refine ⟨_, rfl, rfl, _, rfl, ?_⟩
      rw [show decide (V.str tp = V.str (PySem.Str.ofString "")) = decide (tp = nil0) from dec_str tp nil0]
      refine ite2 (fun e => ?_) (fun e => ?_)
      · refine ⟨show 8 ≤ sizeLine by decide, fun q2 n2 => ?_⟩
        have t2 := t1.trans (same_new (o := HO.lst (menu2.map V.str)) n2)
        refine ⟨_, rfl, aR, _, _, _, rfl, rfl, t2.seq hS, rowAt (j := 2) AR.e2, q2, _, _, .str x2, rfl, rfl, SqL.of upd_same, atI_nat (xs := menu2.map V.str) (by rw [List.getElem?_map, ex2] <;> rfl), ?_⟩
        refine ⟨x2, rfl, t2, ?_, fun _ => ox2⟩
        rcases ox2 with z | z
        · exact .inl z
        · exact .inr (.inr (.inl z))
      · exact ⟨x1, rfl, t1, ox1, fun z => absurd (decide_eq_true z) e⟩
    rintro _ H2 ⟨de, rfl, s2, oneD, lowD⟩
    clear t1 n1
    -- move
    refine ⟨_, rfl, _, rfl, show 6 ≤ sizeLine by decide, fun q3 n3 => ?_⟩
    have t3 := s2.trans (same_new (o := HO.lst [V.int 1, V.int 1, V.int 1, V.int (-1), V.int (-1), V.int 0]) n3)
    refine ⟨_, rfl, aR, _, _, _, rfl, rfl, t3.seq hS, rowAt (j := 1) AR.e1, q3, _, _, .int m0, rfl, rfl, SqL.of upd_same, atI_nat em0', ?_⟩
    dsimp only [gName]
    show (C8.tCut _ _) _ _ (upd H2 q3 (.lst [V.int 1, V.int 1, V.int 1, V.int (-1), V.int (-1), V.int 0]))
    generalize upd H2 q3 (.lst [V.int 1, V.int 1, V.int 1, V.int (-1), V.int (-1), V.int 0]) = H3 at t3 ⊢
    clear s2 n3
    have hS3 := t3.seq hS
    have hSS3 := t3.seq hSS
    refine ⟨fun σ' H' => ∃ mv : Int, σ' = [some (.ref aR), some (.int n), some (.ref aS), some (.str sg), some (.str tp), some (.str de), some (.int mv), none, none] ∧ H' = H3 ∧ -1 ≤ mv ∧ mv ≤ 1, ?_, ?_⟩
    · refine ⟨_, rfl, rfl, _, rfl, ite2 (fun _ => ?_) (fun _ => ⟨m0, rfl, rfl, lm0, hm0⟩)⟩
      refine ⟨_, rfl, rfl, _, rfl, ite2 (fun _ => ?_) (fun _ => ⟨m0, rfl, rfl, lm0, hm0⟩)⟩
      refine ⟨_, rfl, aR, _, _, _, rfl, rfl, hS3, rowAt (j := 3) AR.e3, .inl ⟨_, rfl, _, _, rfl, rfl, show (0 : Int) < 2 by decide, rfl, _, rfl, ite2 (fun _ => ?_) (fun _ => ⟨m0, rfl, rfl, lm0, hm0⟩)⟩⟩
      exact ⟨1, rfl, rfl, by decide, by decide⟩
    rintro _ H4 ⟨m1, rfl, e44, lo1, hi1⟩
    obtain rfl : H3 = H4 := e44.symm
    refine ⟨fun σ' H' => ∃ mv : Int, σ' = [some (.ref aR), some (.int n), some (.ref aS), some (.str sg), some (.str tp), some (.str de), some (.int mv), none, none] ∧ H' = H3 ∧ -1 ≤ mv ∧ mv ≤ 1 ∧ (sg = lt0 → 0 ≤ mv), ?_, ?_⟩
    · refine ⟨_, rfl, rfl, _, rfl, ?_⟩
      rw [show decide (V.str sg = V.str (PySem.Str.ofString "<")) = decide (sg = lt0) from dec_str sg lt0]
      refine ite2 (fun e => ?_) (fun e => ?_)
      · refine ⟨_, rfl, _, rfl, ?_⟩
        refine ⟨_, rfl, rfl, ?_, ?_, fun _ => ?_⟩ <;> (split <;> omega)
      · exact ⟨_, rfl, rfl, lo1, hi1, fun z => absurd (decide_eq_true z) e⟩
    rintro _ H4 ⟨m2, rfl, e44, lo2, hi2, lt2⟩
    obtain rfl : H3 = H4 := e44.symm
    refine ⟨fun σ' H' => ∃ mv : Int, σ' = [some (.ref aR), some (.int n), some (.ref aS), some (.str sg), some (.str tp), some (.str de), some (.int mv), none, none] ∧ H' = H3 ∧ Mv sg mv, ?_, ?_⟩
    · refine ⟨_, rfl, rfl, _, rfl, ?_⟩
      rw [show decide (V.str sg = V.str (PySem.Str.ofString ">")) = decide (sg = gt0) from dec_str sg gt0]
      refine ite2 (fun e => ?_) (fun e => ?_)
      · have eg : sg = gt0 := of_decide_eq_true e
        refine ⟨_, rfl, _, rfl, _, rfl, ?_⟩
        have ab : 0 ≤ (if m2 < 0 then -m2 else m2) ∧ (if m2 < 0 then -m2 else m2) ≤ 1 := by split <;> omega
        refine ⟨_, rfl, rfl, by omega, by omega, fun z => ?_, fun _ => by omega⟩
        rw [eg] at z
        exact absurd z (by decide +kernel)
      · refine ⟨m2, rfl, rfl, lo2, hi2, fun z => ?_, fun z => absurd (decide_eq_true z) e⟩
        have := lt2 z
        omega
    rintro _ H4 ⟨mv, rfl, e44, mvOk⟩
    obtain rfl : H3 = H4 := e44.symm
    -- symbol
    obtain ⟨s0, es0⟩ : ∃ x, ss[d3 % ss.length]? = some x := ⟨_, List.getElem?_eq_getElem (Nat.mod_lt _ (List.length_pos_iff.mpr ne))⟩
    have os0 := oks s0 (List.mem_of_getElem? es0)
    have pos : (0 : Int) < (((ss.map V.str).length : Nat) : Int) := by rw [List.length_map]; have := List.length_pos_iff.mpr ne; omega
    have ei : (d3 : Int) % (((ss.map V.str).length : Nat) : Int) = ((d3 % ss.length : Nat) : Int) := by rw [List.length_map]; omega
    refine ⟨fun σ' H' => ∃ sy : PySem.Str, σ' = [some (.ref aR), some (.int n), some (.ref aS), some (.str sg), some (.str tp), some (.str de), some (.int mv), some (.str sy), none] ∧ H' = H3 ∧ (de = push0 ∨ de = swap0 → symB sy = true) ∧ (de = keep0 ∨ de = pop0 → sy = nil0), ?_, ?_⟩
    · have ep : decide (V.str de = V.str (PySem.Str.ofString "push")) = decide (de = push0) := dec_str de push0
      have es : decide (V.str de = V.str (PySem.Str.ofString "swap")) = decide (de = swap0) := dec_str de swap0
      have np : push0 ≠ keep0 ∧ push0 ≠ pop0 ∧ swap0 ≠ keep0 ∧ swap0 ≠ pop0 := by decide +kernel
      refine ⟨_, rfl, rfl, _, rfl, ?_⟩
      rw [ep]
      refine ite2 (fun y => ?_) (fun y => ?_)
      · have yy := of_decide_eq_true y
        refine iteT ?_
        refine ⟨_, rfl, _, rfl, aR, _, _, _, rfl, rfl, hS3, rowAt (j := 3) AR.e3, .inl ⟨_, rfl, _, rfl, aS, _, rfl, .inl hSS3, _, _, rfl, rfl, pos, aS, _, _, .str s0, rfl, rfl, hSS3, by rw [ei]; exact atI_nat (by rw [List.getElem?_map, es0] <;> rfl), ?_⟩⟩
        refine ⟨s0, rfl, rfl, fun _ => os0, fun z => ?_⟩
        rw [yy] at z
        exact (z.elim np.1 np.2.1).elim
      · refine ⟨_, rfl, rfl, _, rfl, ?_⟩
        rw [es]
        refine ite2 (fun y2 => ?_) (fun y2 => ?_)
        · have yy := of_decide_eq_true y2
          refine ⟨_, rfl, _, rfl, aR, _, _, _, rfl, rfl, hS3, rowAt (j := 3) AR.e3, .inl ⟨_, rfl, _, rfl, aS, _, rfl, .inl hSS3, _, _, rfl, rfl, pos, aS, _, _, .str s0, rfl, rfl, hSS3, by rw [ei]; exact atI_nat (by rw [List.getElem?_map, es0] <;> rfl), ?_⟩⟩
          refine ⟨s0, rfl, rfl, fun _ => os0, fun z => ?_⟩
          rw [yy] at z
          exact (z.elim np.2.2.1 np.2.2.2).elim
        · exact ⟨nil0, rfl, rfl, fun z => (z.elim (fun z => y (decide_eq_true z)) fun z => y2 (decide_eq_true z)).elim, fun _ => rfl⟩
    rintro _ H4 ⟨sy, rfl, e44, sySym, syNo⟩
    obtain rfl : H3 = H4 := e44.symm
    -- said
    refine ⟨show 12 ≤ sizeLine by decide, fun q4 n4 => ?_⟩
    have t4 := t3.trans (same_new (o := HO.lst (saids.map V.str)) n4)
    refine ⟨_, rfl, aR, _, _, _, rfl, rfl, t4.seq hS, rowAt (j := 4) AR.e4, q4, _, _, .str sa, rfl, rfl, SqL.of upd_same, atI_nat (xs := saids.map V.str) (by rw [List.getElem?_map, esa] <;> rfl), ?_⟩
    have st : 0 ≤ (d0 : Int) % n ∧ (d0 : Int) % n ≤ n - 1 := ⟨Int.emod_nonneg _ (by omega), by have := Int.emod_lt_of_pos (d0 : Int) (show 0 < n by omega); omega⟩
    refine ⟨_, rfl, aR, _, _, _, rfl, rfl, t4.seq hS, rowAt (j := 0) AR.e0, .inl ⟨_, rfl, _, rfl, _, _, rfl, rfl, by omega, _, rfl, _, rfl, _, rfl, _, rfl, show 5 ≤ sizeLine by decide, fun p np => ?_⟩⟩
    exact k p ⟨0, sg, tp, (d0 : Int) % n, mv, de, sy, sa⟩ _ (t4.trans (same_new np)) rfl rfl ⟨⟨Int.le_refl _, by show (0 : Int) ≤ n - 1; omega⟩, hsg, htp, st, mvOk, ⟨oneD, lowD, sySym, syNo⟩, lsa, tsa⟩ (by rw [upd_same] <;> rfl)
end
end Mk

set_option Elab.async false
set_option linter.unusedVariables false
set_option maxRecDepth 100000
set_option maxHeartbeats 8000000
namespace Mk
open PySem L2 Pk
/-! where something stands in a row -/
def posOf : List PySem.Str → PySem.Str → Nat
  | [], _ => 0
  | y :: ys, x => if x = y then 0 else posOf ys x + 1
theorem posOf_at : ∀ {xs : List PySem.Str} {i : Nat} {x : PySem.Str}, xs.Nodup → xs[i]? = some x → posOf xs x = i
  | [], i, x, _, e => by simp at e
  | y :: ys, 0, x, _, e => by
    have z : y = x := Option.some.inj e
    show (if x = y then 0 else posOf ys x + 1) = 0
    rw [if_pos z.symm]
  | y :: ys, i + 1, x, nd, e => by
    have e' : ys[i]? = some x := e
    have n := List.nodup_cons.mp nd
    have ne : ¬ x = y := fun z => n.1 (z ▸ List.mem_of_getElem? e')
    show (if x = y then 0 else posOf ys x + 1) = i + 1
    rw [if_neg ne, posOf_at n.2 e']
def sgs (l : PySem.Str) : List PySem.Str := lt0 :: gt0 :: l.cps.toList.map sgn1
def tps (one two : PySem.Str) : List PySem.Str := [nil0, one, two]
theorem old0 : nil0 ∉ freshL := by decide +kernel
/-- the rank of a key -/
def rkOf (f : Nat → Nat → Nat → Nat) (SL ts : List PySem.Str) : List Key → Nat
  | [.inl s, .inr g, .inr t] => f s.toNat (posOf SL g) (posOf ts t)
  | _ => 0
theorem rk_at {f : Nat → Nat → Nat → Nat} {SL ts : List PySem.Str} {st : Int} {sg tp : PySem.Str} {u i m : Nat} (nS : SL.Nodup) (nT : ts.Nodup) (hs : SL[u]? = some sg) (ht : ts[i]? = some tp) (e : f st.toNat u i = m) : rkOf f SL ts [.inl st, .inr sg, .inr tp] = m := by
  show f st.toNat (posOf SL sg) (posOf ts tp) = m
  rw [posOf_at nS hs, posOf_at nT ht]
  exact e
theorem sgs_at {l : PySem.Str} {j c : Nat} (h : l.cps.toList[j]? = some c) : (sgs l)[j + 2]? = some (sgn1 c) := by
  show (l.cps.toList.map sgn1)[j]? = some (sgn1 c)
  rw [List.getElem?_map, h] <;> rfl
theorem sgs_ix {l : PySem.Str} {j c : Nat} (h : atI l.cps.toList (0 + (j : Int)) = some c) (lt : j < l.length) : (sgs l)[j + 2]? = some (sgn1 c) := by
  have h' : j < l.cps.toList.length := by rw [Array.length_toList]; exact lt
  have e : l.cps.toList[j]? = some l.cps.toList[j] := List.getElem?_eq_getElem h'
  have z : atI l.cps.toList (0 + (j : Int)) = some l.cps.toList[j] := by
    rw [show (0 : Int) + (j : Int) = ((j : Nat) : Int) by omega]
    exact atI_nat e
  rw [z] at h
  rw [← Option.some.inj h]
  exact sgs_at e
theorem alpha_up {l : PySem.Str} (al : Alpha l) : l.cps.toList.Pairwise (· < ·) := by
  have gen : ∀ xs : List Nat, (∀ (i c d : Nat), xs[i]? = some c → xs[i + 1]? = some d → c < d) → xs.Pairwise (· < ·) := by
    intro xs
    induction xs with
    | nil => exact fun _ => List.Pairwise.nil
    | cons x xs ih =>
      intro h
      have pw := ih fun i c d a b => h (i + 1) c d a b
      refine List.pairwise_cons.mpr ⟨fun y my => ?_, pw⟩
      cases xs with
      | nil => cases my
      | cons z zs =>
        have xz := h 0 x z rfl rfl
        rcases List.mem_cons.mp my with e | m
        · rw [e]; exact xz
        · exact Nat.lt_trans xz ((List.pairwise_cons.mp pw).1 y m)
  exact gen _ al.up
theorem sgn_inj {c d : Nat} (h : sgn1 c = sgn1 d) : c = d := by
  have y := congrArg (fun t : PySem.Str => t.cps[0]?) h
  exact Option.some.inj y
theorem sgs_nd {l : PySem.Str} (al : Alpha l) : (sgs l).Nodup := by
  have low : ∀ c ∈ l.cps.toList, 97 ≤ c := fun c m => by
    have z := al.low
    unfold lowB at z
    have y := List.all_eq_true.mp z c m
    unfold lowC at y
    rw [Bool.and_eq_true, decide_eq_true_eq, decide_eq_true_eq] at y
    exact y.1
  have e1 : lt0 = sgn1 60 := by decide +kernel
  have e2 : gt0 = sgn1 62 := by decide +kernel
  have no : ∀ d, d < 97 → sgn1 d ∉ l.cps.toList.map sgn1 := fun d ld m => by
    obtain ⟨c, mc, e⟩ := List.mem_map.mp m
    have := low c mc
    have := sgn_inj e
    omega
  refine List.nodup_cons.mpr ⟨fun m => ?_, List.nodup_cons.mpr ⟨fun m => ?_, ?_⟩⟩
  · rcases List.mem_cons.mp m with e | m
    · exact absurd e (by decide +kernel)
    · rw [e1] at m
      exact no 60 (by decide) m
  · rw [e2] at m
    exact no 62 (by decide) m
  · exact List.Pairwise.map _ (fun a b lt e => by have := sgn_inj e; omega) (alpha_up al)
/-! rules that a list takes up one by one, each with a key of its own -/
structure RsAt (Tp : List PySem.Str) (ρ : List Key → Nat) (H1 H' : Hp) (a : Addr) (l : PySem.Str) (n : Int) (m : Nat) (B : Kept) : Prop where
  same : Same H1 H'
  at_ : H' a = some (.lst (refsK B))
  kept : KeptAt H' B
  ok : ∀ p ∈ B, RlOk l n p.2
  few : B.length ≤ m
  rk : ∀ p ∈ B, ρ p.2.k3 < m
  nd : (B.map fun p => p.2.k3).Nodup
  old : ∀ p ∈ B, p.2.tp ∈ Tp
section
variable {ρ : List Key → Nat}
theorem RsAt.look {H1 H' : Hp} {a q : Addr} {l : PySem.Str} {n : Int} {m : Nat} {B : Kept} {o : HO} (R : RsAt Tp ρ H1 H' a l n m B) (nq : H' q = none) : (upd H' q o) a = some (.lst (refsK B)) := same_new nq _ _ R.at_
theorem RsAt.sz {H1 H' : Hp} {a : Addr} {l : PySem.Str} {n : Int} {m : Nat} {B : Kept} (R : RsAt Tp ρ H1 H' a l n m B) (h : m ≤ 10000) : (refsK B).length < sizeLine := by
  unfold refsK
  rw [List.length_map]
  exact Nat.lt_of_le_of_lt (Nat.le_trans R.few h) (by decide)
theorem RsAt.le {H1 H' : Hp} {a : Addr} {l : PySem.Str} {n : Int} {m k : Nat} {B : Kept} (R : RsAt Tp ρ H1 H' a l n m B) (e : m ≤ k) : RsAt Tp ρ H1 H' a l n k B :=
  ⟨R.same, R.at_, R.kept, R.ok, Nat.le_trans R.few e, fun p mp => Nat.lt_of_lt_of_le (R.rk p mp) e, R.nd, R.old⟩
theorem RsAt.nil {H H' : Hp} {a : Addr} {l : PySem.Str} {n : Int} {m : Nat} (s : Same H H') (h : H' a = some (.lst [])) : RsAt Tp ρ H H' a l n m [] :=
  ⟨s, h, fun p m => absurd m List.not_mem_nil, fun p m => absurd m List.not_mem_nil, Nat.zero_le _, fun p m => absurd m List.not_mem_nil, List.nodup_nil, fun p m => absurd m List.not_mem_nil⟩
theorem nd_add {B : Kept} {q : Addr} {r : Rl} (h : (B.map fun p => p.2.k3).Nodup) (n : ∀ p ∈ B, p.2.k3 ≠ r.k3) : ((B ++ [(q, r)]).map fun p => p.2.k3).Nodup := by
  rw [List.map_append]
  refine List.nodup_append.mpr ⟨h, List.pairwise_singleton _ _, fun x mx y my e => ?_⟩
  obtain ⟨p, mp, ep⟩ := List.mem_map.mp mx
  rw [List.mem_singleton.mp my] at e
  exact n p mp (ep.trans e)
theorem RsAt.add {H1 H' : Hp} {a q : Addr} {l : PySem.Str} {n : Int} {m : Nat} {B : Kept} {r : Rl} (R : RsAt Tp ρ H1 H' a l n m B) (na : H1 a = none) (nq : H' q = none) (ok : RlOk l n r) (hk : ρ r.k3 = m) (ho : r.tp ∈ Tp) :
    RsAt Tp ρ H1 (upd (upd H' q (.tup r.vs)) a (.lst (refsK B ++ [V.ref q]))) a l n (m + 1) (B ++ [(q, r)]) := by
  have t := same_new (o := HO.tup r.vs) nq
  have qa : q ≠ a := fun z => by rw [z, R.at_] at nq; cases nq
  refine ⟨same_mut (R.same.trans t) na, ?_, fun p m => ?_, fun p m => ?_, ?_, fun p mp => ?_, nd_add R.nd fun p mp e => ?_, fun p mp => ?_⟩
  · rw [upd_same]
    unfold refsK
    rw [List.map_append] <;> rfl
  · rcases List.mem_append.mp m with m | m
    · have z := t _ _ (R.kept p m)
      have pa : p.1 ≠ a := fun y => by
        have x := R.kept p m
        rw [y, R.at_] at x
        cases x
      rw [upd_ne pa]
      exact z
    · rw [List.mem_singleton.mp m]
      rw [upd_ne qa, upd_same]
  · rcases List.mem_append.mp m with m | m
    · exact R.ok p m
    · rw [List.mem_singleton.mp m]
      exact ok
  · rw [List.length_append]
    have := R.few
    show B.length + 1 ≤ m + 1
    omega
  · rcases List.mem_append.mp mp with mp | mp
    · exact Nat.lt_succ_of_lt (R.rk p mp)
    · rw [List.mem_singleton.mp mp]
      show ρ r.k3 < m + 1
      omega
  · have z := R.rk p mp
    rw [e, hk] at z
    exact Nat.lt_irrefl _ z
  · rcases List.mem_append.mp mp with mp | mp
    · exact R.old p mp
    · rw [List.mem_singleton.mp mp]
      exact ho
end
def Rs (Tp : List PySem.Str) (ρ : List Key → Nat) (H1 H' : Hp) (a : Addr) (l : PySem.Str) (n : Int) (m : Nat) : Prop := ∃ B, RsAt Tp ρ H1 H' a l n m B
theorem Rs.le {ρ : List Key → Nat} {H1 H' : Hp} {a : Addr} {l : PySem.Str} {n : Int} {m k : Nat} (h : Rs Tp ρ H1 H' a l n m) (e : m ≤ k) : Rs Tp ρ H1 H' a l n k := by
  obtain ⟨B, R⟩ := h
  exact ⟨B, R.le e⟩
theorem Rs.same {ρ : List Key → Nat} {H1 H' : Hp} {a : Addr} {l : PySem.Str} {n : Int} {m : Nat} (h : Rs Tp ρ H1 H' a l n m) : Same H1 H' := h.elim fun _ R => R.same
theorem Rs.mono {ρ : List Key → Nat} {H1 H' H'' : Hp} {a : Addr} {l : PySem.Str} {n : Int} {m : Nat} (h : Rs Tp ρ H1 H' a l n m) (s : Same H' H'') : Rs Tp ρ H1 H'' a l n m := by
  obtain ⟨B, R⟩ := h
  exact ⟨B, R.same.trans s, s _ _ R.at_, fun p m => s _ _ (R.kept p m), R.ok, R.few, R.rk, R.nd, R.old⟩
/-- the same, whatever the ranks -/
structure RuAt (Tp : List PySem.Str) (H1 H' : Hp) (a : Addr) (l : PySem.Str) (n : Int) (m : Nat) (B : Kept) : Prop where
  same : Same H1 H'
  at_ : H' a = some (.lst (refsK B))
  kept : KeptAt H' B
  ok : ∀ p ∈ B, RlOk l n p.2
  few : B.length ≤ m
  nd : (B.map fun p => p.2.k3).Nodup
  old : ∀ p ∈ B, p.2.tp ∈ Tp
def Ru (Tp : List PySem.Str) (H1 H' : Hp) (a : Addr) (l : PySem.Str) (n : Int) (m : Nat) : Prop := ∃ B, RuAt Tp H1 H' a l n m B
theorem RsAt.any {ρ : List Key → Nat} {H1 H' : Hp} {a : Addr} {l : PySem.Str} {n : Int} {m : Nat} {B : Kept} (R : RsAt Tp ρ H1 H' a l n m B) : RuAt Tp H1 H' a l n m B := ⟨R.same, R.at_, R.kept, R.ok, R.few, R.nd, R.old⟩
theorem Rs.any {ρ : List Key → Nat} {H1 H' : Hp} {a : Addr} {l : PySem.Str} {n : Int} {m : Nat} (h : Rs Tp ρ H1 H' a l n m) : Ru Tp H1 H' a l n m := h.elim fun B R => ⟨B, R.any⟩
theorem RuAt.mono {H1 H' H'' : Hp} {a : Addr} {l : PySem.Str} {n : Int} {m : Nat} {B : Kept} (R : RuAt Tp H1 H' a l n m B) (s : Same H' H'') : RuAt Tp H1 H'' a l n m B :=
  ⟨R.same.trans s, s _ _ R.at_, fun p m => s _ _ (R.kept p m), R.ok, R.few, R.nd, R.old⟩
theorem Ru.mono {H1 H' H'' : Hp} {a : Addr} {l : PySem.Str} {n : Int} {m : Nat} (h : Ru Tp H1 H' a l n m) (s : Same H' H'') : Ru Tp H1 H'' a l n m := h.elim fun B R => ⟨B, R.mono s⟩
theorem Ru.le {H1 H' : Hp} {a : Addr} {l : PySem.Str} {n : Int} {m k : Nat} (h : Ru Tp H1 H' a l n m) (e : m ≤ k) : Ru Tp H1 H' a l n k := h.elim fun B R => ⟨B, R.same, R.at_, R.kept, R.ok, Nat.le_trans R.few e, R.nd, R.old⟩
theorem Ru.same {H1 H' : Hp} {a : Addr} {l : PySem.Str} {n : Int} {m : Nat} (h : Ru Tp H1 H' a l n m) : Same H1 H' := h.elim fun _ R => R.same
theorem Ru.base {H0 H1 H' : Hp} {a : Addr} {l : PySem.Str} {n : Int} {m : Nat} (h : Ru Tp H1 H' a l n m) (s : Same H0 H1) : Ru Tp H0 H' a l n m := h.elim fun B R => ⟨B, s.trans R.same, R.at_, R.kept, R.ok, R.few, R.nd, R.old⟩
theorem RuAt.look {H1 H' : Hp} {a q : Addr} {l : PySem.Str} {n : Int} {m : Nat} {B : Kept} {o : HO} (R : RuAt Tp H1 H' a l n m B) (nq : H' q = none) : (upd H' q o) a = some (.lst (refsK B)) := same_new nq _ _ R.at_
theorem RuAt.sz {H1 H' : Hp} {a : Addr} {l : PySem.Str} {n : Int} {m : Nat} {B : Kept} (R : RuAt Tp H1 H' a l n m B) (h : m ≤ 10000) : (refsK B).length < sizeLine := by
  unfold refsK
  rw [List.length_map]
  exact Nat.lt_of_le_of_lt (Nat.le_trans R.few h) (by decide)
theorem RuAt.add {H1 H' : Hp} {a q : Addr} {l : PySem.Str} {n : Int} {m : Nat} {B : Kept} {r : Rl} (R : RuAt Tp H1 H' a l n m B) (na : H1 a = none) (nq : H' q = none) (ok : RlOk l n r) (hn : ∀ p ∈ B, p.2.k3 ≠ r.k3) (ho : r.tp ∈ Tp) :
    RuAt Tp H1 (upd (upd H' q (.tup r.vs)) a (.lst (refsK B ++ [V.ref q]))) a l n (m + 1) (B ++ [(q, r)]) := by
  have t := same_new (o := HO.tup r.vs) nq
  have qa : q ≠ a := fun z => by rw [z, R.at_] at nq; cases nq
  refine ⟨same_mut (R.same.trans t) na, ?_, fun p m => ?_, fun p m => ?_, ?_, nd_add R.nd hn, fun p mp => ?_⟩
  · rw [upd_same]
    unfold refsK
    rw [List.map_append] <;> rfl
  · rcases List.mem_append.mp m with m | m
    · have z := t _ _ (R.kept p m)
      have pa : p.1 ≠ a := fun y => by
        have x := R.kept p m
        rw [y, R.at_] at x
        cases x
      rw [upd_ne pa]
      exact z
    · rw [List.mem_singleton.mp m]
      rw [upd_ne qa, upd_same]
  · rcases List.mem_append.mp m with m | m
    · exact R.ok p m
    · rw [List.mem_singleton.mp m]
      exact ok
  · rw [List.length_append]
    have := R.few
    show B.length + 1 ≤ m + 1
    omega
  · rcases List.mem_append.mp mp with mp | mp
    · exact R.old p mp
    · rw [List.mem_singleton.mp mp]
      exact ho
/-! parts of right rules -/
theorem keepD (t : PySem.Str) : Deed t keep0 nil0 := ⟨.inl rfl, fun _ => .inl rfl, fun z => absurd z (by decide +kernel), fun _ => rfl⟩
theorem pushD (t : PySem.Str) {s : PySem.Str} (h : symB s = true) : Deed t push0 s := ⟨.inr (.inr (.inl rfl)), fun _ => .inr rfl, fun _ => h, fun z => absurd z (by decide +kernel)⟩
theorem popD {t : PySem.Str} (h : t ≠ nil0) : Deed t pop0 nil0 := ⟨.inr (.inl rfl), fun z => absurd z h, fun z => absurd z (by decide +kernel), fun _ => rfl⟩
theorem swapD {t s : PySem.Str} (h : t ≠ nil0) (h2 : symB s = true) : Deed t swap0 s := ⟨.inr (.inr (.inr rfl)), fun z => absurd z h, fun _ => h2, fun z => absurd z (by decide +kernel)⟩
theorem mv0 (s : PySem.Str) : Mv s 0 := ⟨by decide, by decide, fun _ => by decide, fun _ => by decide⟩
theorem mvR {s : PySem.Str} (h : s ≠ gt0) : Mv s 1 := ⟨by decide, by decide, fun _ => by decide, fun z => absurd z h⟩
theorem mvL {s : PySem.Str} (h : s ≠ lt0) : Mv s (-1) := ⟨by decide, by decide, fun z => absurd z h, fun _ => by decide⟩
theorem said0 : lowB nil0 = true ∧ nil0.length ≤ 3 := by decide +kernel
theorem sym_ne {s : PySem.Str} (h : symB s = true) : s ≠ nil0 := fun z => by
  rw [z] at h
  exact absurd h (by decide +kernel)
theorem sgnLt (l : PySem.Str) : Sgn l lt0 := ⟨60, by decide +kernel, .inl rfl⟩
theorem sgnGt (l : PySem.Str) : Sgn l gt0 := ⟨62, by decide +kernel, .inr (.inl rfl)⟩
theorem sgnIn {l : PySem.Str} {c : Nat} (h : c ∈ l.cps.toList) : Sgn l (sgn1 c) := ⟨c, rfl, .inr (.inr h)⟩
theorem low_of {l : PySem.Str} {c : Nat} (al : Alpha l) (h : c ∈ l.cps.toList) : 97 ≤ c ∧ c ≤ 122 := by
  have z := al.low
  unfold lowB at z
  have y := List.all_eq_true.mp z c h
  unfold lowC at y
  rw [Bool.and_eq_true, decide_eq_true_eq, decide_eq_true_eq] at y
  exact y
theorem ne_sgn {c d : Nat} (h : c ≠ d) : sgn1 c ≠ sgn1 d := fun z => h (by
  have y := congrArg (fun t : PySem.Str => t.cps[0]?) z
  exact Option.some.inj y)
theorem let_lt {l : PySem.Str} {c : Nat} (al : Alpha l) (h : c ∈ l.cps.toList) : sgn1 c ≠ lt0 := fun z => by
  have := low_of al h
  have e : lt0 = sgn1 60 := by decide +kernel
  rw [e] at z
  exact ne_sgn (show c ≠ 60 by omega) z
theorem let_gt {l : PySem.Str} {c : Nat} (al : Alpha l) (h : c ∈ l.cps.toList) : sgn1 c ≠ gt0 := fun z => by
  have := low_of al h
  have e : gt0 = sgn1 62 := by decide +kernel
  rw [e] at z
  exact ne_sgn (show c ≠ 62 by omega) z
theorem said1 {l : PySem.Str} {c : Nat} (al : Alpha l) (h : c ∈ l.cps.toList) : lowB (sgn1 c) = true ∧ (sgn1 c).length ≤ 3 := by
  have y := low_of al h
  refine ⟨?_, show 1 ≤ 3 by decide⟩
  show ([c] : List Nat).all lowC = true
  unfold lowC
  simp only [List.all_cons, List.all_nil, Bool.and_true, Bool.and_eq_true, decide_eq_true_eq]
  exact y
theorem lt_gt : lt0 ≠ gt0 := by decide +kernel
theorem three_at {one two : PySem.Str} (h1 : symB one = true) (h2 : symB two = true) {j : Nat} (h : j < 3) : ∃ t, ([V.str nil0, V.str one, V.str two] : List V)[j]? = some (.str t) ∧ Top t ∧ (j ≠ 0 → symB t = true) ∧ (t = nil0 ∨ t = one ∨ t = two) := by
  have c : j = 0 ∨ j = 1 ∨ j = 2 := by omega
  rcases c with rfl | rfl | rfl
  · exact ⟨nil0, rfl, .inr rfl, fun z => absurd rfl z, .inl rfl⟩
  · exact ⟨one, rfl, .inl h1, fun _ => h1, .inr (.inl rfl)⟩
  · exact ⟨two, rfl, .inl h2, fun _ => h2, .inr (.inr rfl)⟩
theorem mkRl {l sg tp de sy sa : PySem.Str} {n st af mv : Int} (h1 : 0 ≤ st ∧ st ≤ n - 1) (h2 : Sgn l sg) (h3 : Top tp) (h4 : 0 ≤ af ∧ af ≤ n - 1) (h5 : Mv sg mv) (h6 : Deed tp de sy) (h7 : lowB sa = true ∧ sa.length ≤ 3) : RlOk l n ⟨st, sg, tp, af, mv, de, sy, sa⟩ := ⟨h1, h2, h3, h4, h5, h6, h7⟩
theorem saidK : lowB (PySem.Str.ofString "k") = true ∧ (PySem.Str.ofString "k").length ≤ 3 := by decide +kernel
theorem saidB : lowB (PySem.Str.ofString "b") = true ∧ (PySem.Str.ofString "b").length ≤ 3 := by decide +kernel
theorem three_ix {one two t : PySem.Str} {i : Nat} (h : ([V.str nil0, V.str one, V.str two] : List V)[i]? = some (.str t)) : (tps one two)[i]? = some t := by
  have e : ([V.str nil0, V.str one, V.str two] : List V)[i]? = ((tps one two)[i]?).map V.str := by rw [← List.getElem?_map] <;> rfl
  rw [e] at h
  obtain ⟨x, ex, e2⟩ := Option.map_eq_some_iff.mp h
  rw [ex, V.str.inj e2]
theorem tps_old {Tp : List PySem.Str} {one two t : PySem.Str} (h0 : nil0 ∈ Tp) (h1 : one ∈ Tp) (h2 : two ∈ Tp) (h : t = nil0 ∨ t = one ∨ t = two) : t ∈ Tp := by
  rcases h with h | h | h <;> rw [h]
  · exact h0
  · exact h1
  · exact h2
theorem tps_nd {one two : PySem.Str} (o1 : symB one = true) (o2 : symB two = true) (d : one ≠ two) : (tps one two).Nodup := by
  have a := sym_ne o1
  have b := sym_ne o2
  refine List.nodup_cons.mpr ⟨fun m => ?_, List.nodup_cons.mpr ⟨fun m => ?_, List.pairwise_singleton _ _⟩⟩
  · rcases List.mem_cons.mp m with e | m
    · exact a e.symm
    · exact b (List.mem_singleton.mp m).symm
  · exact d (List.mem_singleton.mp m)
end Mk

set_option Elab.async false
set_option linter.unusedVariables false
set_option maxRecDepth 100000
set_option maxHeartbeats 8000000
namespace Mk
open PySem L2 Pk
section
variable {P : Program} {w : World} {K : PySem.W.Frag} {mg : PySem.Str → Option Value} {base : Heap}
/-! _law_climber -/
def fClimb (s g t : Nat) : Nat := if g = 0 then 9 * t + s else if g = 1 then 9 * t + 1 else 9 * t + 3 + 2 * (g - 2) + (s - 1)
def spSkel : Sp := fun vs H Q _ => ∃ (Tp : List PySem.Str) (l one two : PySem.Str), vs = [.str l, .str one, .str two] ∧ Alpha l ∧ l.length ≤ 3 ∧ symB one = true ∧ symB two = true ∧ one ≠ two ∧ nil0 ∈ Tp ∧ one ∈ Tp ∧ two ∈ Tp ∧ ∀ (p : Addr) (H' : Hp), H p = none → Ru Tp H H' p l 4 100 → Q (.ref p) H'
abbrev nClimber : List PySem.Str := ["letters", "one", "two", "rules", "top", "letter"]
theorem scClimber : FnScope nClimber ["letters", "one", "two"] (defScope sClimber) := ⟨rfl, rfl, rfl, by decide +kernel, rfl, by decide +kernel, by decide +kernel⟩
theorem ok_climber {f : Addr} {fd : FuncData} (F : Fun K "_law_climber" "_law_climber" sClimber f fd) : FnOk P w K mg base CX0 1 f fd ["letters", "one", "two"] spSkel := by
  refine F.ok scClimber (fun vs H Q E h => ?_) (fun cdv A outer s H vs Q E hr h => ?_)
  · obtain ⟨Tp, l, one, two, rfl, _⟩ := h
    rfl
  · obtain ⟨Tp, l, one, two, rfl, al, l3, o1, o2, d12, w0, w1, w2, k⟩ := h
    have nd := scClimber.nd
    have nS := sgs_nd al
    have nT := tps_nd o1 o2 d12
    refine ⟨_, (pss_cons (ps_set (i := 3) nd rfl (Or.inl rfl) (pe_lst pa_nil))
      (pss_cons (ps_for PassesOwn.never rfl (pi_list (pe_lst (pa_cons pe_str (pa_cons (pv 1) (pa_cons (pv 2) pa_nil))))) (pg_name (i := 4) nd rfl (Or.inl rfl))
        (pss_cons (ps_expr (pe_bm PySem.F.plainAttrs_list PySem.F.slot_list_append PySem.F.type_list_append mt_append (pv 3) (pa_cons (pe_tup (pa_cons pe_int (pa_cons pe_str (pa_cons (pv 4) (pa_cons pe_int (pa_cons pe_int (pa_cons pe_str (pa_cons pe_str (pa_cons pe_str pa_nil))))))))) pa_nil)))
        (pss_cons (ps_expr (pe_bm PySem.F.plainAttrs_list PySem.F.slot_list_append PySem.F.type_list_append mt_append (pv 3) (pa_cons (pe_tup (pa_cons pe_int (pa_cons pe_str (pa_cons (pv 4) (pa_cons pe_int (pa_cons (pe_un un_neg pe_int) (pa_cons pe_str (pa_cons pe_str (pa_cons pe_str pa_nil))))))))) pa_nil)))
        (pss_cons (ps_expr (pe_bm PySem.F.plainAttrs_list PySem.F.slot_list_append PySem.F.type_list_append mt_append (pv 3) (pa_cons (pe_tup (pa_cons pe_int (pa_cons pe_str (pa_cons (pv 4) (pa_cons pe_int (pa_cons pe_int (pa_cons pe_str (pa_cons pe_str (pa_cons pe_str pa_nil))))))))) pa_nil)))
        (pss_one (ps_for PassesOwn.never rfl (pi_str (pv 0)) (pg_name (i := 5) nd rfl (Or.inl rfl))
          (pss_cons (ps_expr (pe_bm PySem.F.plainAttrs_list PySem.F.slot_list_append PySem.F.type_list_append mt_append (pv 3) (pa_cons (pe_tup (pa_cons pe_int (pa_cons (pv 5) (pa_cons (pv 4) (pa_cons pe_int (pa_cons pe_int (pa_cons pe_str (pa_cons (pv 1) (pa_cons (pv 5) pa_nil))))))))) pa_nil)))
          (pss_one (ps_if (pt_cmpR op_eq (pv 4) pe_str (nomark _))
            (pss_one (ps_expr (pe_bm PySem.F.plainAttrs_list PySem.F.slot_list_append PySem.F.type_list_append mt_append (pv 3) (pa_cons (pe_tup (pa_cons pe_int (pa_cons (pv 5) (pa_cons (pv 4) (pa_cons pe_int (pa_cons (pe_un un_neg pe_int) (pa_cons pe_str (pa_cons pe_str (pa_cons pe_str pa_nil))))))))) pa_nil))))
            (pss_one (ps_expr (pe_bm PySem.F.plainAttrs_list PySem.F.slot_list_append PySem.F.type_list_append mt_append (pv 3) (pa_cons (pe_tup (pa_cons pe_int (pa_cons (pv 5) (pa_cons (pv 4) (pa_cons pe_int (pa_cons (pe_un un_neg pe_int) (pa_cons pe_str (pa_cons (pv 2) (pa_cons pe_str pa_nil))))))))) pa_nil)))))))))))))
      (pss_one (ps_ret (pv 3))))), ?_⟩
    refine ⟨Nat.zero_le _, fun a na => ?_⟩
    have R0 : RsAt Tp (rkOf fClimb (sgs l) (tps one two)) H (upd H a (.lst [])) a l 4 0 [] := RsAt.nil (same_new na) upd_same
    have ls : l.cps.size ≤ 3 := l3
    dsimp only [gName]
    show (tSeq _ _) _ _ (upd H a (.lst []))
    generalize upd H a (.lst []) = H1 at R0 ⊢
    refine ⟨_, rfl, _, rfl, show 3 ≤ sizeLine by decide, fun b nb => ?_⟩
    have tb := same_new (o := HO.lst [V.str nil0, V.str one, V.str two]) nb
    have hb : (upd H1 b (.lst [V.str nil0, V.str one, V.str two])) b = some (.lst [V.str nil0, V.str one, V.str two]) := upd_same
    have ab : b ≠ a := fun z => by rw [z, R0.at_] at nb; cases nb
    refine ⟨b, rfl, ⟨_, SqL.of hb⟩, for_list (K := K) (a := b) (xs := [V.str nil0, V.str one, V.str two]) (fun i σ H' => H' b = some (.lst [V.str nil0, V.str one, V.str two]) ∧ Rs Tp (rkOf fClimb (sgs l) (tps one two)) H H' a l 4 (9 * i) ∧ ∃ v4 v5 : Option V, σ = [some (.str l), some (.str one), some (.str two), some (.ref a), v4, v5])
      ⟨hb, ⟨[], RsAt.nil (R0.same.trans tb) (tb _ _ R0.at_)⟩, _, _, rfl⟩ (fun i σ H' _ h => SqL.of h.1) ?_ ?_⟩
    · rintro i v σ H2 hi ⟨hb2, ⟨B, R⟩, v4, v5, rfl⟩
      have i3 : i < 3 := (List.getElem?_eq_some_iff.mp hi).1
      obtain ⟨t, et, tt, tn, t3⟩ := three_at o1 o2 i3
      have hT := three_ix et
      have ot := tps_old w0 w1 w2 t3
      have ev : V.str t = v := Option.some.inj (et.symm.trans hi)
      subst ev
      have keepB : ∀ {H' : Hp} {q : Addr} {o o' : HO}, H' q = none → H' b = some (.lst [V.str nil0, V.str one, V.str two]) → (upd (upd H' q o) a o') b = some (.lst [V.str nil0, V.str one, V.str two]) := fun nq e => by
        rw [upd_ne ab]
        exact same_new nq _ _ e
      -- three rules
      refine ⟨_, rfl, .inl ⟨rfl, _, SqL.of R.at_⟩, _, rfl, show 8 ≤ sizeLine by decide, fun q nq => ⟨a, _, _, rfl, rfl, R.look nq, R.sz (by omega), ?_⟩⟩
      have R1 := R.add na nq (r := ⟨0, lt0, t, 1, 1, keep0, nil0, nil0⟩) (mkRl (by decide) (sgnLt l) tt (by decide) (mvR lt_gt) (keepD t) said0) (rk_at nS nT (show (sgs l)[0]? = some lt0 from rfl) hT (by simp [fClimb] <;> omega)) ot
      refine ⟨_, rfl, .inl ⟨rfl, _, SqL.of R1.at_⟩, _, rfl, _, rfl, show 8 ≤ sizeLine by decide, fun q2 nq2 => ⟨a, _, _, rfl, rfl, R1.look nq2, R1.sz (by omega), ?_⟩⟩
      have R2 := R1.add na nq2 (r := ⟨1, gt0, t, 2, -1, keep0, nil0, nil0⟩) (mkRl (by decide) (sgnGt l) tt (by decide) (mvL lt_gt.symm) (keepD t) said0) (rk_at nS nT (show (sgs l)[1]? = some gt0 from rfl) hT (by simp [fClimb] <;> omega)) ot
      refine ⟨_, rfl, .inl ⟨rfl, _, SqL.of R2.at_⟩, _, rfl, show 8 ≤ sizeLine by decide, fun q3 nq3 => ⟨a, _, _, rfl, rfl, R2.look nq3, R2.sz (by omega), ?_⟩⟩
      have R3 := R2.add na nq3 (r := ⟨2, lt0, t, 0, 0, keep0, nil0, PySem.Str.ofString "k"⟩) (mkRl (by decide) (sgnLt l) tt (by decide) (mv0 _) (keepD t) saidK) (rk_at nS nT (show (sgs l)[0]? = some lt0 from rfl) hT (by simp [fClimb] <;> omega)) ot
      refine ⟨_, rfl, l, rfl, for_it walk_str (fun j σ H' => H' b = some (.lst [V.str nil0, V.str one, V.str two]) ∧ Rs Tp (rkOf fClimb (sgs l) (tps one two)) H H' a l 4 (9 * i + 3 + 2 * j) ∧ ∃ v5 : Option V, σ = [some (.str l), some (.str one), some (.str two), some (.ref a), some (.str t), v5])
        ⟨keepB nq3 (keepB nq2 (keepB nq hb2)), ⟨_, R3⟩, _, rfl⟩ (fun _ _ _ _ _ => trivial) ?_ ?_⟩
      · rintro j v σ H4 _ hj ⟨hb4, ⟨B4, R4⟩, v5, rfl⟩ ⟨rfl, c, hc, rfl⟩
        have mc : c ∈ l.cps.toList := List.mem_of_getElem? (by rw [Array.getElem?_toList]; exact hc)
        have hS : (sgs l)[j + 2]? = some (sgn1 c) := sgs_at (by rw [Array.getElem?_toList]; exact hc)
        refine ⟨_, rfl, .inl ⟨rfl, _, SqL.of R4.at_⟩, _, rfl, _, rfl, _, rfl, _, rfl, show 8 ≤ sizeLine by decide, fun q4 nq4 => ⟨a, _, _, rfl, rfl, R4.look nq4, R4.sz (by omega), ?_⟩⟩
        have R5 := R4.add na nq4 (r := ⟨1, sgn1 c, t, 1, 1, push0, one, sgn1 c⟩) (mkRl (by decide) (sgnIn mc) tt (by decide) (mvR (let_gt al mc)) (pushD t o1) (said1 al mc)) (rk_at nS nT hS hT (by simp [fClimb] <;> omega)) ot
        refine ⟨_, rfl, rfl, _, rfl, ?_⟩
        rw [show decide (V.str t = V.str (PySem.Str.ofString "")) = decide (t = nil0) from dec_str t nil0]
        refine ite2 (fun e => ?_) (fun e => ?_)
        · refine ⟨_, rfl, .inl ⟨rfl, _, SqL.of R5.at_⟩, _, rfl, _, rfl, _, rfl, show 8 ≤ sizeLine by decide, fun q5 nq5 => ⟨a, _, _, rfl, rfl, R5.look nq5, R5.sz (by omega), ?_⟩⟩
          have R6 := R5.add na nq5 (r := ⟨2, sgn1 c, t, 2, -1, keep0, nil0, nil0⟩) (mkRl (by decide) (sgnIn mc) tt (by decide) (mvL (let_lt al mc)) (keepD t) said0) (rk_at nS nT hS hT (by simp [fClimb] <;> omega)) ot
          exact ⟨keepB nq5 (keepB nq4 hb4), Rs.le ⟨_, R6⟩ (by omega), _, rfl⟩
        · have tne : t ≠ nil0 := fun z => e (decide_eq_true z)
          refine ⟨_, rfl, .inl ⟨rfl, _, SqL.of R5.at_⟩, _, rfl, _, rfl, _, rfl, _, rfl, show 8 ≤ sizeLine by decide, fun q5 nq5 => ⟨a, _, _, rfl, rfl, R5.look nq5, R5.sz (by omega), ?_⟩⟩
          have R6 := R5.add na nq5 (r := ⟨2, sgn1 c, t, 2, -1, swap0, two, nil0⟩) (mkRl (by decide) (sgnIn mc) tt (by decide) (mvL (let_lt al mc)) (swapD tne o2) said0) (rk_at nS nT hS hT (by simp [fClimb] <;> omega)) ot
          exact ⟨keepB nq5 (keepB nq4 hb4), Rs.le ⟨_, R6⟩ (by omega), _, rfl⟩
      · rintro σ H4 ⟨hb4, R4, v5, rfl⟩
        exact ⟨hb4, R4.le (by omega), _, _, rfl⟩
    · rintro σ H2 ⟨hb2, R, v4, v5, rfl⟩
      exact ⟨_, rfl, k a H2 na (R.le (show 9 * 3 ≤ 100 by decide)).any⟩
end
end Mk

set_option Elab.async false
set_option linter.unusedVariables false
set_option maxRecDepth 100000
set_option maxHeartbeats 8000000
namespace Mk
open PySem L2 Pk
theorem RsAt.mono {ρ : List Key → Nat} {H1 H' H'' : Hp} {a : Addr} {l : PySem.Str} {n : Int} {m : Nat} {B : Kept} (R : RsAt Tp ρ H1 H' a l n m B) (s : Same H' H'') : RsAt Tp ρ H1 H'' a l n m B := ⟨R.same.trans s, s _ _ R.at_, fun p m => s _ _ (R.kept p m), R.ok, R.few, R.rk, R.nd, R.old⟩
theorem rs_one1 {ρ : List Key → Nat} {H : Hp} {p1 a : Addr} {l : PySem.Str} {n : Int} {r1 : Rl} (n1 : H p1 = none) (o1 : RlOk l n r1) (na : (upd H p1 (.tup r1.vs)) a = none) (k1 : ρ r1.k3 = 0) (w1 : r1.tp ∈ Tp) :
    H a = none ∧ RsAt Tp ρ H (upd (upd H p1 (.tup r1.vs)) a (.lst [V.ref p1])) a l n 1 [(p1, r1)] := by
  have t1 := same_new (o := HO.tup r1.vs) n1
  have t3 := same_new (o := HO.lst [V.ref p1]) na
  refine ⟨t1.free na, t1.trans t3, upd_same, fun p m => ?_, fun p m => ?_, Nat.le_refl _, fun p m => ?_, List.pairwise_singleton _ _, fun p m => ?_⟩
  · rw [List.mem_singleton.mp m]
    exact t3 _ _ upd_same
  · rw [List.mem_singleton.mp m]
    exact o1
  · rw [List.mem_singleton.mp m]
    show ρ r1.k3 < 1
    omega
  · rw [List.mem_singleton.mp m]
    exact w1
theorem rs_two {ρ : List Key → Nat} {H : Hp} {p1 p2 a : Addr} {l : PySem.Str} {n : Int} {r1 r2 : Rl} (n1 : H p1 = none) (n2 : (upd H p1 (.tup r1.vs)) p2 = none) (o1 : RlOk l n r1) (o2 : RlOk l n r2) (na : (upd (upd H p1 (.tup r1.vs)) p2 (.tup r2.vs)) a = none) (k1 : ρ r1.k3 = 0) (k2 : ρ r2.k3 = 1) (w1 : r1.tp ∈ Tp) (w2 : r2.tp ∈ Tp) :
    H a = none ∧ RsAt Tp ρ H (upd (upd (upd H p1 (.tup r1.vs)) p2 (.tup r2.vs)) a (.lst [V.ref p1, V.ref p2])) a l n 2 [(p1, r1), (p2, r2)] := by
  have t1 := same_new (o := HO.tup r1.vs) n1
  have t2 := same_new (o := HO.tup r2.vs) n2
  have t3 := same_new (o := HO.lst [V.ref p1, V.ref p2]) na
  refine ⟨(t1.trans t2).free na, (t1.trans t2).trans t3, upd_same, fun p m => ?_, fun p m => ?_, Nat.le_refl _, fun p m => ?_, ?_, fun p m => ?_⟩
  · rcases List.mem_cons.mp m with rfl | m
    · exact t3 _ _ (t2 _ _ upd_same)
    · rw [List.mem_singleton.mp m]
      exact t3 _ _ upd_same
  · rcases List.mem_cons.mp m with rfl | m
    · exact o1
    · rw [List.mem_singleton.mp m]
      exact o2
  · rcases List.mem_cons.mp m with rfl | m
    · show ρ r1.k3 < 2
      omega
    · rw [List.mem_singleton.mp m]
      show ρ r2.k3 < 2
      omega
  · refine List.nodup_cons.mpr ⟨fun m => ?_, List.pairwise_singleton _ _⟩
    have e : r1.k3 = r2.k3 := List.mem_singleton.mp m
    rw [e] at k1
    omega
  · rcases List.mem_cons.mp m with rfl | m
    · exact w1
    · rw [List.mem_singleton.mp m]
      exact w2
theorem tp_in {one two x : PySem.Str} (h : x = one ∨ x = two) : ∃ i : Nat, (tps one two)[i]? = some x := by
  rcases h with h | h <;> rw [h]
  · exact ⟨1, rfl⟩
  · exact ⟨2, rfl⟩
theorem two_old {Tp : List PySem.Str} {one two x : PySem.Str} (h1 : one ∈ Tp) (h2 : two ∈ Tp) (h : x = one ∨ x = two) : x ∈ Tp := by
  rcases h with h | h <;> rw [h]
  · exact h1
  · exact h2
theorem two_at {one two : PySem.Str} (h1 : symB one = true) (h2 : symB two = true) (i : Nat) : ∃ s, atI [V.str one, V.str two] ((0 + (i : Int)) % 2) = some (.str s) ∧ symB s = true ∧ (s = one ∨ s = two) := by
  have c : (0 + (i : Int)) % 2 = 0 ∨ (0 + (i : Int)) % 2 = 1 := by omega
  rcases c with e | e <;> rw [e]
  · exact ⟨one, rfl, h1, .inl rfl⟩
  · exact ⟨two, rfl, h2, .inr rfl⟩
theorem let_at {l : PySem.Str} {i : Nat} (h : i < l.length) : ∃ c, atI l.cps.toList (0 + (i : Int)) = some c ∧ c ∈ l.cps.toList := by
  have h' : i < l.cps.toList.length := by rw [Array.length_toList]; exact h
  have e : l.cps.toList[i]? = some l.cps.toList[i] := List.getElem?_eq_getElem h'
  refine ⟨_, ?_, List.getElem_mem h'⟩
  rw [show (0 : Int) + (i : Int) = ((i : Nat) : Int) by omega]
  exact atI_nat e
section
variable {P : Program} {w : World} {K : PySem.W.Frag} {mg : PySem.Str → Option Value} {base : Heap}
/-! _law_scanner -/
def fScan (s g t : Nat) : Nat := if s = 2 then (if g = 1 then 1 else 30 + (g - 2)) else if s = 0 ∧ g = 0 then 0 else if 2 ≤ g then 2 + 8 * t + 2 * (g - 2) + s else 2 + 8 * t + 6 + (if g = 1 then 0 else 1)
abbrev nScanner : List PySem.Str := ["letters", "one", "two", "rules", "top", "k"]
theorem scScanner : FnScope nScanner ["letters", "one", "two"] (defScope sScanner) := ⟨rfl, rfl, rfl, by decide +kernel, rfl, by decide +kernel, by decide +kernel⟩
theorem ok_scanner {f : Addr} {fd : FuncData} (F : Fun K "_law_scanner" "_law_scanner" sScanner f fd) (T : TM mg) : FnOk P w K mg base CX0 1 f fd ["letters", "one", "two"] spSkel := by
  refine F.ok scScanner (fun vs H Q E h => ?_) (fun cdv A outer s H vs Q E hr h => ?_)
  · obtain ⟨Tp, l, one, two, rfl, _⟩ := h
    rfl
  · obtain ⟨Tp, l, one, two, rfl, al, l3, o1, o2, d12, w0, w1, w2, k⟩ := h
    have nd := scScanner.nd
    have nS := sgs_nd al
    have nT := tps_nd o1 o2 d12
    refine ⟨_, (pss_cons (ps_set (i := 3) nd rfl (Or.inl rfl) (pe_lst (pa_cons (pe_tup (pa_cons pe_int (pa_cons pe_str (pa_cons pe_str (pa_cons pe_int (pa_cons pe_int (pa_cons pe_str (pa_cons pe_str (pa_cons pe_str pa_nil))))))))) (pa_cons (pe_tup (pa_cons pe_int (pa_cons pe_str (pa_cons pe_str (pa_cons pe_int (pa_cons pe_int (pa_cons pe_str (pa_cons pe_str (pa_cons pe_str pa_nil))))))))) pa_nil))))
      (pss_cons (ps_for PassesOwn.never rfl (pi_list (pe_lst (pa_cons pe_str (pa_cons (pv 1) (pa_cons (pv 2) pa_nil))))) (pg_name (i := 4) nd rfl (Or.inl rfl))
        (pss_cons (ps_for PassesOwn.never rfl (pi_range1 (by rfl) T.range (pa_cons (pe_callB call_len_str (by rfl) T.len PySem.boot_len (pa_cons (pv 0) pa_nil)) pa_nil)) (pg_name (i := 5) nd rfl (Or.inl rfl))
          (pss_cons (ps_expr (pe_bm PySem.F.plainAttrs_list PySem.F.slot_list_append PySem.F.type_list_append mt_append (pv 3) (pa_cons (pe_tup (pa_cons pe_int (pa_cons (pe_ix ix_str (pv 0) (pv 5) fun _ _ => rfl) (pa_cons (pv 4) (pa_cons pe_int (pa_cons pe_int (pa_cons pe_str (pa_cons (pe_ix ix_list (pe_lst (pa_cons (pv 1) (pa_cons (pv 2) pa_nil))) (pe_op op_mod (pv 5) pe_int) fun _ _ => rfl) (pa_cons pe_str pa_nil))))))))) pa_nil)))
          (pss_one (ps_expr (pe_bm PySem.F.plainAttrs_list PySem.F.slot_list_append PySem.F.type_list_append mt_append (pv 3) (pa_cons (pe_tup (pa_cons pe_int (pa_cons (pe_ix ix_str (pv 0) (pv 5) fun _ _ => rfl) (pa_cons (pv 4) (pa_cons pe_int (pa_cons (pe_un un_neg pe_int) (pa_cons pe_str (pa_cons pe_str (pa_cons (pe_ix ix_str (pv 0) (pv 5) fun _ _ => rfl) pa_nil))))))))) pa_nil))))))
        (pss_cons (ps_expr (pe_bm PySem.F.plainAttrs_list PySem.F.slot_list_append PySem.F.type_list_append mt_append (pv 3) (pa_cons (pe_tup (pa_cons pe_int (pa_cons pe_str (pa_cons (pv 4) (pa_cons pe_int (pa_cons (pe_un un_neg pe_int) (pa_cons pe_str (pa_cons pe_str (pa_cons pe_str pa_nil))))))))) pa_nil)))
        (pss_one (ps_expr (pe_bm PySem.F.plainAttrs_list PySem.F.slot_list_append PySem.F.type_list_append mt_append (pv 3) (pa_cons (pe_tup (pa_cons pe_int (pa_cons pe_str (pa_cons (pv 4) (pa_cons pe_int (pa_cons pe_int (pa_cons pe_str (pa_cons pe_str (pa_cons pe_str pa_nil))))))))) pa_nil)))))))
      (pss_cons (ps_for PassesOwn.never rfl (pi_range1 (by rfl) T.range (pa_cons (pe_callB call_len_str (by rfl) T.len PySem.boot_len (pa_cons (pv 0) pa_nil)) pa_nil)) (pg_name (i := 5) nd rfl (Or.inl rfl))
        (pss_one (ps_expr (pe_bm PySem.F.plainAttrs_list PySem.F.slot_list_append PySem.F.type_list_append mt_append (pv 3) (pa_cons (pe_tup (pa_cons pe_int (pa_cons (pe_ix ix_str (pv 0) (pv 5) fun _ _ => rfl) (pa_cons (pe_ix ix_list (pe_lst (pa_cons (pv 1) (pa_cons (pv 2) pa_nil))) (pe_op op_mod (pv 5) pe_int) fun _ _ => rfl) (pa_cons pe_int (pa_cons pe_int (pa_cons pe_str (pa_cons pe_str (pa_cons pe_str pa_nil))))))))) pa_nil)))))
      (pss_one (ps_ret (pv 3)))))), ?_⟩
    have szl : l.length ≤ sizeLine := Nat.le_trans l3 (by decide)
    refine ⟨show 8 ≤ sizeLine by decide, fun p1 n1 => ⟨show 8 ≤ sizeLine by decide, fun p2 n2 => ⟨show 2 ≤ sizeLine by decide, fun a na0 => ?_⟩⟩⟩
    obtain ⟨na, R0⟩ := rs_two (ρ := rkOf fScan (sgs l) (tps one two)) (l := l) (n := 4) (r1 := ⟨0, lt0, nil0, 0, 1, keep0, nil0, nil0⟩) (r2 := ⟨2, gt0, nil0, 3, 0, keep0, nil0, PySem.Str.ofString "b"⟩) n1 n2 (mkRl (by decide) (sgnLt l) (.inr rfl) (by decide) (mvR lt_gt) (keepD _) said0) (mkRl (by decide) (sgnGt l) (.inr rfl) (by decide) (mv0 _) (keepD _) saidB) na0 (rk_at nS nT (show (sgs l)[0]? = some lt0 from rfl) (show (tps one two)[0]? = some nil0 from rfl) (by simp [fScan])) (rk_at nS nT (show (sgs l)[1]? = some gt0 from rfl) (show (tps one two)[0]? = some nil0 from rfl) (by simp [fScan])) w0 w0
    refine ⟨_, rfl, _, rfl, show 3 ≤ sizeLine by decide, fun b nb => ?_⟩
    have ab : b ≠ a := fun z => by
      rw [z] at nb
      have x := R0.at_.symm.trans nb
      cases x
    refine ⟨b, rfl, ⟨_, SqL.of upd_same⟩, for_list (K := K) (a := b) (xs := [V.str nil0, V.str one, V.str two]) (fun i σ H' => H' b = some (.lst [V.str nil0, V.str one, V.str two]) ∧ Rs Tp (rkOf fScan (sgs l) (tps one two)) H H' a l 4 (2 + 8 * i) ∧ ∃ v4 v5 : Option V, σ = [some (.str l), some (.str one), some (.str two), some (.ref a), v4, v5])
      ⟨upd_same, ⟨_, R0.mono (same_new nb)⟩, _, _, rfl⟩ (fun i σ H' _ h => SqL.of h.1) ?_ ?_⟩
    · rintro i v σ H2 hi ⟨hb2, R2, v4, v5, rfl⟩
      have i3 : i < 3 := (List.getElem?_eq_some_iff.mp hi).1
      obtain ⟨t, et, tt, tn, t3⟩ := three_at o1 o2 i3
      have hT := three_ix et
      have ot := tps_old w0 w1 w2 t3
      have ev : V.str t = v := Option.some.inj (et.symm.trans hi)
      subst ev
      have keepB : ∀ {H' : Hp} {q : Addr} {o o' : HO}, H' q = none → H' b = some (.lst [V.str nil0, V.str one, V.str two]) → (upd (upd H' q o) a o') b = some (.lst [V.str nil0, V.str one, V.str two]) := fun nq e => by
        rw [upd_ne ab]
        exact same_new nq _ _ e
      refine ⟨_, rfl, l, rfl, szl, _, rfl, by omega, by omega, for_range (lo := 0) (n := ((l.length : Nat) : Int).toNat) (fun j σ H' => H' b = some (.lst [V.str nil0, V.str one, V.str two]) ∧ Rs Tp (rkOf fScan (sgs l) (tps one two)) H H' a l 4 (2 + 8 * i + 2 * j) ∧ ∃ v5 : Option V, σ = [some (.str l), some (.str one), some (.str two), some (.ref a), some (.str t), v5])
        ⟨hb2, R2.le (by omega), _, rfl⟩ ?_ ?_⟩
      · rintro j σ H4 hj ⟨hb4, ⟨B4, R4⟩, v5, rfl⟩
        obtain ⟨c, ec, mc⟩ := let_at (l := l) (i := j) (by omega)
        have hS : (sgs l)[j + 2]? = some (sgn1 c) := sgs_ix ec (by omega)
        obtain ⟨x, ex, ox, x2⟩ := two_at o1 o2 j
        obtain ⟨iX, hX⟩ := tp_in x2
        have oX := two_old w1 w2 x2
        refine ⟨_, rfl, .inl ⟨rfl, _, SqL.of R4.at_⟩, _, rfl, _, rfl, l, _, c, rfl, rfl, szl, ec, _, rfl, _, rfl, _, rfl, show 2 ≤ sizeLine by decide, fun u nu => ?_⟩
        have R4' := R4.mono (same_new (o := HO.lst [V.str one, V.str two]) nu)
        refine ⟨_, rfl, _, _, rfl, rfl, show (0 : Int) < 2 by decide, u, _, _, .str x, rfl, rfl, SqL.of upd_same, ex, show 8 ≤ sizeLine by decide, fun q4 nq4 => ⟨a, _, _, rfl, rfl, R4'.look nq4, R4'.sz (by omega), ?_⟩⟩
        have R5 := R4'.add na nq4 (r := ⟨0, sgn1 c, t, 0, 1, push0, x, nil0⟩) (mkRl (by decide) (sgnIn mc) tt (by decide) (mvR (let_gt al mc)) (pushD t ox) said0) (rk_at nS nT hS hT (by simp [fScan] <;> omega)) ot
        refine ⟨_, rfl, .inl ⟨rfl, _, SqL.of R5.at_⟩, _, rfl, _, rfl, l, _, c, rfl, rfl, szl, ec, _, rfl, _, rfl, _, rfl, _, rfl, l, _, c, rfl, rfl, szl, ec, show 8 ≤ sizeLine by decide, fun q5 nq5 => ⟨a, _, _, rfl, rfl, R5.look nq5, R5.sz (by omega), ?_⟩⟩
        have R6 := R5.add na nq5 (r := ⟨1, sgn1 c, t, 1, -1, keep0, nil0, sgn1 c⟩) (mkRl (by decide) (sgnIn mc) tt (by decide) (mvL (let_lt al mc)) (keepD t) (said1 al mc)) (rk_at nS nT hS hT (by simp [fScan] <;> omega)) ot
        exact ⟨keepB nq5 (keepB nq4 (same_new nu _ _ hb4)), Rs.le ⟨_, R6⟩ (by omega), _, rfl⟩
      · rintro σ H4 ⟨hb4, ⟨B4, R4⟩, v5, rfl⟩
        have lN : l.length ≤ 3 := l3
        replace R4 := R4.le (show _ ≤ 2 + 8 * i + 6 by omega)
        refine ⟨_, rfl, .inl ⟨rfl, _, SqL.of R4.at_⟩, _, rfl, _, rfl, show 8 ≤ sizeLine by decide, fun q4 nq4 => ⟨a, _, _, rfl, rfl, R4.look nq4, R4.sz (by omega), ?_⟩⟩
        have R5 := R4.add na nq4 (r := ⟨0, gt0, t, 1, -1, keep0, nil0, nil0⟩) (mkRl (by decide) (sgnGt l) tt (by decide) (mvL lt_gt.symm) (keepD t) said0) (rk_at nS nT (show (sgs l)[1]? = some gt0 from rfl) hT (by simp [fScan] <;> omega)) ot
        refine ⟨_, rfl, .inl ⟨rfl, _, SqL.of R5.at_⟩, _, rfl, show 8 ≤ sizeLine by decide, fun q5 nq5 => ⟨a, _, _, rfl, rfl, R5.look nq5, R5.sz (by omega), ?_⟩⟩
        have R6 := R5.add na nq5 (r := ⟨1, lt0, t, 2, 1, keep0, nil0, nil0⟩) (mkRl (by decide) (sgnLt l) tt (by decide) (mvR lt_gt) (keepD t) said0) (rk_at nS nT (show (sgs l)[0]? = some lt0 from rfl) hT (by simp [fScan] <;> omega)) ot
        exact ⟨keepB nq5 (keepB nq4 hb4), Rs.le ⟨_, R6⟩ (by omega), _, _, rfl⟩
    · rintro σ H2 ⟨hb2, R2, v4, v5, rfl⟩
      refine ⟨_, rfl, l, rfl, szl, _, rfl, by omega, by omega, for_range (lo := 0) (n := ((l.length : Nat) : Int).toNat) (fun j σ H' => Rs Tp (rkOf fScan (sgs l) (tps one two)) H H' a l 4 (30 + j) ∧ ∃ v5 : Option V, σ = [some (.str l), some (.str one), some (.str two), some (.ref a), v4, v5])
        ⟨R2.le (show 2 + 8 * 3 ≤ 30 by decide), _, rfl⟩ ?_ ?_⟩
      · rintro j σ H4 hj ⟨⟨B4, R4⟩, v5, rfl⟩
        obtain ⟨c, ec, mc⟩ := let_at (l := l) (i := j) (by omega)
        have hS : (sgs l)[j + 2]? = some (sgn1 c) := sgs_ix ec (by omega)
        obtain ⟨x, ex, ox, x2⟩ := two_at o1 o2 j
        obtain ⟨iX, hX⟩ := tp_in x2
        have oX := two_old w1 w2 x2
        refine ⟨_, rfl, .inl ⟨rfl, _, SqL.of R4.at_⟩, _, rfl, _, rfl, l, _, c, rfl, rfl, szl, ec, _, rfl, _, rfl, show 2 ≤ sizeLine by decide, fun u nu => ?_⟩
        have R4' := R4.mono (same_new (o := HO.lst [V.str one, V.str two]) nu)
        refine ⟨_, rfl, _, _, rfl, rfl, show (0 : Int) < 2 by decide, u, _, _, .str x, rfl, rfl, SqL.of upd_same, ex, show 8 ≤ sizeLine by decide, fun q4 nq4 => ⟨a, _, _, rfl, rfl, R4'.look nq4, R4'.sz (by omega), ?_⟩⟩
        have R5 := R4'.add na nq4 (r := ⟨2, sgn1 c, x, 2, 1, pop0, nil0, nil0⟩) (mkRl (by decide) (sgnIn mc) (.inl ox) (by decide) (mvR (let_gt al mc)) (popD (sym_ne ox)) said0) (rk_at nS nT hS hX (by simp [fScan] <;> omega)) oX
        exact ⟨Rs.le ⟨_, R5⟩ (by omega), _, rfl⟩
      · rintro σ H4 ⟨R4, v5, rfl⟩
        exact ⟨_, rfl, k a H4 na (R4.le (by omega)).any⟩
end
end Mk

set_option Elab.async false
set_option linter.unusedVariables false
set_option maxRecDepth 100000
set_option maxHeartbeats 8000000
namespace Mk
open PySem L2 Pk
section
variable {P : Program} {w : World} {K : PySem.W.Frag} {mg : PySem.Str → Option Value} {base : Heap}
/-! _law_restorer -/
def fRest (s g t : Nat) : Nat := if s = 0 ∧ g = 0 then 0 else if g = 1 then 1 + 18 * t else if g = 0 then 1 + 18 * t + (if s = 1 then 1 else 2) else 1 + 18 * t + 3 + 5 * (g - 2) + (if s = 3 then 2 else if s = 2 then 3 else s)
def spSkel5 : Sp := fun vs H Q _ => ∃ (Tp : List PySem.Str) (l one two : PySem.Str), vs = [.str l, .str one, .str two] ∧ Alpha l ∧ l.length ≤ 3 ∧ symB one = true ∧ symB two = true ∧ one ≠ two ∧ nil0 ∈ Tp ∧ one ∈ Tp ∧ two ∈ Tp ∧ ∀ (p : Addr) (H' : Hp), H p = none → Ru Tp H H' p l 5 100 → Q (.ref p) H'
abbrev nRestorer : List PySem.Str := ["letters", "one", "two", "rules", "top", "k", "mine"]
theorem scRestorer : FnScope nRestorer ["letters", "one", "two"] (defScope sRestorer) := ⟨rfl, rfl, rfl, by decide +kernel, rfl, by decide +kernel, by decide +kernel⟩
theorem ok_restorer {f : Addr} {fd : FuncData} (F : Fun K "_law_restorer" "_law_restorer" sRestorer f fd) (T : TM mg) : FnOk P w K mg base CX0 1 f fd ["letters", "one", "two"] spSkel5 := by
  refine F.ok scRestorer (fun vs H Q E h => ?_) (fun cdv A outer s H vs Q E hr h => ?_)
  · obtain ⟨Tp, l, one, two, rfl, _⟩ := h
    rfl
  · obtain ⟨Tp, l, one, two, rfl, al, l3, o1, o2, d12, w0, w1, w2, k⟩ := h
    have nd := scRestorer.nd
    have nS := sgs_nd al
    have nT := tps_nd o1 o2 d12
    refine ⟨_, (pss_cons (ps_set (i := 3) nd rfl (Or.inl rfl) (pe_lst (pa_cons (pe_tup (pa_cons pe_int (pa_cons pe_str (pa_cons pe_str (pa_cons pe_int (pa_cons pe_int (pa_cons pe_str (pa_cons pe_str (pa_cons pe_str pa_nil))))))))) pa_nil)))
      (pss_cons (ps_for PassesOwn.never rfl (pi_list (pe_lst (pa_cons pe_str (pa_cons (pv 1) (pa_cons (pv 2) pa_nil))))) (pg_name (i := 4) nd rfl (Or.inl rfl))
        (pss_cons (ps_expr (pe_bm PySem.F.plainAttrs_list PySem.F.slot_list_append PySem.F.type_list_append mt_append (pv 3) (pa_cons (pe_tup (pa_cons pe_int (pa_cons pe_str (pa_cons (pv 4) (pa_cons pe_int (pa_cons (pe_un un_neg pe_int) (pa_cons pe_str (pa_cons pe_str (pa_cons pe_str pa_nil))))))))) pa_nil)))
        (pss_cons (ps_expr (pe_bm PySem.F.plainAttrs_list PySem.F.slot_list_append PySem.F.type_list_append mt_append (pv 3) (pa_cons (pe_tup (pa_cons pe_int (pa_cons pe_str (pa_cons (pv 4) (pa_cons pe_int (pa_cons pe_int (pa_cons pe_str (pa_cons pe_str (pa_cons pe_str pa_nil))))))))) pa_nil)))
        (pss_cons (ps_expr (pe_bm PySem.F.plainAttrs_list PySem.F.slot_list_append PySem.F.type_list_append mt_append (pv 3) (pa_cons (pe_tup (pa_cons pe_int (pa_cons pe_str (pa_cons (pv 4) (pa_cons pe_int (pa_cons pe_int (pa_cons pe_str (pa_cons pe_str (pa_cons pe_str pa_nil))))))))) pa_nil)))
        (pss_one (ps_for PassesOwn.never rfl (pi_range1 (by rfl) T.range (pa_cons (pe_callB call_len_str (by rfl) T.len PySem.boot_len (pa_cons (pv 0) pa_nil)) pa_nil)) (pg_name (i := 5) nd rfl (Or.inl rfl))
          (pss_cons (ps_set (i := 6) nd rfl (Or.inl rfl) (pe_ix ix_list (pe_lst (pa_cons (pv 1) (pa_cons (pv 2) pa_nil))) (pe_op op_mod (pv 5) pe_int) fun _ _ => rfl))
          (pss_cons (ps_expr (pe_bm PySem.F.plainAttrs_list PySem.F.slot_list_append PySem.F.type_list_append mt_append (pv 3) (pa_cons (pe_tup (pa_cons pe_int (pa_cons (pe_ix ix_str (pv 0) (pv 5) fun _ _ => rfl) (pa_cons (pv 4) (pa_cons pe_int (pa_cons pe_int (pa_cons pe_str (pa_cons (pv 6) (pa_cons pe_str pa_nil))))))))) pa_nil)))
          (pss_cons (ps_expr (pe_bm PySem.F.plainAttrs_list PySem.F.slot_list_append PySem.F.type_list_append mt_append (pv 3) (pa_cons (pe_tup (pa_cons pe_int (pa_cons (pe_ix ix_str (pv 0) (pv 5) fun _ _ => rfl) (pa_cons (pv 4) (pa_cons pe_int (pa_cons (pe_un un_neg pe_int) (pa_cons pe_str (pa_cons pe_str (pa_cons pe_str pa_nil))))))))) pa_nil)))
          (pss_cons (ps_expr (pe_bm PySem.F.plainAttrs_list PySem.F.slot_list_append PySem.F.type_list_append mt_append (pv 3) (pa_cons (pe_tup (pa_cons pe_int (pa_cons (pe_ix ix_str (pv 0) (pv 5) fun _ _ => rfl) (pa_cons (pv 4) (pa_cons pe_int (pa_cons (pe_un un_neg pe_int) (pa_cons pe_str (pa_cons (pv 6) (pa_cons pe_str pa_nil))))))))) pa_nil)))
          (C8.pss_cut (ps_if (pt_cmpR op_eq (pv 4) (pv 6) (nomark _))
            (pss_one (ps_expr (pe_bm PySem.F.plainAttrs_list PySem.F.slot_list_append PySem.F.type_list_append mt_append (pv 3) (pa_cons (pe_tup (pa_cons pe_int (pa_cons (pe_ix ix_str (pv 0) (pv 5) fun _ _ => rfl) (pa_cons (pv 4) (pa_cons pe_int (pa_cons pe_int (pa_cons pe_str (pa_cons pe_str (pa_cons (pe_ix ix_str (pv 0) (pv 5) fun _ _ => rfl) pa_nil))))))))) pa_nil))))
            (pss_one (ps_if (pt_cmpR op_ne (pv 4) pe_str (nomark _))
              (pss_one (ps_expr (pe_bm PySem.F.plainAttrs_list PySem.F.slot_list_append PySem.F.type_list_append mt_append (pv 3) (pa_cons (pe_tup (pa_cons pe_int (pa_cons (pe_ix ix_str (pv 0) (pv 5) fun _ _ => rfl) (pa_cons (pv 4) (pa_cons pe_int (pa_cons (pe_un un_neg pe_int) (pa_cons pe_str (pa_cons pe_str (pa_cons pe_str pa_nil))))))))) pa_nil))))
              pss_nil)))
          (pss_one (ps_if (pt_cmpR op_ne (pv 4) pe_str (nomark _))
            (pss_one (ps_expr (pe_bm PySem.F.plainAttrs_list PySem.F.slot_list_append PySem.F.type_list_append mt_append (pv 3) (pa_cons (pe_tup (pa_cons pe_int (pa_cons (pe_ix ix_str (pv 0) (pv 5) fun _ _ => rfl) (pa_cons (pv 4) (pa_cons pe_int (pa_cons pe_int (pa_cons pe_str (pa_cons pe_str (pa_cons pe_str pa_nil))))))))) pa_nil))))
            pss_nil)))))))))))))
      (pss_one (ps_ret (pv 3))))), ?_⟩
    have szl : l.length ≤ sizeLine := Nat.le_trans l3 (by decide)
    refine ⟨show 8 ≤ sizeLine by decide, fun p1 n1 => ⟨show 1 ≤ sizeLine by decide, fun a na0 => ?_⟩⟩
    obtain ⟨na, R0⟩ := rs_one1 (ρ := rkOf fRest (sgs l) (tps one two)) (l := l) (n := 5) (r1 := ⟨0, lt0, nil0, 0, 1, keep0, nil0, nil0⟩) n1 (mkRl (by decide) (sgnLt l) (.inr rfl) (by decide) (mvR lt_gt) (keepD _) said0) na0 (rk_at nS nT (show (sgs l)[0]? = some lt0 from rfl) (show (tps one two)[0]? = some nil0 from rfl) (by simp [fRest])) w0
    refine ⟨_, rfl, _, rfl, show 3 ≤ sizeLine by decide, fun b nb => ?_⟩
    have ab : b ≠ a := fun z => by
      rw [z] at nb
      have x := R0.at_.symm.trans nb
      cases x
    refine ⟨b, rfl, ⟨_, SqL.of upd_same⟩, for_list (K := K) (a := b) (xs := [V.str nil0, V.str one, V.str two]) (fun i σ H' => H' b = some (.lst [V.str nil0, V.str one, V.str two]) ∧ Rs Tp (rkOf fRest (sgs l) (tps one two)) H H' a l 5 (1 + 18 * i) ∧ ∃ v4 v5 v6 : Option V, σ = [some (.str l), some (.str one), some (.str two), some (.ref a), v4, v5, v6])
      ⟨upd_same, ⟨_, R0.mono (same_new nb)⟩, _, _, _, rfl⟩ (fun i σ H' _ h => SqL.of h.1) ?_ ?_⟩
    · rintro i v σ H2 hi ⟨hb2, ⟨B2, R⟩, v4, v5, v6, rfl⟩
      have i3 : i < 3 := (List.getElem?_eq_some_iff.mp hi).1
      obtain ⟨t, et, tt, tn, t3⟩ := three_at o1 o2 i3
      have hT := three_ix et
      have ot := tps_old w0 w1 w2 t3
      have ev : V.str t = v := Option.some.inj (et.symm.trans hi)
      subst ev
      have keepB : ∀ {H' : Hp} {q : Addr} {o o' : HO}, H' q = none → H' b = some (.lst [V.str nil0, V.str one, V.str two]) → (upd (upd H' q o) a o') b = some (.lst [V.str nil0, V.str one, V.str two]) := fun nq e => by
        rw [upd_ne ab]
        exact same_new nq _ _ e
      refine ⟨_, rfl, .inl ⟨rfl, _, SqL.of R.at_⟩, _, rfl, _, rfl, show 8 ≤ sizeLine by decide, fun q1 nq1 => ⟨a, _, _, rfl, rfl, R.look nq1, R.sz (by omega), ?_⟩⟩
      have R1 := R.add na nq1 (r := ⟨0, gt0, t, 1, -1, keep0, nil0, nil0⟩) (mkRl (by decide) (sgnGt l) tt (by decide) (mvL lt_gt.symm) (keepD t) said0) (rk_at nS nT (show (sgs l)[1]? = some gt0 from rfl) hT (by simp [fRest] <;> omega)) ot
      refine ⟨_, rfl, .inl ⟨rfl, _, SqL.of R1.at_⟩, _, rfl, show 8 ≤ sizeLine by decide, fun q2 nq2 => ⟨a, _, _, rfl, rfl, R1.look nq2, R1.sz (by omega), ?_⟩⟩
      have R2 := R1.add na nq2 (r := ⟨1, lt0, t, 2, 1, keep0, nil0, nil0⟩) (mkRl (by decide) (sgnLt l) tt (by decide) (mvR lt_gt) (keepD t) said0) (rk_at nS nT (show (sgs l)[0]? = some lt0 from rfl) hT (by simp [fRest] <;> omega)) ot
      refine ⟨_, rfl, .inl ⟨rfl, _, SqL.of R2.at_⟩, _, rfl, show 8 ≤ sizeLine by decide, fun q3 nq3 => ⟨a, _, _, rfl, rfl, R2.look nq3, R2.sz (by omega), ?_⟩⟩
      have R3 := R2.add na nq3 (r := ⟨3, lt0, t, 4, 1, keep0, nil0, PySem.Str.ofString "b"⟩) (mkRl (by decide) (sgnLt l) tt (by decide) (mvR lt_gt) (keepD t) saidB) (rk_at nS nT (show (sgs l)[0]? = some lt0 from rfl) hT (by simp [fRest] <;> omega)) ot
      refine ⟨_, rfl, l, rfl, szl, _, rfl, by omega, by omega, for_range (lo := 0) (n := ((l.length : Nat) : Int).toNat) (fun j σ H' => H' b = some (.lst [V.str nil0, V.str one, V.str two]) ∧ Rs Tp (rkOf fRest (sgs l) (tps one two)) H H' a l 5 (1 + 18 * i + 3 + 5 * j) ∧ ∃ v5 v6 : Option V, σ = [some (.str l), some (.str one), some (.str two), some (.ref a), some (.str t), v5, v6])
        ⟨keepB nq3 (keepB nq2 (keepB nq1 hb2)), Rs.le ⟨_, R3⟩ (by omega), _, _, rfl⟩ ?_ ?_⟩
      · rintro j σ H4 hj ⟨hb4, ⟨B4, R4⟩, v5, v6, rfl⟩
        obtain ⟨c, ec, mc⟩ := let_at (l := l) (i := j) (by omega)
        have hS : (sgs l)[j + 2]? = some (sgn1 c) := sgs_ix ec (by omega)
        obtain ⟨x, ex, ox, _⟩ := two_at o1 o2 j
        refine ⟨_, rfl, _, rfl, show 2 ≤ sizeLine by decide, fun u nu => ?_⟩
        have R4' := R4.mono (same_new (o := HO.lst [V.str one, V.str two]) nu)
        refine ⟨_, rfl, _, _, rfl, rfl, show (0 : Int) < 2 by decide, u, _, _, .str x, rfl, rfl, SqL.of upd_same, ex, ?_⟩
        refine ⟨_, rfl, .inl ⟨rfl, _, SqL.of R4'.at_⟩, _, rfl, _, rfl, l, _, c, rfl, rfl, szl, ec, _, rfl, _, rfl, show 8 ≤ sizeLine by decide, fun q4 nq4 => ⟨a, _, _, rfl, rfl, R4'.look nq4, R4'.sz (by omega), ?_⟩⟩
        have R5 := R4'.add na nq4 (r := ⟨0, sgn1 c, t, 0, 1, push0, x, nil0⟩) (mkRl (by decide) (sgnIn mc) tt (by decide) (mvR (let_gt al mc)) (pushD t ox) said0) (rk_at nS nT hS hT (by simp [fRest] <;> omega)) ot
        refine ⟨_, rfl, .inl ⟨rfl, _, SqL.of R5.at_⟩, _, rfl, _, rfl, l, _, c, rfl, rfl, szl, ec, _, rfl, _, rfl, show 8 ≤ sizeLine by decide, fun q5 nq5 => ⟨a, _, _, rfl, rfl, R5.look nq5, R5.sz (by omega), ?_⟩⟩
        have R6 := R5.add na nq5 (r := ⟨1, sgn1 c, t, 1, -1, keep0, nil0, nil0⟩) (mkRl (by decide) (sgnIn mc) tt (by decide) (mvL (let_lt al mc)) (keepD t) said0) (rk_at nS nT hS hT (by simp [fRest] <;> omega)) ot
        refine ⟨_, rfl, .inl ⟨rfl, _, SqL.of R6.at_⟩, _, rfl, _, rfl, l, _, c, rfl, rfl, szl, ec, _, rfl, _, rfl, _, rfl, show 8 ≤ sizeLine by decide, fun q6 nq6 => ⟨a, _, _, rfl, rfl, R6.look nq6, R6.sz (by omega), ?_⟩⟩
        have R7 := R6.add na nq6 (r := ⟨3, sgn1 c, t, 3, -1, push0, x, nil0⟩) (mkRl (by decide) (sgnIn mc) tt (by decide) (mvL (let_lt al mc)) (pushD t ox) said0) (rk_at nS nT hS hT (by simp [fRest] <;> omega)) ot
        refine ⟨fun σ' H' => σ' = [some (.str l), some (.str one), some (.str two), some (.ref a), some (.str t), some (.int (0 + (j : Int))), some (.str x)] ∧ H' b = some (.lst [V.str nil0, V.str one, V.str two]) ∧ Rs Tp (rkOf fRest (sgs l) (tps one two)) H H' a l 5 (1 + 18 * i + 3 + 5 * j + 4), ?_, ?_⟩
        · refine ⟨_, rfl, _, rfl, rfl, _, rfl, ?_⟩
          rw [dec_str]
          refine ite2 (fun e => ?_) (fun e => ?_)
          · have tx : t ≠ nil0 := by rw [of_decide_eq_true e]; exact sym_ne ox
            refine ⟨_, rfl, .inl ⟨rfl, _, SqL.of R7.at_⟩, _, rfl, _, rfl, l, _, c, rfl, rfl, szl, ec, _, rfl, _, rfl, _, rfl, l, _, c, rfl, rfl, szl, ec, show 8 ≤ sizeLine by decide, fun q7 nq7 => ⟨a, _, _, rfl, rfl, R7.look nq7, R7.sz (by omega), ?_⟩⟩
            have R8 := R7.add na nq7 (r := ⟨2, sgn1 c, t, 2, 1, pop0, nil0, sgn1 c⟩) (mkRl (by decide) (sgnIn mc) tt (by decide) (mvR (let_gt al mc)) (popD tx) (said1 al mc)) (rk_at nS nT hS hT (by simp [fRest] <;> omega)) ot
            exact ⟨rfl, keepB nq7 (keepB nq6 (keepB nq5 (keepB nq4 (same_new (o := HO.lst [V.str one, V.str two]) nu _ _ hb4)))), Rs.le ⟨_, R8⟩ (by omega)⟩
          · refine ⟨_, rfl, rfl, _, rfl, ite2 (fun e2 => ?_) (fun _ => ⟨rfl, (keepB nq6 (keepB nq5 (keepB nq4 (same_new (o := HO.lst [V.str one, V.str two]) nu _ _ hb4)))), Rs.le ⟨_, R7⟩ (by omega)⟩)⟩
            refine ⟨_, rfl, .inl ⟨rfl, _, SqL.of R7.at_⟩, _, rfl, _, rfl, l, _, c, rfl, rfl, szl, ec, _, rfl, _, rfl, show 8 ≤ sizeLine by decide, fun q7 nq7 => ⟨a, _, _, rfl, rfl, R7.look nq7, R7.sz (by omega), ?_⟩⟩
            have R8 := R7.add na nq7 (r := ⟨2, sgn1 c, t, 3, -1, keep0, nil0, nil0⟩) (mkRl (by decide) (sgnIn mc) tt (by decide) (mvL (let_lt al mc)) (keepD t) said0) (rk_at nS nT hS hT (by simp [fRest] <;> omega)) ot
            exact ⟨rfl, keepB nq7 (keepB nq6 (keepB nq5 (keepB nq4 (same_new (o := HO.lst [V.str one, V.str two]) nu _ _ hb4)))), Rs.le ⟨_, R8⟩ (by omega)⟩
        rintro _ H8 ⟨rfl, hb8, ⟨B8, R8⟩⟩
        refine ⟨_, rfl, rfl, _, rfl, ite2 (fun e2 => ?_) (fun _ => ⟨hb8, Rs.le ⟨_, R8⟩ (by omega), _, _, rfl⟩)⟩
        have tx : t ≠ nil0 := fun z => by
          rw [z] at e2
          exact absurd e2 (by decide +kernel)
        refine ⟨_, rfl, .inl ⟨rfl, _, SqL.of R8.at_⟩, _, rfl, _, rfl, l, _, c, rfl, rfl, szl, ec, _, rfl, show 8 ≤ sizeLine by decide, fun q9 nq9 => ⟨a, _, _, rfl, rfl, R8.look nq9, R8.sz (by omega), ?_⟩⟩
        have R9 := R8.add na nq9 (r := ⟨4, sgn1 c, t, 2, 0, pop0, nil0, nil0⟩) (mkRl (by decide) (sgnIn mc) tt (by decide) (mv0 _) (popD tx) said0) (rk_at nS nT hS hT (by simp [fRest] <;> omega)) ot
        exact ⟨keepB nq9 hb8, Rs.le ⟨_, R9⟩ (by omega), _, _, rfl⟩
      · rintro σ H4 ⟨hb4, R4, v5, v6, rfl⟩
        exact ⟨hb4, R4.le (by omega), _, _, _, rfl⟩
    · rintro σ H2 ⟨hb2, R2, v4, v5, v6, rfl⟩
      exact ⟨_, rfl, k a H2 na (R2.le (show 1 + 18 * 3 ≤ 100 by decide)).any⟩
end
end Mk

set_option Elab.async false
set_option linter.unusedVariables false
set_option maxRecDepth 100000
set_option maxHeartbeats 8000000
namespace Mk
open PySem L2 Pk
theorem rs_cat {ρ : List Key → Nat} {H H0 : Hp} {a q1 q2 b a2 : Addr} {l : PySem.Str} {n : Int} {m : Nat} {B : Kept} {r1 r2 : Rl} (R : RsAt Tp ρ H H0 a l n m B) (n1 : H0 q1 = none) (n2 : (upd H0 q1 (.tup r1.vs)) q2 = none) (n3 : (upd (upd H0 q1 (.tup r1.vs)) q2 (.tup r2.vs)) b = none)
    (n4 : (upd (upd (upd H0 q1 (.tup r1.vs)) q2 (.tup r2.vs)) b (.lst [V.ref q1, V.ref q2])) a2 = none) (o1 : RlOk l n r1) (o2 : RlOk l n r2) (k1 : ρ r1.k3 = m) (k2 : ρ r2.k3 = m + 1) (w1 : r1.tp ∈ Tp) (w2 : r2.tp ∈ Tp) :
    (upd (upd (upd H0 q1 (.tup r1.vs)) q2 (.tup r2.vs)) b (.lst [V.ref q1, V.ref q2])) a = some (.lst (refsK B)) ∧ H a2 = none ∧ RsAt Tp ρ H (upd (upd (upd (upd H0 q1 (.tup r1.vs)) q2 (.tup r2.vs)) b (.lst [V.ref q1, V.ref q2])) a2 (.lst (refsK B ++ [V.ref q1, V.ref q2]))) a2 l n (m + 2) (B ++ [(q1, r1), (q2, r2)]) := by
  have t1 := same_new (o := HO.tup r1.vs) n1
  have t2 := same_new (o := HO.tup r2.vs) n2
  have t3 := same_new (o := HO.lst [V.ref q1, V.ref q2]) n3
  have t4 := same_new (o := HO.lst (refsK B ++ [V.ref q1, V.ref q2])) n4
  refine ⟨t3 _ _ (t2 _ _ (t1 _ _ R.at_)), (((R.same.trans t1).trans t2).trans t3).free n4, (((R.same.trans t1).trans t2).trans t3).trans t4, ?_, fun p m => ?_, fun p m => ?_, ?_, fun p mp => ?_, ?_, fun p mp => ?_⟩
  · rw [upd_same]
    unfold refsK
    rw [List.map_append] <;> rfl
  · rcases List.mem_append.mp m with m | m
    · exact t4 _ _ (t3 _ _ (t2 _ _ (t1 _ _ (R.kept p m))))
    · rcases List.mem_cons.mp m with rfl | m
      · exact t4 _ _ (t3 _ _ (t2 _ _ upd_same))
      · rw [List.mem_singleton.mp m]
        exact t4 _ _ (t3 _ _ upd_same)
  · rcases List.mem_append.mp m with m | m
    · exact R.ok p m
    · rcases List.mem_cons.mp m with rfl | m
      · exact o1
      · rw [List.mem_singleton.mp m]
        exact o2
  · rw [List.length_append]
    have := R.few
    show B.length + 2 ≤ m + 2
    omega
  · rcases List.mem_append.mp mp with mp | mp
    · have := R.rk p mp
      omega
    · rcases List.mem_cons.mp mp with rfl | mp
      · show ρ r1.k3 < m + 2
        omega
      · rw [List.mem_singleton.mp mp]
        show ρ r2.k3 < m + 2
        omega
  · have a1 := nd_add (q := q1) (r := r1) R.nd fun p mp e => by
      have z := R.rk p mp
      rw [e] at z
      omega
    have a2 := nd_add (q := q2) (r := r2) a1 fun p mp e => by
      rcases List.mem_append.mp mp with mp | mp
      · have z := R.rk p mp
        rw [e] at z
        omega
      · rw [List.mem_singleton.mp mp] at e
        have e' : r1.k3 = r2.k3 := e
        rw [e'] at k1
        omega
    rw [List.append_assoc] at a2
    exact a2
  · rcases List.mem_append.mp mp with mp | mp
    · exact R.old p mp
    · rcases List.mem_cons.mp mp with rfl | mp
      · exact w1
      · rw [List.mem_singleton.mp mp]
        exact w2
section
variable {P : Program} {w : World} {K : PySem.W.Frag} {mg : PySem.Str → Option Value} {base : Heap}
/-! _law_caller -/
def fCall (s g t : Nat) : Nat := if s = 3 then (if g = 0 then 4 + 12 * t + 11 else 40 + 2 * (g - 2) + (t - 1)) else if 2 ≤ g then 4 + 12 * t + 3 * (g - 2) + s else if g = 1 then (if s = 0 then 1 + t else 4 + 12 * t + 8 + s) else 0
def spCaller (K : PySem.W.Frag) : Sp := fun vs H Q _ => ∃ (Tp : List PySem.Str) (l one two : PySem.Str) (aM : Addr) (ms : List Int), vs = [.str l, .str one, .str two, .ref aM] ∧ Alpha l ∧ l.length ≤ 3 ∧ symB one = true ∧ symB two = true ∧ one ≠ two ∧ nil0 ∈ Tp ∧ one ∈ Tp ∧ two ∈ Tp ∧ SqL K H aM (ms.map V.int) ∧ 9 ≤ ms.length ∧
  ∀ (p : Addr) (H' : Hp), H p = none → Ru Tp H H' p l 4 100 → Q (.ref p) H'
abbrev nCaller : List PySem.Str := ["letters", "one", "two", "modes", "rules", "tops", "j", "k", "mode", "letter"]
theorem scCaller : FnScope nCaller ["letters", "one", "two", "modes"] (defScope sCaller) := ⟨rfl, rfl, rfl, by decide +kernel, rfl, by decide +kernel, by decide +kernel⟩
theorem ok_caller {f : Addr} {fd : FuncData} (F : Fun K "_law_caller" "_law_caller" sCaller f fd) (T : TM mg) : FnOk P w K mg base CX0 1 f fd ["letters", "one", "two", "modes"] (spCaller K) := by
  refine F.ok scCaller (fun vs H Q E h => ?_) (fun cdv A outer s H vs Q E hr h => ?_)
  · obtain ⟨Tp, l, one, two, aM, ms, rfl, _⟩ := h
    rfl
  · obtain ⟨Tp, l, one, two, aM, ms, rfl, al, l3, o1, o2, d12, w0, w1, w2, hM, ms9, k⟩ := h
    have nd := scCaller.nd
    have nS := sgs_nd al
    have nT := tps_nd o1 o2 d12
    refine ⟨_, (pss_cons (ps_set (i := 4) nd rfl (Or.inl rfl) (pe_lst (pa_cons (pe_tup (pa_cons pe_int (pa_cons pe_str (pa_cons pe_str (pa_cons pe_int (pa_cons pe_int (pa_cons pe_str (pa_cons pe_str (pa_cons pe_str pa_nil))))))))) (pa_cons (pe_tup (pa_cons pe_int (pa_cons pe_str (pa_cons pe_str (pa_cons pe_int (pa_cons pe_int (pa_cons pe_str (pa_cons pe_str (pa_cons pe_str pa_nil))))))))) pa_nil))))
      (pss_cons (ps_set (i := 4) nd rfl (Or.inl rfl) (pe_op op_cat (pv 4) (pe_lst (pa_cons (pe_tup (pa_cons pe_int (pa_cons pe_str (pa_cons (pv 1) (pa_cons pe_int (pa_cons pe_int (pa_cons pe_str (pa_cons pe_str (pa_cons pe_str pa_nil))))))))) (pa_cons (pe_tup (pa_cons pe_int (pa_cons pe_str (pa_cons (pv 2) (pa_cons pe_int (pa_cons pe_int (pa_cons pe_str (pa_cons pe_str (pa_cons pe_str pa_nil))))))))) pa_nil)))))
      (pss_cons (ps_set (i := 5) nd rfl (Or.inl rfl) (pe_lst (pa_cons pe_str (pa_cons (pv 1) (pa_cons (pv 2) pa_nil)))))
      (pss_cons (ps_for PassesOwn.never rfl (pi_range1 (by rfl) T.range (pa_cons pe_int pa_nil)) (pg_name (i := 6) nd rfl (Or.inl rfl))
        (pss_cons (ps_for PassesOwn.never rfl (pi_range1 (by rfl) T.range (pa_cons (pe_callB call_len_str (by rfl) T.len PySem.boot_len (pa_cons (pv 0) pa_nil)) pa_nil)) (pg_name (i := 7) nd rfl (Or.inl rfl))
          (pss_cons (ps_set (i := 8) nd rfl (Or.inl rfl) (pe_ix ix_list (pv 3) (pe_op op_add (pe_op op_mul pe_int (pv 7)) (pv 6)) fun _ _ => rfl))
          (C8.pss_cut (ps_if (PW.pt (pw_or (pt_cmpR op_lt (pv 8) pe_int (nomark _)) (pw_or1 (pt_cmpR op_eq (pv 6) pe_int (nomark _)))))
            (pss_one (ps_expr (pe_bm PySem.F.plainAttrs_list PySem.F.slot_list_append PySem.F.type_list_append mt_append (pv 4) (pa_cons (pe_tup (pa_cons pe_int (pa_cons (pe_ix ix_str (pv 0) (pv 7) fun _ _ => rfl) (pa_cons (pe_ix ix_list (pv 5) (pv 6) fun _ _ => rfl) (pa_cons pe_int (pa_cons pe_int (pa_cons pe_str (pa_cons (pv 1) (pa_cons pe_str pa_nil))))))))) pa_nil))))
            (pss_one (ps_if (pt_cmpR op_eq (pv 8) pe_int (nomark _))
              (pss_one (ps_expr (pe_bm PySem.F.plainAttrs_list PySem.F.slot_list_append PySem.F.type_list_append mt_append (pv 4) (pa_cons (pe_tup (pa_cons pe_int (pa_cons (pe_ix ix_str (pv 0) (pv 7) fun _ _ => rfl) (pa_cons (pe_ix ix_list (pv 5) (pv 6) fun _ _ => rfl) (pa_cons (pv 6) (pa_cons pe_int (pa_cons pe_str (pa_cons pe_str (pa_cons pe_str pa_nil))))))))) pa_nil))))
              (pss_one (ps_expr (pe_bm PySem.F.plainAttrs_list PySem.F.slot_list_append PySem.F.type_list_append mt_append (pv 4) (pa_cons (pe_tup (pa_cons pe_int (pa_cons (pe_ix ix_str (pv 0) (pv 7) fun _ _ => rfl) (pa_cons (pe_ix ix_list (pv 5) (pv 6) fun _ _ => rfl) (pa_cons pe_int (pa_cons pe_int (pa_cons pe_str (pa_cons (pe_ix ix_list (pv 5) (pe_op op_sub pe_int (pv 6)) fun _ _ => rfl) (pa_cons pe_str pa_nil))))))))) pa_nil)))))))
          (pss_cons (ps_expr (pe_bm PySem.F.plainAttrs_list PySem.F.slot_list_append PySem.F.type_list_append mt_append (pv 4) (pa_cons (pe_tup (pa_cons pe_int (pa_cons (pe_ix ix_str (pv 0) (pv 7) fun _ _ => rfl) (pa_cons (pe_ix ix_list (pv 5) (pv 6) fun _ _ => rfl) (pa_cons pe_int (pa_cons pe_int (pa_cons pe_str (pa_cons (pv 2) (pa_cons pe_str pa_nil))))))))) pa_nil)))
          (pss_one (ps_expr (pe_bm PySem.F.plainAttrs_list PySem.F.slot_list_append PySem.F.type_list_append mt_append (pv 4) (pa_cons (pe_tup (pa_cons pe_int (pa_cons (pe_ix ix_str (pv 0) (pv 7) fun _ _ => rfl) (pa_cons (pe_ix ix_list (pv 5) (pv 6) fun _ _ => rfl) (pa_cons pe_int (pa_cons (pe_un un_neg pe_int) (pa_cons pe_str (pa_cons pe_str (pa_cons pe_str pa_nil))))))))) pa_nil))))))))
        (pss_cons (ps_expr (pe_bm PySem.F.plainAttrs_list PySem.F.slot_list_append PySem.F.type_list_append mt_append (pv 4) (pa_cons (pe_tup (pa_cons pe_int (pa_cons pe_str (pa_cons (pe_ix ix_list (pv 5) (pv 6) fun _ _ => rfl) (pa_cons pe_int (pa_cons pe_int (pa_cons pe_str (pa_cons (pv 2) (pa_cons pe_str pa_nil))))))))) pa_nil)))
        (pss_cons (ps_expr (pe_bm PySem.F.plainAttrs_list PySem.F.slot_list_append PySem.F.type_list_append mt_append (pv 4) (pa_cons (pe_tup (pa_cons pe_int (pa_cons pe_str (pa_cons (pe_ix ix_list (pv 5) (pv 6) fun _ _ => rfl) (pa_cons pe_int (pa_cons (pe_un un_neg pe_int) (pa_cons pe_str (pa_cons pe_str (pa_cons pe_str pa_nil))))))))) pa_nil)))
        (pss_one (ps_expr (pe_bm PySem.F.plainAttrs_list PySem.F.slot_list_append PySem.F.type_list_append mt_append (pv 4) (pa_cons (pe_tup (pa_cons pe_int (pa_cons pe_str (pa_cons (pe_ix ix_list (pv 5) (pv 6) fun _ _ => rfl) (pa_cons pe_int (pa_cons pe_int (pa_cons pe_str (pa_cons pe_str (pa_cons pe_str pa_nil))))))))) pa_nil))))))))
      (pss_cons (ps_for PassesOwn.never rfl (pi_str (pv 0)) (pg_name (i := 9) nd rfl (Or.inl rfl))
        (pss_cons (ps_expr (pe_bm PySem.F.plainAttrs_list PySem.F.slot_list_append PySem.F.type_list_append mt_append (pv 4) (pa_cons (pe_tup (pa_cons pe_int (pa_cons (pv 9) (pa_cons (pv 1) (pa_cons pe_int (pa_cons pe_int (pa_cons pe_str (pa_cons pe_str (pa_cons pe_str pa_nil))))))))) pa_nil)))
        (pss_one (ps_expr (pe_bm PySem.F.plainAttrs_list PySem.F.slot_list_append PySem.F.type_list_append mt_append (pv 4) (pa_cons (pe_tup (pa_cons pe_int (pa_cons (pv 9) (pa_cons (pv 2) (pa_cons pe_int (pa_cons pe_int (pa_cons pe_str (pa_cons pe_str (pa_cons (pv 9) pa_nil))))))))) pa_nil))))))
      (pss_one (ps_ret (pv 4)))))))), ?_⟩
    have szl : l.length ≤ sizeLine := Nat.le_trans l3 (by decide)
    refine ⟨show 8 ≤ sizeLine by decide, fun p1 n1 => ⟨show 8 ≤ sizeLine by decide, fun p2 n2 => ⟨show 2 ≤ sizeLine by decide, fun a0 na0 => ?_⟩⟩⟩
    obtain ⟨_, R0⟩ := rs_two (ρ := rkOf fCall (sgs l) (tps one two)) (l := l) (n := 4) (r1 := ⟨0, lt0, nil0, 0, 1, keep0, nil0, nil0⟩) (r2 := ⟨0, gt0, nil0, 3, 0, keep0, nil0, nil0⟩) n1 n2 (mkRl (by decide) (sgnLt l) (.inr rfl) (by decide) (mvR lt_gt) (keepD _) said0) (mkRl (by decide) (sgnGt l) (.inr rfl) (by decide) (mv0 _) (keepD _) said0) na0 (rk_at nS nT (show (sgs l)[0]? = some lt0 from rfl) (show (tps one two)[0]? = some nil0 from rfl) (by simp [fCall])) (rk_at nS nT (show (sgs l)[1]? = some gt0 from rfl) (show (tps one two)[0]? = some nil0 from rfl) (by simp [fCall])) w0 w0
    refine ⟨_, rfl, _, rfl, show 8 ≤ sizeLine by decide, fun p3 n3 => ⟨_, rfl, show 8 ≤ sizeLine by decide, fun p4 n4 => ⟨show 2 ≤ sizeLine by decide, fun b0 nb0 => ?_⟩⟩⟩
    have CAT := fun a2 n4' => rs_cat (a2 := a2) (r1 := ⟨0, gt0, one, 1, 0, pop0, nil0, PySem.Str.ofString "k"⟩) (r2 := ⟨0, gt0, two, 2, 0, pop0, nil0, PySem.Str.ofString "k"⟩) R0 n3 n4 nb0 n4' (mkRl (by decide) (sgnGt l) (.inl o1) (by decide) (mv0 _) (popD (sym_ne o1)) saidK) (mkRl (by decide) (sgnGt l) (.inl o2) (by decide) (mv0 _) (popD (sym_ne o2)) saidK) (rk_at nS nT (show (sgs l)[1]? = some gt0 from rfl) (show (tps one two)[1]? = some one from rfl) (by simp [fCall])) (rk_at nS nT (show (sgs l)[1]? = some gt0 from rfl) (show (tps one two)[2]? = some two from rfl) (by simp [fCall])) w1 w2
    have R0at := same_new (o := HO.lst [V.ref p3, V.ref p4]) nb0 _ _ (same_new n4 _ _ (same_new n3 _ _ R0.at_))
    refine ⟨a0, b0, _, _, rfl, rfl, R0at, upd_same, show 4 ≤ sizeLine by decide, fun a na1 => ?_⟩
    obtain ⟨_, na, R⟩ := CAT a na1
    clear CAT R0 R0at
    refine ⟨_, rfl, _, rfl, show 3 ≤ sizeLine by decide, fun c nc => ?_⟩
    have ac : c ≠ a := fun z => by
      rw [z] at nc
      have x := R.at_.symm.trans nc
      cases x
    have hM0 := R.same.seq hM
    refine ⟨_, rfl, by decide, by decide, for_range (lo := 0) (n := (3 : Int).toNat) (fun i σ H' => H' c = some (.lst [V.str nil0, V.str one, V.str two]) ∧ Rs Tp (rkOf fCall (sgs l) (tps one two)) H H' a l 4 (4 + 12 * i) ∧ ∃ v6 v7 v8 v9 : Option V, σ = [some (.str l), some (.str one), some (.str two), some (.ref aM), some (.ref a), some (.ref c), v6, v7, v8, v9])
      ⟨upd_same, ⟨_, R.mono (same_new nc)⟩, _, _, _, _, rfl⟩ ?_ ?_⟩
    · rintro i σ H2 hi ⟨hc2, R2, v6, v7, v8, v9, rfl⟩
      have i3 : i < 3 := by omega
      obtain ⟨t, et, tt, tn, t3⟩ := three_at o1 o2 i3
      have hT := three_ix et
      have ot := tps_old w0 w1 w2 t3
      have eti : atI [V.str nil0, V.str one, V.str two] (0 + (i : Int)) = some (.str t) := by
        rw [show (0 : Int) + (i : Int) = ((i : Nat) : Int) by omega]
        exact atI_nat et
      have keepB : ∀ {H' : Hp} {q : Addr} {o o' : HO}, H' q = none → H' c = some (.lst [V.str nil0, V.str one, V.str two]) → (upd (upd H' q o) a o') c = some (.lst [V.str nil0, V.str one, V.str two]) := fun nq e => by
        rw [upd_ne ac]
        exact same_new nq _ _ e
      refine ⟨_, rfl, l, rfl, szl, _, rfl, by omega, by omega, for_range (lo := 0) (n := ((l.length : Nat) : Int).toNat) (fun j σ H' => H' c = some (.lst [V.str nil0, V.str one, V.str two]) ∧ Rs Tp (rkOf fCall (sgs l) (tps one two)) H H' a l 4 (4 + 12 * i + 3 * j) ∧ ∃ v7 v8 v9 : Option V, σ = [some (.str l), some (.str one), some (.str two), some (.ref aM), some (.ref a), some (.ref c), some (.int (0 + (i : Int))), v7, v8, v9])
        ⟨hc2, R2.le (by omega), _, _, _, rfl⟩ ?_ ?_⟩
      · rintro j σ H4 hj ⟨hc4, ⟨B4, R4⟩, v7, v8, v9, rfl⟩
        obtain ⟨d, ed, md⟩ := let_at (l := l) (i := j) (by omega)
        have hS : (sgs l)[j + 2]? = some (sgn1 d) := sgs_ix ed (by omega)
        have jl : j < l.length := by omega
        obtain ⟨mode, em⟩ : ∃ x, ms[3 * j + i]? = some x := ⟨_, List.getElem?_eq_getElem (show 3 * j + i < ms.length by omega)⟩
        refine ⟨_, rfl, _, rfl, _, _, rfl, rfl, .inl ⟨by decide, by decide⟩, _, rfl, _, _, rfl, rfl, aM, _, _, .int mode, rfl, rfl, R4.same.seq hM, ?_, ?_⟩
        · rw [show (3 : Int) * (0 + (j : Int)) + (0 + (i : Int)) = ((3 * j + i : Nat) : Int) by omega]
          exact atI_nat (by rw [List.getElem?_map, em] <;> rfl)
        have af : (0 : Int) ≤ 0 + (i : Int) ∧ 0 + (i : Int) ≤ 4 - 1 := by omega
        refine ⟨fun σ' H' => σ' = [some (.str l), some (.str one), some (.str two), some (.ref aM), some (.ref a), some (.ref c), some (.int (0 + (i : Int))), some (.int (0 + (j : Int))), some (.int mode), v9] ∧ H' c = some (.lst [V.str nil0, V.str one, V.str two]) ∧ Rs Tp (rkOf fCall (sgs l) (tps one two)) H H' a l 4 (4 + 12 * i + 3 * j + 1), ?_, ?_⟩
        · have add1 : ∀ q, H4 q = none → (upd (upd H4 q (.tup [.int 0, .str (sgn1 d), .str t, .int 0, .int 1, .str push0, .str one, .str nil0])) a (.lst (refsK B4 ++ [V.ref q]))) c = some (.lst [V.str nil0, V.str one, V.str two]) ∧ Rs Tp (rkOf fCall (sgs l) (tps one two)) H (upd (upd H4 q (.tup [.int 0, .str (sgn1 d), .str t, .int 0, .int 1, .str push0, .str one, .str nil0])) a (.lst (refsK B4 ++ [V.ref q]))) a l 4 (4 + 12 * i + 3 * j + 1) := fun q nq => by
            have R5 := R4.add na nq (r := ⟨0, sgn1 d, t, 0, 1, push0, one, nil0⟩) (mkRl (by decide) (sgnIn md) tt (by decide) (mvR (let_gt al md)) (pushD t o1) said0) (rk_at nS nT hS hT (by simp [fCall] <;> omega)) ot
            exact ⟨keepB nq hc4, _, R5⟩
          refine ⟨_, rfl, _, _, rfl, rfl, _, rfl, ite2 (fun _ => ?_) (fun _ => ?_)⟩
          · refine iteT ?_
            refine ⟨_, rfl, .inl ⟨rfl, _, SqL.of R4.at_⟩, _, rfl, _, rfl, l, _, d, rfl, rfl, szl, ed, _, rfl, _, rfl, c, _, _, .str t, rfl, rfl, SqL.of hc4, eti, _, rfl, show 8 ≤ sizeLine by decide, fun q nq => ⟨a, _, _, rfl, rfl, R4.look nq, R4.sz (by omega), ?_⟩⟩
            exact ⟨rfl, add1 q nq⟩
          · refine ⟨_, rfl, rfl, _, rfl, ite2 (fun _ => ?_) (fun e => ?_)⟩
            · refine ⟨_, rfl, .inl ⟨rfl, _, SqL.of R4.at_⟩, _, rfl, _, rfl, l, _, d, rfl, rfl, szl, ed, _, rfl, _, rfl, c, _, _, .str t, rfl, rfl, SqL.of hc4, eti, _, rfl, show 8 ≤ sizeLine by decide, fun q nq => ⟨a, _, _, rfl, rfl, R4.look nq, R4.sz (by omega), ?_⟩⟩
              exact ⟨rfl, add1 q nq⟩
            · have i0 : i ≠ 0 := fun z => e (by rw [z] <;> rfl)
              have tne := sym_ne (tn i0)
              refine ⟨_, rfl, rfl, _, rfl, ite2 (fun _ => ?_) (fun _ => ?_)⟩
              · refine ⟨_, rfl, .inl ⟨rfl, _, SqL.of R4.at_⟩, _, rfl, _, rfl, l, _, d, rfl, rfl, szl, ed, _, rfl, _, rfl, c, _, _, .str t, rfl, rfl, SqL.of hc4, eti, _, rfl, show 8 ≤ sizeLine by decide, fun q nq => ⟨a, _, _, rfl, rfl, R4.look nq, R4.sz (by omega), ?_⟩⟩
                have R5 := R4.add na nq (r := ⟨0, sgn1 d, t, 0 + (i : Int), 0, pop0, nil0, PySem.Str.ofString "b"⟩) (mkRl (by decide) (sgnIn md) tt af (mv0 _) (popD tne) saidB) (rk_at nS nT hS hT (by simp [fCall] <;> omega)) ot
                exact ⟨rfl, keepB nq hc4, _, R5⟩
              · obtain ⟨x, ex, ox⟩ : ∃ x, atI [V.str nil0, V.str one, V.str two] (3 - (0 + (i : Int))) = some (.str x) ∧ symB x = true := by
                  have cs : i = 1 ∨ i = 2 := by omega
                  rcases cs with rfl | rfl
                  · exact ⟨two, rfl, o2⟩
                  · exact ⟨one, rfl, o1⟩
                refine ⟨_, rfl, .inl ⟨rfl, _, SqL.of R4.at_⟩, _, rfl, _, rfl, l, _, d, rfl, rfl, szl, ed, _, rfl, _, rfl, c, _, _, .str t, rfl, rfl, SqL.of hc4, eti, _, rfl, _, rfl, _, _, rfl, rfl, c, _, _, .str x, rfl, rfl, SqL.of hc4, ex, show 8 ≤ sizeLine by decide, fun q nq => ⟨a, _, _, rfl, rfl, R4.look nq, R4.sz (by omega), ?_⟩⟩
                have R5 := R4.add na nq (r := ⟨0, sgn1 d, t, 1, 1, swap0, x, nil0⟩) (mkRl (by decide) (sgnIn md) tt (by decide) (mvR (let_gt al md)) (swapD tne ox) said0) (rk_at nS nT hS hT (by simp [fCall] <;> omega)) ot
                exact ⟨rfl, keepB nq hc4, _, R5⟩
        rintro _ H8 ⟨rfl, hc8, ⟨B8, R8⟩⟩
        refine ⟨_, rfl, .inl ⟨rfl, _, SqL.of R8.at_⟩, _, rfl, _, rfl, l, _, d, rfl, rfl, szl, ed, _, rfl, _, rfl, c, _, _, .str t, rfl, rfl, SqL.of hc8, eti, _, rfl, show 8 ≤ sizeLine by decide, fun q nq => ⟨a, _, _, rfl, rfl, R8.look nq, R8.sz (by omega), ?_⟩⟩
        have R9 := R8.add na nq (r := ⟨1, sgn1 d, t, 0, 0, push0, two, nil0⟩) (mkRl (by decide) (sgnIn md) tt (by decide) (mv0 _) (pushD t o2) said0) (rk_at nS nT hS hT (by simp [fCall] <;> omega)) ot
        refine ⟨_, rfl, .inl ⟨rfl, _, SqL.of R9.at_⟩, _, rfl, _, rfl, l, _, d, rfl, rfl, szl, ed, _, rfl, _, rfl, c, _, _, .str t, rfl, rfl, SqL.of (keepB nq hc8), eti, _, rfl, show 8 ≤ sizeLine by decide, fun q2 nq2 => ⟨a, _, _, rfl, rfl, R9.look nq2, R9.sz (by omega), ?_⟩⟩
        have R10 := R9.add na nq2 (r := ⟨2, sgn1 d, t, 3, -1, keep0, nil0, nil0⟩) (mkRl (by decide) (sgnIn md) tt (by decide) (mvL (let_lt al md)) (keepD t) said0) (rk_at nS nT hS hT (by simp [fCall] <;> omega)) ot
        exact ⟨keepB nq2 (keepB nq hc8), Rs.le ⟨_, R10⟩ (by omega), _, _, _, rfl⟩
      · rintro σ H4 ⟨hc4, ⟨B4, R4⟩, v7, v8, v9, rfl⟩
        have lN : l.length ≤ 3 := l3
        replace R4 := R4.le (show _ ≤ 4 + 12 * i + 9 by omega)
        refine ⟨_, rfl, .inl ⟨rfl, _, SqL.of R4.at_⟩, _, rfl, _, rfl, c, _, _, .str t, rfl, rfl, SqL.of hc4, eti, _, rfl, show 8 ≤ sizeLine by decide, fun q nq => ⟨a, _, _, rfl, rfl, R4.look nq, R4.sz (by omega), ?_⟩⟩
        have R5 := R4.add na nq (r := ⟨1, gt0, t, 0, 0, push0, two, nil0⟩) (mkRl (by decide) (sgnGt l) tt (by decide) (mv0 _) (pushD t o2) said0) (rk_at nS nT (show (sgs l)[1]? = some gt0 from rfl) hT (by simp [fCall] <;> omega)) ot
        refine ⟨_, rfl, .inl ⟨rfl, _, SqL.of R5.at_⟩, _, rfl, _, rfl, c, _, _, .str t, rfl, rfl, SqL.of (keepB nq hc4), eti, _, rfl, show 8 ≤ sizeLine by decide, fun q2 nq2 => ⟨a, _, _, rfl, rfl, R5.look nq2, R5.sz (by omega), ?_⟩⟩
        have R6 := R5.add na nq2 (r := ⟨2, gt0, t, 3, -1, keep0, nil0, nil0⟩) (mkRl (by decide) (sgnGt l) tt (by decide) (mvL lt_gt.symm) (keepD t) said0) (rk_at nS nT (show (sgs l)[1]? = some gt0 from rfl) hT (by simp [fCall] <;> omega)) ot
        refine ⟨_, rfl, .inl ⟨rfl, _, SqL.of R6.at_⟩, _, rfl, _, rfl, c, _, _, .str t, rfl, rfl, SqL.of (keepB nq2 (keepB nq hc4)), eti, show 8 ≤ sizeLine by decide, fun q3 nq3 => ⟨a, _, _, rfl, rfl, R6.look nq3, R6.sz (by omega), ?_⟩⟩
        have R7 := R6.add na nq3 (r := ⟨3, lt0, t, 1, 1, keep0, nil0, nil0⟩) (mkRl (by decide) (sgnLt l) tt (by decide) (mvR lt_gt) (keepD t) said0) (rk_at nS nT (show (sgs l)[0]? = some lt0 from rfl) hT (by simp [fCall] <;> omega)) ot
        exact ⟨keepB nq3 (keepB nq2 (keepB nq hc4)), Rs.le ⟨_, R7⟩ (by omega), _, _, _, _, rfl⟩
    · rintro σ H2 ⟨hc2, R2, v6, v7, v8, v9, rfl⟩
      refine ⟨_, rfl, l, rfl, for_it walk_str (fun j σ H' => Rs Tp (rkOf fCall (sgs l) (tps one two)) H H' a l 4 (40 + 2 * j) ∧ ∃ v9 : Option V, σ = [some (.str l), some (.str one), some (.str two), some (.ref aM), some (.ref a), some (.ref c), v6, v7, v8, v9])
        ⟨R2.le (show 4 + 12 * 3 ≤ 40 by decide), _, rfl⟩ (fun _ _ _ _ _ => trivial) ?_ ?_⟩
      · rintro j v σ H4 _ hj ⟨⟨B4, R4⟩, v9, rfl⟩ ⟨rfl, d, hd, rfl⟩
        have md : d ∈ l.cps.toList := List.mem_of_getElem? (by rw [Array.getElem?_toList]; exact hd)
        have hS : (sgs l)[j + 2]? = some (sgn1 d) := sgs_at (by rw [Array.getElem?_toList]; exact hd)
        have jl : j < l.length := hj
        refine ⟨_, rfl, .inl ⟨rfl, _, SqL.of R4.at_⟩, _, rfl, _, rfl, show 8 ≤ sizeLine by decide, fun q nq => ⟨a, _, _, rfl, rfl, R4.look nq, R4.sz (by omega), ?_⟩⟩
        have R5 := R4.add na nq (r := ⟨3, sgn1 d, one, 1, 0, pop0, nil0, nil0⟩) (mkRl (by decide) (sgnIn md) (.inl o1) (by decide) (mv0 _) (popD (sym_ne o1)) said0) (rk_at nS nT hS (show (tps one two)[1]? = some one from rfl) (by simp [fCall] <;> omega)) w1
        refine ⟨_, rfl, .inl ⟨rfl, _, SqL.of R5.at_⟩, _, rfl, _, rfl, _, rfl, show 8 ≤ sizeLine by decide, fun q2 nq2 => ⟨a, _, _, rfl, rfl, R5.look nq2, R5.sz (by omega), ?_⟩⟩
        have R6 := R5.add na nq2 (r := ⟨3, sgn1 d, two, 2, 0, pop0, nil0, sgn1 d⟩) (mkRl (by decide) (sgnIn md) (.inl o2) (by decide) (mv0 _) (popD (sym_ne o2)) (said1 al md)) (rk_at nS nT hS (show (tps one two)[2]? = some two from rfl) (by simp [fCall] <;> omega)) w2
        exact ⟨Rs.le ⟨_, R6⟩ (by omega), _, rfl⟩
      · rintro σ H4 ⟨R4, v9, rfl⟩
        have ls : l.cps.size ≤ 3 := l3
        exact ⟨_, rfl, k a H4 na (R4.le (by omega)).any⟩
end
end Mk

set_option Elab.async false
set_option linter.unusedVariables false
set_option maxRecDepth 100000
set_option maxHeartbeats 8000000
namespace Mk
open PySem L2 Pk
abbrev nMachine : List PySem.Str := ["script", "at", "head", "letters", "symbols", "states", "rules", "signs", "tops", "state", "row", "k", "j", "part", "act", "turn", "key", "yes", "letter", "rule"]
theorem scMachine : FnScope nMachine ["script", "at"] (defScope sMachine) := ⟨rfl, rfl, rfl, by decide +kernel, rfl, by decide +kernel, by decide +kernel⟩
/-- three symbols of a menu -/
def W3 (x y z : PySem.Str) : Prop := x ≠ y ∧ x ≠ z ∧ y ≠ z ∧ x ∉ freshL ∧ y ∉ freshL ∧ z ∉ freshL
/-- what a generator of machines returns -/
def MachD (H : Hp) (p : Addr) (H' : Hp) : Prop := Same H H' ∧ ∃ (l : PySem.Str) (n : Int) (aR aY : Addr) (B : Kept) (ys : List Int), H' p = some (.lst [.str l, .int n, .ref aR, .ref aY]) ∧ Alpha l ∧ l.length ≤ 3 ∧ 1 ≤ n ∧ n ≤ 5 ∧ H' aR = some (.lst (refsK B)) ∧ KeptAt H' B ∧
  (∀ p ∈ B, RlOk l n p.2) ∧ B.length ≤ 400 ∧ H' aY = some (.lst (ys.map V.int)) ∧ (∀ y ∈ ys, 0 ≤ y ∧ y ≤ n - 1) ∧ ys.length ≤ 5 ∧ (B.map fun p => p.2.k3).Nodup ∧ ∃ Tp : List PySem.Str, Tp.length ≤ 4 ∧ (∀ t ∈ Tp, t ∉ freshL) ∧ ∀ p ∈ B, p.2.tp ∈ Tp
theorem cut_take {xs : List V} {b : Nat} : cutV xs none (some (b : Int)) = xs.take b := by
  unfold cutV
  rw [HT.sIx_none, HT.sIx_nat]
  show (xs.drop 0).take (min b xs.length - 0) = xs.take b
  rw [List.drop_zero, Nat.sub_zero]
  by_cases h : b ≤ xs.length
  · rw [Nat.min_eq_left h]
  · rw [Nat.min_eq_right (by omega), List.take_of_length_le (Nat.le_refl _), List.take_of_length_le (by omega)]
theorem refs_take (B : Kept) (b : Nat) : (refsK B).take b = refsK (B.take b) := by
  unfold refsK
  rw [List.map_take]
theorem powers_at {i : Nat} (h : i < 5) : ∃ v : Int, atI [V.int 1, V.int 2, V.int 4, V.int 8, V.int 3] (0 + (i : Int)) = some (.int v) ∧ 0 < v ∧ v < 9 := by
  have c : i = 0 ∨ i = 1 ∨ i = 2 ∨ i = 3 ∨ i = 4 := by omega
  rcases c with rfl | rfl | rfl | rfl | rfl
  · exact ⟨1, rfl, by omega, by omega⟩
  · exact ⟨2, rfl, by omega, by omega⟩
  · exact ⟨4, rfl, by omega, by omega⟩
  · exact ⟨8, rfl, by omega, by omega⟩
  · exact ⟨3, rfl, by omega, by omega⟩
section
variable {P : Program} {w : World} {K : PySem.W.Frag} {mg : PySem.Str → Option Value} {base : Heap}
/-! _law_machine, its end -/
theorem mach_Z {f : Addr} (T : TM mg) (cdv : Value) (A : Around) (outer : List Env) (s : Shared) (H : Hp) (E : XK) :
    ∃ t : TS, PSs (cxOf CX0 P w K mg base nMachine "_law_machine" (defScope sMachine) f cdv A outer s H E).nox ((defBody sMachine).drop 10) t ∧
      ∀ (Tp : List PySem.Str) (T4 : Tp.length ≤ 4) (TF : ∀ t ∈ Tp, t ∉ freshL) (D : Ends) (H0 : Hp) (k : ∀ p H', MachD H0 p H' → D.rt (.ref p) H') (H1 : Hp) (aD a : Addr) (head : List Int) (d7 d9 : Nat) (l : PySem.Str) (n : Int) (e0 e1 e4 e7 e8 e9 e10 e11 e12 e13 e14 e15 e16 e17 e18 e19 : Option V),
        H1 aD = some (.lst (head.map V.int)) → head[7]? = some (d7 : Int) → head[9]? = some (d9 : Int) → Alpha l → l.length ≤ 3 → 1 ≤ n → n ≤ 5 → H0 a = none → Ru Tp H0 H1 a l n 400 →
        t D [e0, e1, some (.ref aD), some (.str l), e4, some (.int n), some (.ref a), e7, e8, e9, e10, e11, e12, e13, e14, e15, e16, e17, e18, e19] H1 := by
  have nd := scMachine.nd
  refine ⟨_, (C8.pss_cut (ps_if (pt_cmpR op_eq (pe_ix ix_list (pv 2) pe_int fun _ _ => rfl) pe_int (nomark _))
        (pss_one (ps_set (i := 6) nd rfl (Or.inl rfl) (pe_slice sl_list (pv 6) po_none (po_some (pe_op op_fdiv (pe_ix ix_list (pv 2) pe_int fun _ _ => rfl) pe_int)))))
        pss_nil)
      (pss_cons (ps_setLc (i := 17) (own := [("state", 9)]) (g := gName 9) (by rfl) nd rfl rfl (sw_true rfl rfl rfl (by decide +kernel)) (pi_range1 (by rfl) T.range (pa_cons (pv 5) pa_nil)) (blkOk_by (own := [("state", 9)]) (N := nMachine) (sc := defScope sMachine) (by decide +kernel)) (fun _ _ _ _ _ => pg_name (i := 9) nd rfl (Or.inl rfl)) (fun _ _ _ _ _ => pts_one (pt_cmpR op_eq (pe_op op_mod (pe_op op_fdiv (pe_callTy call_int1 (by rfl) T.int PyProof.Rows.Boot.int (pa_cons (pe_ix (r := rIxL K) ix_list (pv 2) pe_int fun _ _ => rfl) pa_nil)) (pe_ix (r := rIxL K) ix_list (pe_lst (pa_cons pe_int (pa_cons pe_int (pa_cons pe_int (pa_cons pe_int (pa_cons pe_int pa_nil)))))) (pv 9) fun _ _ => rfl)) pe_int) pe_int (nomark _))) (fun _ _ _ _ _ => (pv 9)))
      (pss_one (ps_ret (pe_lst (pa_cons (pv 3) (pa_cons (pv 5) (pa_cons (pv 6) (pa_cons (pv 17) pa_nil))))))))), ?_⟩
  intro Tp T4 TF D H0 k H1 aD a head d7 d9 l n e0 e1 e4 e7 e8 e9 e10 e11 e12 e13 e14 e15 e16 e17 e18 e19 hD ed7 ed9 al l3 n1 n5 na hR
  have rowAt : ∀ {j : Nat} {d : Nat}, head[j]? = some (d : Int) → atI (head.map V.int) (j : Int) = some (V.int d) := fun {j d} e => atI_nat (by rw [List.getElem?_map, e]; rfl)
  refine ⟨fun σ' H' => ∃ a' : Addr, σ' = [e0, e1, some (.ref aD), some (.str l), e4, some (.int n), some (.ref a'), e7, e8, e9, e10, e11, e12, e13, e14, e15, e16, e17, e18, e19] ∧ Same H1 H' ∧ H0 a' = none ∧ Ru Tp H0 H' a' l n 400, ?_, ?_⟩
  · refine ⟨_, rfl, aD, _, _, _, rfl, rfl, SqL.of hD, rowAt (j := 9) ed9, rfl, _, rfl, ite2 (fun _ => ?_) (fun _ => ⟨a, rfl, Same.refl _, na, hR⟩)⟩
    obtain ⟨B, R⟩ := hR
    refine ⟨_, rfl, _, rfl, aD, _, _, _, rfl, rfl, SqL.of hD, rowAt (j := 7) ed7, _, _, rfl, rfl, ⟨by decide, by decide⟩, _, rfl, a, _, rfl, SqL.of R.at_, fun q nq => ?_⟩
    have ev : (d7 : Int) / 4 = ((d7 / 4 : Nat) : Int) := by omega
    have t := same_new (o := HO.lst (cutV (refsK B) none (some ((d7 : Int) / 4)))) nq
    refine ⟨q, rfl, t, R.same.free nq, B.take (d7 / 4), R.same.trans t, ?_, fun p m => t _ _ (R.kept p (List.mem_of_mem_take m)), fun p m => R.ok p (List.mem_of_mem_take m), ?_, R.nd.sublist ((List.take_sublist _ _).map _), fun p m => R.old p (List.mem_of_mem_take m)⟩
    · show (upd H1 q (.lst (cutV (refsK B) none (some ((d7 : Int) / 4))))) q = _
      rw [upd_same, ev, cut_take, refs_take]
    · rw [List.length_take]
      have := R.few
      omega
  rintro _ H2 ⟨a', rfl, s2, na', B, R⟩
  have hD2 := s2 _ _ hD
  -- yes
  refine ⟨_, rfl, n, rfl, by omega, by omega, fun Dy nDy => lc_range (lo := 0) (n := n.toNat) (fun i H' => Same H2 H' ∧ ∃ ys : List Int, H' Dy = some (.lst (ys.map V.int)) ∧ ys.length ≤ i ∧ ∀ y ∈ ys, 0 ≤ y ∧ y ≤ n - 1) ⟨same_new nDy, [], upd_same, Nat.zero_le _, fun y m => absurd m List.not_mem_nil⟩ ?_ ?_⟩
  · rintro i H3 hi ⟨s3, ys, hy, lys, oky⟩
    obtain ⟨v, ev, v0, v9⟩ := powers_at (i := i) (by omega)
    refine ⟨rfl, ?_⟩
    refine ⟨_, rfl, aD, _, _, _, rfl, rfl, SqL.of (s3 _ _ hD2), rowAt (j := 7) ed7, .inl ⟨_, rfl, show 5 ≤ sizeLine by decide, fun u nu => ?_⟩⟩
    have tu := same_new (o := HO.lst [V.int 1, V.int 2, V.int 4, V.int 8, V.int 3]) nu
    refine ⟨_, rfl, u, _, _, .int v, rfl, rfl, SqL.of upd_same, ev, _, _, rfl, rfl, ⟨v0, by omega⟩, _, _, rfl, rfl, show (0 : Int) < 2 by decide, rfl, _, rfl, ?_⟩
    refine ite2 (fun _ => ?_) (fun _ => ⟨s3.trans tu, ys, tu _ _ hy, by omega, oky⟩)
    refine ⟨_, rfl, _, tu _ _ hy, ?_, same_mut (s3.trans tu) nDy, ys ++ [0 + (i : Int)], ?_, ?_, fun z m => ?_⟩
    · rw [List.length_map]
      exact Nat.lt_of_le_of_lt (show ys.length ≤ 5 by omega) (by decide)
    · rw [upd_same, List.map_append] <;> rfl
    · rw [List.length_append]
      show ys.length + 1 ≤ i + 1
      omega
    · rcases List.mem_append.mp m with m | m
      · exact oky z m
      · rw [List.mem_singleton.mp m]
        omega
  · rintro H3 ⟨s3, ys, hy, lys, oky⟩
    refine ⟨_, rfl, _, rfl, _, rfl, _, rfl, show 4 ≤ sizeLine by decide, fun p np => ?_⟩
    have t := same_new (o := HO.lst [V.str l, V.int n, V.ref a', V.ref Dy]) np
    have R4 := R.mono (s3.trans t)
    exact k p _ ⟨R4.same, l, n, a', Dy, B, ys, upd_same, al, l3, n1, n5, R4.at_, R4.kept, R4.ok, R4.few, t _ _ hy, oky, by omega, R4.nd, Tp, T4, TF, R4.old⟩
end
end Mk

set_option Elab.async false
set_option maxRecDepth 100000
namespace Mk
open PySem L2 Pk
theorem cut_in {row : List Int} {a b : Nat} (h : b ≤ row.length) (ab : a ≤ b) : cutV (row.map V.int) (some (a : Int)) (some (b : Int)) = ((row.drop a).take (b - a)).map V.int := by
  have h0 : HT.sIx (row.map V.int).length 0 (some (a : Int)) = a := by
    rw [List.length_map]
    unfold HT.sIx
    simp only []
    rw [if_neg (by omega)]
    omega
  have h4 : HT.sIx (row.map V.int).length (row.map V.int).length (some (b : Int)) = b := by
    rw [List.length_map]
    unfold HT.sIx
    simp only []
    rw [if_neg (by omega)]
    omega
  unfold cutV
  rw [h0, h4, ← List.map_drop, ← List.map_take]
theorem cut_from {row : List Int} {a : Nat} (h : a ≤ row.length) : cutV (row.map V.int) (some (a : Int)) none = (row.drop a).map V.int := by
  have h0 : HT.sIx (row.map V.int).length 0 (some (a : Int)) = a := by
    rw [List.length_map]
    unfold HT.sIx
    simp only []
    rw [if_neg (by omega)]
    omega
  have h4 : HT.sIx (row.map V.int).length (row.map V.int).length none = row.length := by
    rw [List.length_map]
    rfl
  unfold cutV
  rw [h0, h4, ← List.map_drop, ← List.map_take, List.take_of_length_le (by rw [List.length_drop]; exact Nat.le_refl _)]
end Mk

set_option Elab.async false
set_option maxRecDepth 100000
set_option maxHeartbeats 4000000
namespace Mk
open PySem L2 Pk
def isLst : HO → Bool
  | .lst _ => true
  | _ => false
/-- all but lists stays -/
def Lk (H H' : Hp) : Prop := ∀ b o, isLst o = false → H b = some o → H' b = some o
theorem Lk.of {H H' : Hp} (s : Same H H') : Lk H H' := fun b o _ e => s b o e
theorem Lk.refl (H : Hp) : Lk H H := fun _ _ _ e => e
theorem Lk.trans {H H' H'' : Hp} (a : Lk H H') (b : Lk H' H'') : Lk H H'' := fun c o n e => b c o n (a c o n e)
theorem Lk.put {H : Hp} {q : Addr} {xs : List V} {o' : HO} (h : H q = some (.lst xs)) : Lk H (upd H q o') := fun b o n e => by
  have ne : b ≠ q := fun z => by
    rw [z, h] at e
    cases e
    cases n
  rw [upd_ne ne]
  exact e
theorem Lk.tk {H H' : Hp} (l : Lk H H') : Tk H H' := fun b _ e => l b _ rfl e
theorem MachAt.lk {K : PySem.W.Frag} {H H' : Hp} {C x : Addr} {l : PySem.Str} {n : Int} {rs : List Rl} {ys : List Int} (h : MachAt K H C x l n rs ys) (e : Lk H H') : MachAt K H' C x l n rs ys := by
  obtain ⟨dx, aR, aY, aS, aA, g, R, hx, hR, kR, eR, hY, hS, hA, hg⟩ := h.ex
  refine ⟨dx, aR, aY, aS, aA, g, R, e _ _ rfl hx, e _ _ rfl hR, fun p m => e _ _ rfl (kR p m), eR, e _ _ rfl hY, e _ _ rfl hS, ?_, hg.tk e.tk⟩
  obtain ⟨kvs, h1, h2⟩ := hA
  exact ⟨kvs, e _ _ rfl h1, Paired.mapP h2 fun a b z => z.mono fun c xs y => e _ _ rfl y⟩
theorem ArgsOk.mono {K : PySem.W.Frag} {H H' : Hp} {l : PySem.Str} {n : Int} {aR aY : Addr} {bR bY : Bool} {R : Hand} {ys : List Int} (h : ArgsOk K H l n aR aY bR bY R ys) (e : Same H H') : ArgsOk K H' l n aR aY bR bY R ys :=
  ⟨h.alpha, h.num, h.rs.mono e, h.hand.mono e, h.yes.mono e, h.in_, h.few⟩
theorem Right.mono {K : PySem.W.Frag} {H H' : Hp} {l : PySem.Str} {n : Int} {aR aY : Addr} {bR bY : Bool} {R : Hand} {ys : List Int} (h : Right K H l n aR aY bR bY R ys) (e : Same H H') : Right K H' l n aR aY bR bY R ys :=
  ⟨h.args.mono e, fun p m b => e _ _ (h.raw p m b), h.few, h.fewY⟩
theorem made_same {H H' : Hp} {x dx C : Addr} (nx : H x = none) (nd : H dx = none) (o : Off x (upd (upd H dx (.own x)) x (.ins C dx [])) H') : Same H H' := fun b u e =>
  o b u (ne_of_none e nx) (by rw [upd_ne (ne_of_none e nx), upd_ne (ne_of_none e nd)]; exact e)
theorem made_new {H : Hp} {x dx C : Addr} (nx : H x = none) (nd : H dx = none) : Same H (upd (upd H dx (.own x)) x (.ins C dx [])) := fun b u e => by
  rw [upd_ne (ne_of_none e nx), upd_ne (ne_of_none e nd)]
  exact e
section
variable {P : Program} {w : World} {K : PySem.W.Frag} {mg : PySem.Str → Option Value} {base : Heap}
/-- the class Machine and its ways to be called -/
structure MDef (P : Program) (w : World) (K : PySem.W.Frag) (mg : PySem.Str → Option Value) (base : Heap) (C fI e0 : Addr) (fd : FuncData) : Prop where
  cls : MCls K C
  maker : L2.Mk K C fI
  name : mg "Machine" = some (.ref C)
  init : FnOk P w K mg base CX0 6 fI fd ["self", "letters", "states", "rules", "yes"] (spInit K C)
  b4 : Binds K fd ["self", "letters", "states", "rules", "yes"] []
  b3 : ∃ ds, Vals [V.ref e0] ds ∧ Binds K fd ["self", "letters", "states", "rules", "yes"] ds
  kw : KBn K fd ["self", "letters", "states", "rules", "yes"] 4 ["yes"] (fun us ws => us ++ ws) (fun vs zs => vs ++ zs)
  empty : ∀ H : Hp, SqT K H e0 []
/-- a right call makes a machine -/
theorem made_of {H : Hp} {C x dx : Addr} {l : PySem.Str} {n : Int} {aR aY : Addr} {bR bY : Bool} {R : Hand} {ys : List Int} {Q : VK} {E : XK} (nx : H x = none) (nd : H dx = none) (r : Right K H l n aR aY bR bY R ys)
    (k : ∀ H', Same H H' → MachAt K H' C x l n (rsOf R) ys → Q (.ref x) H') :
    spInit K C [.ref x, .str l, .int n, .ref aR, .ref aY] (upd (upd H dx (.own x)) x (.ins C dx [])) (fun v H2 => v = .non ∧ Q (.ref x) H2) E :=
  ⟨x, dx, l, n, aR, aY, bR, bY, R, ys, rfl, upd_same, r.mono (made_new nx nd), fun H' o m => ⟨rfl, k H' (made_same nx nd o) m⟩⟩
theorem made_as {H : Hp} {C x dx : Addr} {l : PySem.Str} {n : Int} {aR aY : Addr} {bR bY : Bool} {R : Hand} {ys : List Int} {vs : List V} {Q : VK} {E : XK} (nx : H x = none) (nd : H dx = none) (hv : vs = [.ref x, .str l, .int n, .ref aR, .ref aY]) (r : Right K H l n aR aY bR bY R ys)
    (k : ∀ H', Same H H' → MachAt K H' C x l n (rsOf R) ys → Q .non H') : spInit K C vs (upd (upd H dx (.own x)) x (.ins C dx [])) Q E := by
  subst hv
  exact ⟨x, dx, l, n, aR, aY, bR, bY, R, ys, rfl, upd_same, r.mono (made_new nx nd), fun H' o m => k H' (made_same nx nd o) m⟩
end
theorem alpha_ok {l : PySem.Str} (al : Alpha l) : ∀ c ∈ l.cps.toList, c < 1114112 := fun c m => by
  have z := al.low
  unfold lowB at z
  have y := List.all_eq_true.mp z c m
  unfold lowC at y
  rw [Bool.and_eq_true, decide_eq_true_eq, decide_eq_true_eq] at y
  omega
theorem sym_ok {x : PySem.Str} (h : symB x = true) : ∀ c ∈ x.cps.toList, c < 1114112 := fun c m => by
  unfold symB at h
  rw [Bool.and_eq_true] at h
  have y := List.all_eq_true.mp h.2 c m
  unfold markC at y
  simp only [Bool.or_eq_true, Bool.and_eq_true, decide_eq_true_eq] at y
  omega
theorem top_ok {x : PySem.Str} (h : Top x) : ∀ c ∈ x.cps.toList, c < 1114112 := by
  rcases h with h | h
  · exact sym_ok h
  · rw [h]
    intro c m
    exact absurd m List.not_mem_nil
theorem sgn_ok {l x : PySem.Str} (al : Alpha l) (h : Sgn l x) : ∀ c ∈ x.cps.toList, c < 1114112 := by
  obtain ⟨c, rfl, h⟩ := h
  intro d m
  have e : d = c := List.mem_singleton.mp m
  rw [e]
  rcases h with h | h | h
  · omega
  · omega
  · exact alpha_ok al c h
theorem low_ok {x : PySem.Str} (h : lowB x = true) : ∀ c ∈ x.cps.toList, c < 1114112 := fun c m => by
  unfold lowB at h
  have y := List.all_eq_true.mp h c m
  unfold lowC at y
  rw [Bool.and_eq_true, decide_eq_true_eq, decide_eq_true_eq] at y
  omega

theorem deed_ok {t d x : PySem.Str} (h : Deed t d x) : (∀ c ∈ d.cps.toList, c < 1114112) ∧ ∀ c ∈ x.cps.toList, c < 1114112 := by
  have k1 : ∀ c ∈ (keep0).cps.toList, c < 1114112 := by decide +kernel
  have k2 : ∀ c ∈ (pop0).cps.toList, c < 1114112 := by decide +kernel
  have k3 : ∀ c ∈ (push0).cps.toList, c < 1114112 := by decide +kernel
  have k4 : ∀ c ∈ (swap0).cps.toList, c < 1114112 := by decide +kernel
  have k0 : ∀ c ∈ (nil0).cps.toList, c < 1114112 := by decide +kernel
  rcases h.one with e | e | e | e
  · exact ⟨by rw [e]; exact k1, by rw [h.no (.inl e)]; exact k0⟩
  · exact ⟨by rw [e]; exact k2, by rw [h.no (.inr e)]; exact k0⟩
  · exact ⟨by rw [e]; exact k3, sym_ok (h.sym (.inl e))⟩
  · exact ⟨by rw [e]; exact k4, sym_ok (h.sym (.inr e))⟩
theorem rl_ok {l : PySem.Str} {n : Int} {r : Rl} (al : Alpha l) (h : RlOk l n r) : ∀ x ∈ r.key, KeyOk x := by
  intro x m
  have m' : x ∈ [Sum.inl r.st, Sum.inr r.sg, Sum.inr r.tp, Sum.inl r.af, Sum.inl r.mv, Sum.inr r.de, Sum.inr r.sy, Sum.inr r.sa] := m
  simp only [List.mem_cons, List.not_mem_nil, or_false] at m'
  rcases m' with rfl | rfl | rfl | rfl | rfl | rfl | rfl | rfl
  · exact trivial
  · exact sgn_ok al h.sg
  · exact top_ok h.tp
  · exact trivial
  · exact trivial
  · exact (deed_ok h.de).1
  · exact (deed_ok h.de).2
  · exact low_ok h.sa.1
theorem k3_sub {r : Rl} (h : ∀ x ∈ r.key, KeyOk x) : ∀ x ∈ r.k3, KeyOk x := fun x m => h x (by
  have e : r.key = r.k3 ++ r.a5 := rfl
  rw [e]
  exact List.mem_append_left _ m)
end Mk

set_option Elab.async false
set_option linter.unusedVariables false
set_option maxRecDepth 100000
set_option maxHeartbeats 16000000
namespace Mk
open PySem L2 Pk
theorem iteNo17 {c : Bool} {A B : Prop} (e : c = false) (h : B) : if c = true then A else B := by
  rw [e, if_neg Bool.false_ne_true]
  exact h
def headSizes : List Int := [12, 8, 12, 13, 6, 8, 5, 16, 4, 24, 997, 13, 6, 8, 6, 12, 997, 13, 6, 8, 6, 12, 997, 13, 6, 8, 6, 12, 9, 9, 9, 9, 9, 9, 9, 9, 9]
theorem w3_old {x y z : PySem.Str} (w3 : W3 x y z) : ∀ t ∈ [nil0, x, y, z], t ∉ freshL := fun t m => by
  simp only [List.mem_cons, List.not_mem_nil, or_false] at m
  rcases m with rfl | rfl | rfl | rfl
  · exact old0
  · exact w3.2.2.2.1
  · exact w3.2.2.2.2.1
  · exact w3.2.2.2.2.2
section
variable {P : Program} {w : World} {K : PySem.W.Frag} {mg : PySem.Str → Option Value} {base : Heap}
structure GenDefs (P : Program) (w : World) (K : PySem.W.Frag) (mg : PySem.Str → Option Value) (base : Heap) : Prop where
  cell : Got P w K mg base "_law_cell" 1 ["script", "k"] (spCellA K)
  digits : Got P w K mg base "_law_digits" 1 ["cell", "sizes"] (spDigits K)
  alpha : Got P w K mg base "_law_alphabet" 1 ["row"] (spAlpha K)
  syms : Got P w K mg base "_law_symbols" 1 ["digit"] spSyms
  act : Got P w K mg base "_law_act" 1 ["row", "states", "symbols", "sign", "top"] (spAct K)
  caller : Got P w K mg base "_law_caller" 1 ["letters", "one", "two", "modes"] (spCaller K)
  restorer : Got P w K mg base "_law_restorer" 1 ["letters", "one", "two"] spSkel5
  scanner : Got P w K mg base "_law_scanner" 1 ["letters", "one", "two"] spSkel
  climber : Got P w K mg base "_law_climber" 1 ["letters", "one", "two"] spSkel
/-! _law_machine, the rules drawn anew -/
theorem mach_Y {f : Addr} (T : TM mg) (G : GenDefs P w K mg base) (cdv : Value) (A : Around) (outer : List Env) (s : Shared) (H : Hp) (E : XK)
    (h1 : Room 1 (A.deeper (PyProof.Rows.envOfC "_law_machine" (defScope sMachine) s.heap.objs.size f cdv))) :
    ∃ t : TS, PSs (cxOf CX0 P w K mg base nMachine "_law_machine" (defScope sMachine) f cdv A outer s H E).nox ((defBody sMachine).drop 9) t ∧
      ∀ (D : Ends) (H0 : Hp) (k : ∀ p H', MachD H0 p H' → D.rt (.ref p) H') (H1 : Hp) (aD aS aG a : Addr) (head : List Int) (l x y z : PySem.Str) (n : Int) (SL : List PySem.Str) (e0 e1 e8 e9 e10 e11 e12 e13 e14 e15 e16 e17 e18 e19 : Option V),
        H1 aD = some (.lst (head.map V.int)) → Digs headSizes head → H1 aS = some (.lst [.str x, .str y, .str z]) → symB x = true → symB y = true → symB z = true → W3 x y z → H1 aG = some (.lst (SL.map V.str)) → SL ≠ [] → SL.length ≤ 100 → (∀ s ∈ SL, Sgn l s) →
        Alpha l → l.length ≤ 3 → 1 ≤ n → n ≤ 5 → H0 a = none → Ru [nil0, x, y, z] H0 H1 a l n 300 →
        t D [e0, e1, some (.ref aD), some (.str l), some (.ref aS), some (.int n), some (.ref a), some (.ref aG), e8, e9, e10, e11, e12, e13, e14, e15, e16, e17, e18, e19] H1 := by
  have nd := scMachine.nd
  have hu64 := h1.units
  obtain ⟨tZ, hZ, kZ⟩ := mach_Z (P := P) (w := w) (K := K) (base := base) (f := f) T cdv A outer s H E
  refine ⟨_, pss_cons (ps_for PassesOwn.never rfl (pi_range1 (by rfl) T.range (pa_cons (pe_ix ix_list (pe_lst (pa_cons pe_int (pa_cons pe_int (pa_cons pe_int (pa_cons pe_int (pa_cons pe_int pa_nil)))))) (pe_ix ix_list (pv 2) pe_int fun _ _ => rfl) fun _ _ => rfl) pa_nil)) (pg_name (i := 15) nd rfl (Or.inl rfl))
        (pss_cons (ps_set (i := 13) nd rfl (Or.inl rfl) (pe_slice sl_list (pv 2) (po_some (pe_op op_add pe_int (pe_op op_mul pe_int (pv 15)))) (po_some (pe_op op_add pe_int (pe_op op_mul pe_int (pv 15))))))
        (pss_cons (ps_set (i := 16) nd rfl (Or.inr rfl) (pe_tup (pa_cons (pe_op op_mod (pe_callTy call_int1 (by rfl) T.int PyProof.Rows.Boot.int (pa_cons (pe_ix ix_list (pv 13) pe_int fun _ _ => rfl) pa_nil)) (pv 5)) (pa_cons (pe_ix ix_list (pv 7) (pe_op op_mod (pe_op op_fdiv (pe_callTy call_int1 (by rfl) T.int PyProof.Rows.Boot.int (pa_cons (pe_ix ix_list (pv 13) pe_int fun _ _ => rfl) pa_nil)) pe_int) (pe_callB call_len_seq (by rfl) T.len PySem.boot_len (pa_cons (pv 7) pa_nil))) fun _ _ => rfl) (pa_cons (pe_ix ix_list (pe_op op_cat (pe_lst (pa_cons pe_str pa_nil)) (pv 4)) (pe_op op_mod (pe_op op_fdiv (pe_callTy call_int1 (by rfl) T.int PyProof.Rows.Boot.int (pa_cons (pe_ix ix_list (pv 13) pe_int fun _ _ => rfl) pa_nil)) pe_int) pe_int) fun _ _ => rfl) pa_nil)))))
        (pss_cons (ps_setLc (i := 6) (own := [("rule", 19)]) (g := gName 19) (by rfl) nd rfl rfl (sw_true rfl rfl rfl (by decide +kernel)) (pi_list (pv 6)) (blkOk_by (own := [("rule", 19)]) (N := nMachine) (sc := defScope sMachine) (by decide +kernel)) (fun _ _ _ _ _ => pg_name (i := 19) nd rfl (Or.inl rfl)) (fun _ _ _ _ _ => pts_one (pt_cmpR (r := rNeD K) (op_neD hu64) (pe_slice (r := rSlT K) sl_tup (pv 19) po_none (po_some pe_int)) (pv 16) (nomark _))) (fun _ _ _ _ _ => (pv 19)))
        (pss_cons (ps_set (i := 14) nd rfl (Or.inl rfl) (pe_got G.act h1 (by rfl) (pa_cons (pe_slice sl_list (pv 13) (po_some pe_int) po_none) (pa_cons (pv 5) (pa_cons (pv 4) (pa_cons (pe_ix ix_tup (pv 16) pe_int fun _ _ => rfl) (pa_cons (pe_ix ix_tup (pv 16) pe_int fun _ _ => rfl) pa_nil)))))))
        (pss_one (ps_if (pt_cmp (pc_notN (pv 14)))
          (pss_one (ps_expr (pe_bm PySem.F.plainAttrs_list PySem.F.slot_list_append PySem.F.type_list_append mt_append (pv 6) (pa_cons (pe_op op_catT (pv 16) (pv 14)) pa_nil))))
          pss_nil)))))))
      hZ, ?_⟩
  intro D H0 k H1 aD aS aG a head l x y z n SL e0 e1 e8 e9 e10 e11 e12 e13 e14 e15 e16 e17 e18 e19 hD dg hS ox oy oz w3 hG neG mG okG al l3 n1 n5 na hR
  have rowAt : ∀ {j : Nat} {d : Nat}, head[j]? = some (d : Int) → atI (head.map V.int) (j : Int) = some (V.int d) := fun {j d} e => atI_nat (by rw [List.getElem?_map, e]; rfl)
  have dig : ∀ (j : Nat) (t : Int), headSizes[j]? = some t → ∃ d : Nat, head[j]? = some (d : Int) ∧ (d : Int) < t := fun j t e => by
    obtain ⟨d, e1, e2, e3⟩ := dg.2 j t e
    exact ⟨d.toNat, by rw [e1, Int.toNat_of_nonneg e2], by rw [Int.toNat_of_nonneg e2]; exact e3⟩
  have lenH : head.length = 37 := dg.1
  obtain ⟨d6, e6', b6⟩ := dig 6 5 rfl
  obtain ⟨d7, e7', b7⟩ := dig 7 16 rfl
  obtain ⟨d9, e9', b9⟩ := dig 9 24 rfl
  obtain ⟨m, em, m3⟩ : ∃ m : Nat, atI [V.int 0, V.int 0, V.int 1, V.int 0, V.int 3] (d6 : Int) = some (.int (m : Int)) ∧ m ≤ 3 := by
    have c : d6 = 0 ∨ d6 = 1 ∨ d6 = 2 ∨ d6 = 3 ∨ d6 = 4 := by omega
    rcases c with rfl | rfl | rfl | rfl | rfl
    · exact ⟨0, rfl, by decide⟩
    · exact ⟨0, rfl, by decide⟩
    · exact ⟨1, rfl, by decide⟩
    · exact ⟨0, rfl, by decide⟩
    · exact ⟨3, rfl, by decide⟩
  refine ⟨show 5 ≤ sizeLine by decide, fun q0 nq0 => ?_⟩
  have t0 := same_new (o := HO.lst [V.int 0, V.int 0, V.int 1, V.int 0, V.int 3]) nq0
  refine ⟨_, rfl, aD, _, _, _, rfl, rfl, SqL.of (t0 _ _ hD), rowAt (j := 6) e6', q0, _, _, .int (m : Int), rfl, rfl, SqL.of upd_same, em, _, rfl, by omega, by omega, for_range (lo := 0) (n := ((m : Nat) : Int).toNat) (fun i σ H' => Same H1 H' ∧ ∃ (a : Addr) (v13 v14 v15 v16 : Option V), σ = [e0, e1, some (.ref aD), some (.str l), some (.ref aS), some (.int n), some (.ref a), some (.ref aG), e8, e9, e10, e11, e12, v13, v14, v15, v16, e17, e18, e19] ∧ H0 a = none ∧ Ru [nil0, x, y, z] H0 H' a l n (300 + i))
    ⟨t0, a, _, _, _, _, rfl, na, hR.mono t0⟩ ?_ ?_⟩
  · rintro i σ H2 hi ⟨s2, a, v13, v14, v15, v16, rfl, na, B, R⟩
    have i3 : i < 3 := by omega
    have sizes : ∀ j, j < 6 → headSizes[10 + 6 * i + j]? = ([997, 13, 6, 8, 6, 12] : List Int)[j]? := by
      have c : i = 0 ∨ i = 1 ∨ i = 2 := by omega
      rcases c with rfl | rfl | rfl <;> decide
    obtain ⟨p0, ep0, bp0⟩ := dig (10 + 6 * i + 0) 997 (sizes 0 (by decide))
    obtain ⟨p1, ep1, bp1⟩ := dig (10 + 6 * i + 1) 13 (sizes 1 (by decide))
    obtain ⟨p2, ep2, bp2⟩ := dig (10 + 6 * i + 2) 6 (sizes 2 (by decide))
    obtain ⟨p3, ep3, bp3⟩ := dig (10 + 6 * i + 3) 8 (sizes 3 (by decide))
    obtain ⟨p4, ep4, bp4⟩ := dig (10 + 6 * i + 4) 6 (sizes 4 (by decide))
    obtain ⟨p5, ep5, bp5⟩ := dig (10 + 6 * i + 5) 12 (sizes 5 (by decide))
    have hD2 := s2 _ _ hD
    refine ⟨_, rfl, _, rfl, _, _, rfl, rfl, .inl ⟨by decide, by decide⟩, _, _, rfl, rfl, _, rfl, _, rfl, _, _, rfl, rfl, .inl ⟨by decide, by decide⟩, _, _, rfl, rfl, _, rfl, aD, _, rfl, SqL.of hD2, fun q nq => ?_⟩
    have cutE : cutV (head.map V.int) (some (10 + 6 * (0 + (i : Int)))) (some (16 + 6 * (0 + (i : Int)))) = ((head.drop (10 + 6 * i)).take 6).map V.int := by
      have c := cut_in (row := head) (a := 10 + 6 * i) (b := 16 + 6 * i) (by omega) (by omega)
      rw [show 16 + 6 * i - (10 + 6 * i) = 6 by omega] at c
      rw [show (10 : Int) + 6 * (0 + (i : Int)) = ((10 + 6 * i : Nat) : Int) by omega, show (16 : Int) + 6 * (0 + (i : Int)) = ((16 + 6 * i : Nat) : Int) by omega]
      exact c
    rw [cutE]
    generalize hpart : (head.drop (10 + 6 * i)).take 6 = part
    have partAt : ∀ {j d : Nat}, j < 6 → head[10 + 6 * i + j]? = some (d : Int) → part[j]? = some (d : Int) := fun {j d} lj e => by
      rw [← hpart, List.getElem?_take_of_lt lj, List.getElem?_drop]
      exact e
    have partI : ∀ {j d : Nat}, j < 6 → head[10 + 6 * i + j]? = some (d : Int) → atI (part.map V.int) (j : Int) = some (V.int d) := fun {j d} lj e => atI_nat (by rw [List.getElem?_map, partAt lj e]; rfl)
    have tq := s2.trans (same_new (o := HO.lst (part.map V.int)) nq)
    have Rq := R.mono (same_new (o := HO.lst (part.map V.int)) nq)
    have hq : (upd H2 q (.lst (part.map V.int))) q = some (.lst (part.map V.int)) := upd_same
    dsimp only [gName]
    show (tSeq _ _) _ _ (upd H2 q (.lst (part.map V.int)))
    generalize upd H2 q (.lst (part.map V.int)) = H3 at tq Rq hq ⊢
    clear nq hpart cutE
    -- the key
    have at0 := partI (j := 0) (by decide) ep0
    have hG3 := tq _ _ hG
    have hS3 := tq _ _ hS
    have lenG : 0 < SL.length := List.length_pos_iff.mpr neG
    have posG : (0 : Int) < (((SL.map V.str).length : Nat) : Int) := by rw [List.length_map]; omega
    obtain ⟨sg, esg⟩ : ∃ x, SL[p0 / 5 % SL.length]? = some x := ⟨_, List.getElem?_eq_getElem (Nat.mod_lt _ lenG)⟩
    have osg := okG sg (List.mem_of_getElem? esg)
    have ei : (p0 : Int) / 5 % (((SL.map V.str).length : Nat) : Int) = ((p0 / 5 % SL.length : Nat) : Int) := by
      rw [List.length_map, Int.natCast_emod, Int.natCast_ediv] <;> rfl
    obtain ⟨tp, etp, otp, wtp⟩ : ∃ t, atI [V.str nil0, V.str x, V.str y, V.str z] ((p0 : Int) / 25 % 4) = some (.str t) ∧ Top t ∧ t ∈ [nil0, x, y, z] := by
      have c : (p0 : Int) / 25 % 4 = 0 ∨ (p0 : Int) / 25 % 4 = 1 ∨ (p0 : Int) / 25 % 4 = 2 ∨ (p0 : Int) / 25 % 4 = 3 := by omega
      rcases c with e | e | e | e <;> rw [e]
      · exact ⟨nil0, rfl, .inr rfl, by simp⟩
      · exact ⟨x, rfl, .inl ox, by simp⟩
      · exact ⟨y, rfl, .inl oy, by simp⟩
      · exact ⟨z, rfl, .inl oz, by simp⟩
    have st : 0 ≤ (p0 : Int) % n ∧ (p0 : Int) % n ≤ n - 1 := ⟨Int.emod_nonneg _ (by omega), by have := Int.emod_lt_of_pos (p0 : Int) (show 0 < n by omega); omega⟩
    refine ⟨_, rfl, q, _, _, _, rfl, rfl, SqL.of hq, at0, .inl ⟨_, rfl, _, rfl, _, _, rfl, rfl, by omega, _, rfl, _, rfl, q, _, _, _, rfl, rfl, SqL.of hq, at0, .inl ⟨_, rfl, _, _, rfl, rfl, ⟨by decide, by decide⟩, _, rfl, aG, _, rfl, .inl (SqL.of hG3), _, _, rfl, rfl, posG, aG, _, _, .str sg, rfl, rfl, SqL.of hG3, by rw [ei]; exact atI_nat (by rw [List.getElem?_map, esg] <;> rfl), show 1 ≤ sizeLine by decide, fun u nu => ?_⟩⟩⟩
    have tu := same_new (o := HO.lst [V.str nil0]) nu
    refine ⟨_, rfl, u, aS, _, _, rfl, rfl, upd_same, tu _ _ hS3, show 4 ≤ sizeLine by decide, fun v nv => ?_⟩
    have tv := tu.trans (same_new (o := HO.lst [V.str nil0, V.str x, V.str y, V.str z]) nv)
    refine ⟨_, rfl, q, _, _, _, rfl, rfl, SqL.of (tv _ _ hq), at0, .inl ⟨_, rfl, _, _, rfl, rfl, ⟨by decide, by decide⟩, _, _, rfl, rfl, show (0 : Int) < 4 by decide, v, _, _, .str tp, rfl, rfl, SqL.of upd_same, etp, show 3 ≤ sizeLine by decide, fun kq nk => ?_⟩⟩
    have tk := tv.trans (same_new (o := HO.tup [V.int ((p0 : Int) % n), V.str sg, V.str tp]) nk)
    have Rk := Rq.mono tk
    have hkq : (upd (upd (upd H3 u (.lst [V.str nil0])) v (.lst [V.str nil0, V.str x, V.str y, V.str z])) kq (.tup [V.int ((p0 : Int) % n), V.str sg, V.str tp])) kq = some (.tup [V.int ((p0 : Int) % n), V.str sg, V.str tp]) := upd_same
    have sk := tq.trans tk
    have hqk := tk _ _ hq
    dsimp only [gName]
    show (tSeq _ _) _ _ (upd (upd (upd H3 u (.lst [V.str nil0])) v (.lst [V.str nil0, V.str x, V.str y, V.str z])) kq (.tup [V.int ((p0 : Int) % n), V.str sg, V.str tp]))
    generalize upd (upd (upd H3 u (.lst [V.str nil0])) v (.lst [V.str nil0, V.str x, V.str y, V.str z])) kq (.tup [V.int ((p0 : Int) % n), V.str sg, V.str tp]) = H4 at sk Rk hkq hqk ⊢
    clear tq Rq R nu nv nk tu tv tk hG3 hS3 hq
    -- the rules of other keys
    have c3 : ¬ (HT.sIx 8 0 none = 0 ∧ HT.sIx 8 8 (some 3) = 8) := by decide
    have okK : ∀ p ∈ B, ∀ x ∈ p.2.k3, KeyOk x := fun p m => k3_sub (rl_ok al (Rk.ok p m))
    have okKey : ∀ x ∈ ([.inl ((p0 : Int) % n), .inr sg, .inr tp] : List Key), KeyOk x := fun x m => by
      simp only [List.mem_cons, List.not_mem_nil, or_false] at m
      rcases m with rfl | rfl | rfl
      · exact trivial
      · exact sgn_ok al osg
      · exact top_ok otp
    refine ⟨_, rfl, a, rfl, ⟨_, SqL.of Rk.at_⟩, fun Dn nDn => lc_list (K := K) (a := a) (xs := refsK B) (fun i' H' => Same H4 H' ∧ ∃ B' : Kept, H' Dn = some (.lst (refsK B')) ∧ B'.Sublist (B.take i') ∧ (∀ p ∈ B', p.2.k3 ≠ [.inl ((p0 : Int) % n), .inr sg, .inr tp]) ∧ B'.length ≤ i') ⟨same_new nDn, [], upd_same, List.nil_sublist _, fun p m => absurd m List.not_mem_nil, Nat.zero_le _⟩ (fun i' H' _ h => SqL.of (h.1 _ _ Rk.at_)) ?_ ?_⟩
    · rintro i' v H5 hi' ⟨s5, B', hB', sl, no, lb⟩
      obtain ⟨p, ep, rfl⟩ := at_refs hi'
      have mp := List.mem_of_getElem? ep
      have li : i' < B.length := (List.getElem?_eq_some_iff.mp ep).1
      have few := Rk.few
      refine ⟨rfl, ?_⟩
      refine ⟨_, rfl, 3, rfl, p.1, p.2.vs, rfl, .inl (.inl (s5 _ _ (Rk.kept p mp))), c3, fun q3 n3 => ?_⟩
      have t3 := same_new (o := HO.tup (cutV p.2.vs none (some 3))) n3
      have hq3 : (upd H5 q3 (.tup (cutV p.2.vs none (some 3)))) q3 = some (.tup (p.2.k3.map kV)) := upd_same
      have hk3 : (upd H5 q3 (.tup (cutV p.2.vs none (some 3)))) kq = some (.tup (([.inl ((p0 : Int) % n), .inr sg, .inr tp] : List Key).map kV)) := t3 _ _ (s5 _ _ hkq)
      refine ⟨_, rfl, _, _, dp_keys hq3, dp_keys hk3, shaped_keys (okK p mp), shaped_keys okKey, _, rfl, ite2 (fun c => ?_) (fun _ => ⟨s5.trans t3, B', t3 _ _ hB', by rw [take_at ep]; exact sl.trans (List.sublist_append_left _ _), no, by omega⟩)⟩
      refine ⟨_, rfl, _, t3 _ _ hB', ?_, same_mut (s5.trans t3) nDn, B' ++ [p], ?_, by rw [take_at ep]; exact List.Sublist.append sl (List.Sublist.refl _), fun z m => ?_, ?_⟩
      · unfold refsK
        rw [List.length_map]
        exact Nat.lt_of_le_of_lt (show B'.length ≤ 1000 by omega) (by decide)
      · rw [upd_same]
        unfold refsK
        rw [List.map_append] <;> rfl
      · rcases List.mem_append.mp m with m | m
        · exact no z m
        · rw [List.mem_singleton.mp m]
          intro e
          rw [eqv_keys, decide_eq_true e] at c
          cases c
      · rw [List.length_append]
        show B'.length + 1 ≤ i' + 1
        omega
    rintro H5 ⟨s5, B', hB', sl, no, lb⟩
    have slB : B'.Sublist B := sl.trans (List.take_sublist _ _)
    have sub : ∀ p ∈ B', p ∈ B := fun p m => slB.subset m
    have lB : (refsK B).length = B.length := List.length_map ..
    have few := Rk.few
    have naD : H0 Dn = none := Rk.same.free nDn
    have hDn1 : H1 Dn = none := sk.free nDn
    have RD : RuAt [nil0, x, y, z] H0 H5 Dn l n (300 + i) B' := ⟨Rk.same.trans s5, hB', fun p m => s5 _ _ (Rk.kept p (sub p m)), fun p m => Rk.ok p (sub p m), by omega, Rk.nd.sublist (slB.map _), fun p m => Rk.old p (sub p m)⟩
    have s15 := sk.trans s5
    have hq5 := s5 _ _ hqk
    have hk5 := s5 _ _ hkq
    clear s5 hB' Rk sk hqk hkq s2
    -- the act
    have len1 : 1 ≤ part.length := (List.getElem?_eq_some_iff.mp (partAt (j := 0) (by decide) ep0)).1
    have cut1' : cutV (part.map V.int) (some 1) none = (part.drop 1).map V.int := cut_from (row := part) (a := 1) len1
    have ar : ActRow (part.drop 1) p1 p2 p3 p4 p5 := ⟨by rw [List.getElem?_drop]; exact partAt (j := 1) (by decide) ep1, by rw [List.getElem?_drop]; exact partAt (j := 2) (by decide) ep2, by rw [List.getElem?_drop]; exact partAt (j := 3) (by decide) ep3, by rw [List.getElem?_drop]; exact partAt (j := 4) (by decide) ep4,
      by rw [List.getElem?_drop]; exact partAt (j := 5) (by decide) ep5, by omega, by omega, by omega⟩
    refine ⟨_, rfl, 1, rfl, q, _, rfl, SqL.of hq5, fun r nr => ?_⟩
    rw [cut1']
    have tr := same_new (o := HO.lst ((part.drop 1).map V.int)) nr
    refine ⟨_, rfl, _, rfl, _, rfl, kq, _, 1, .str sg, rfl, rfl, .inl (.inl (tr _ _ hk5)), rfl, _, rfl, kq, _, 2, .str tp, rfl, rfl, .inl (.inl (tr _ _ hk5)), rfl, ?_⟩
    refine ⟨r, aS, part.drop 1, p1, p2, p3, p4, p5, n, l, sg, tp, [x, y, z], rfl, SqL.of upd_same, ar, SqL.of ((s15.trans tr) _ _ hS), n1, List.cons_ne_nil _ _, ?_, osg, otp, ?_, fun t rr Ht st5 eg ep okr ht => ?_⟩
    · intro s m
      simp only [List.mem_cons, List.not_mem_nil, or_false] at m
      rcases m with rfl | rfl | rfl
      · exact ox
      · exact oy
      · exact oz
    · refine ⟨_, rfl, _, rfl, iteNo17 (by rw [decide_eq_true rfl] <;> rfl) ?_⟩
      exact ⟨s15.trans tr, Dn, _, _, _, _, rfl, naD, Ru.le ⟨_, RD.mono tr⟩ (by omega)⟩
    · have RT := RD.mono (tr.trans st5)
      have hkt := st5 _ _ (tr _ _ hk5)
      refine ⟨_, rfl, _, rfl, ite2 (fun _ => ?_) (fun c => absurd (by rw [decide_eq_false (fun z => nomatch z)] <;> rfl) c)⟩
      refine ⟨_, rfl, .inl ⟨rfl, _, SqL.of RT.at_⟩, _, rfl, _, rfl, kq, t, [.int ((p0 : Int) % n), .str sg, .str tp], _, rfl, rfl, .inl (.inl hkt), .inl (.inl ht), (fun z => nomatch z), show 3 + 5 ≤ sizeLine by decide, (fun z => nomatch z), fun _ w2 nw => ⟨Dn, _, _, rfl, rfl, RT.look nw, RT.sz (by omega), ?_⟩⟩
      have RA := RT.add naD nw (r := ⟨(p0 : Int) % n, sg, tp, rr.af, rr.mv, rr.de, rr.sy, rr.sa⟩) (mkRl st osg otp okr.af (by rw [← eg]; exact okr.mv) (by rw [← ep]; exact okr.de) okr.sa) no wtp
      have sD : Same H1 _ := same_mut (o := HO.lst (refsK B' ++ [V.ref w2])) (((s15.trans tr).trans st5).trans (same_new (o := HO.tup (⟨(p0 : Int) % n, sg, tp, rr.af, rr.mv, rr.de, rr.sy, rr.sa⟩ : Rl).vs) nw)) (show H1 Dn = none from hDn1)
      exact ⟨sD, Dn, _, _, _, _, rfl, naD, Ru.le ⟨_, RA⟩ (by omega)⟩
  · rintro σ H2 ⟨s2, a, v13, v14, v15, v16, rfl, na, R⟩
    exact kZ [nil0, x, y, z] (by show 4 ≤ 4; decide) (w3_old w3) D H0 k H2 aD a head d7 d9 l n _ _ _ _ _ _ _ _ _ _ _ _ _ _ _ _ (s2 _ _ hD) e7' e9' al l3 n1 n5 na (R.le (by omega))
end
end Mk

set_option Elab.async false
set_option linter.unusedVariables false
set_option maxRecDepth 100000
set_option maxHeartbeats 16000000
namespace Mk
open PySem L2 Pk
section
variable {P : Program} {w : World} {K : PySem.W.Frag} {mg : PySem.Str → Option Value} {base : Heap}
/-! _law_machine, the signs, the tops, the rules of all keys -/
def fAll (s g t : Nat) : Nat := 100 + 20 * s + 4 * g + t
theorem mach_X {f : Addr} (T : TM mg) (G : GenDefs P w K mg base) (cdv : Value) (A : Around) (outer : List Env) (s : Shared) (H : Hp) (E : XK)
    (h1 : Room 1 (A.deeper (PyProof.Rows.envOfC "_law_machine" (defScope sMachine) s.heap.objs.size f cdv))) :
    ∃ t : TS, PSs (cxOf CX0 P w K mg base nMachine "_law_machine" (defScope sMachine) f cdv A outer s H E).nox ((defBody sMachine).drop 6) t ∧
      ∀ (D : Ends) (H0 : Hp) (k : ∀ p H', MachD H0 p H' → D.rt (.ref p) H') (H1 : Hp) (sc aD aS a : Addr) (ns head : List Int) (at_ : Nat) (l x y z : PySem.Str) (n : Int) (e7 e8 e9 e10 e11 e12 e13 e14 e15 e16 e17 e18 e19 : Option V),
        SqL K H0 sc (ns.map V.int) → H1 aD = some (.lst (head.map V.int)) → Digs headSizes head → H1 aS = some (.lst [.str x, .str y, .str z]) → symB x = true → symB y = true → symB z = true → W3 x y z →
        Alpha l → l.length ≤ 3 → 1 ≤ n → n ≤ 5 → H0 a = none → Ru [nil0, x, y, z] H0 H1 a l n 100 → (∀ d : Nat, head[0]? = some (d : Int) → d < 2 → H1 a = some (.lst [])) →
        t D [some (.ref sc), some (.int (at_ : Int)), some (.ref aD), some (.str l), some (.ref aS), some (.int n), some (.ref a), e7, e8, e9, e10, e11, e12, e13, e14, e15, e16, e17, e18, e19] H1 := by
  have nd := scMachine.nd
  obtain ⟨tY, hY, kY⟩ := mach_Y (f := f) T G cdv A outer s H E h1
  refine ⟨_, pss_cons (ps_set (i := 7) nd rfl (Or.inl rfl) (pe_op op_cat (pe_lst (pa_cons pe_str (pa_cons pe_str pa_nil))) (pe_lc (own := [("letter", 18)]) (g := gName 18) (tt := tYes) (by rfl) nd (pi_str (pv 3)) (blkOk_by (own := [("letter", 18)]) (N := nMachine) (sc := defScope sMachine) (by decide +kernel)) (fun _ _ _ _ _ => pg_name (i := 18) nd rfl (Or.inl rfl)) (fun _ _ _ _ _ => pts_nil) (fun _ _ _ _ _ => (pv 18)))))
      (pss_cons (ps_set (i := 8) nd rfl (Or.inl rfl) (pe_op op_cat (pe_lst (pa_cons pe_str pa_nil)) (pe_slice sl_list (pv 4) po_none (po_some (pe_ix ix_list (pe_lst (pa_cons pe_int (pa_cons pe_int (pa_cons pe_int (pa_cons pe_int pa_nil))))) (pe_ix ix_list (pv 2) pe_int fun _ _ => rfl) fun _ _ => rfl)))))
      (C8.pss_cut (ps_if (pt_cmpR op_lt (pe_ix ix_list (pv 2) pe_int fun _ _ => rfl) pe_int (nomark _))
        (pss_one (ps_for PassesOwn.never rfl (pi_range1 (by rfl) T.range (pa_cons (pv 5) pa_nil)) (pg_name (i := 9) nd rfl (Or.inl rfl))
          (pss_cons (ps_set (i := 10) nd rfl (Or.inl rfl) (pe_got G.digits h1 (by rfl) (pa_cons (pe_got G.cell h1 (by rfl) (pa_cons (pv 0) (pa_cons (pe_op op_add (pe_op op_add (pe_op op_add (pv 1) pe_int) (pv 9)) (pe_op op_mul pe_int (pe_callTy call_int1 (by rfl) T.int PyProof.Rows.Boot.int (pa_cons (pe_cmpR op_gt (pv 9) pe_int (nomark _)) pa_nil)))) pa_nil))) (pa_cons (pe_op op_rep (pe_lst (pa_cons pe_int (pa_cons pe_int (pa_cons pe_int (pa_cons pe_int (pa_cons pe_int pa_nil)))))) pe_int) pa_nil))))
          (pss_one (ps_for PassesOwn.never rfl (pi_range1 (by rfl) T.range (pa_cons (pe_callB call_len_seq (by rfl) T.len PySem.boot_len (pa_cons (pv 7) pa_nil)) pa_nil)) (pg_name (i := 11) nd rfl (Or.inl rfl))
            (pss_one (ps_for PassesOwn.never rfl (pi_range1 (by rfl) T.range (pa_cons (pe_callB call_len_seq (by rfl) T.len PySem.boot_len (pa_cons (pv 8) pa_nil)) pa_nil)) (pg_name (i := 12) nd rfl (Or.inl rfl))
              (pss_cons (ps_set (i := 13) nd rfl (Or.inl rfl) (pe_slice sl_list (pv 10) (po_some (pe_op op_mul pe_int (pe_op op_add (pe_op op_mul pe_int (pv 11)) (pv 12)))) (po_some (pe_op op_add (pe_op op_mul pe_int (pe_op op_add (pe_op op_mul pe_int (pv 11)) (pv 12))) pe_int))))
              (pss_cons (ps_set (i := 14) nd rfl (Or.inl rfl) (pe_got G.act h1 (by rfl) (pa_cons (pv 13) (pa_cons (pv 5) (pa_cons (pe_slice sl_list (pv 8) (po_some pe_int) po_none) (pa_cons (pe_ix ix_list (pv 7) (pv 11) fun _ _ => rfl) (pa_cons (pe_ix ix_list (pv 8) (pv 12) fun _ _ => rfl) pa_nil)))))))
              (C8.pss_cut (ps_if (pt_cmpR op_eq (pe_op op_add (pe_op op_add (pv 11) (pv 12)) (pv 9)) pe_int (nomark _))
                (pss_one (ps_set (i := 14) nd rfl (Or.inl rfl) (pe_tup (pa_cons (pe_op op_sub (pv 5) pe_int) (pa_cons pe_int (pa_cons pe_str (pa_cons pe_str (pa_cons pe_str pa_nil))))))))
                pss_nil)
              (pss_one (ps_if (pt_cmp (pc_notN (pv 14)))
                (pss_one (ps_expr (pe_bm PySem.F.plainAttrs_list PySem.F.slot_list_append PySem.F.type_list_append mt_append (pv 6) (pa_cons (pe_op op_catT (pe_tup (pa_cons (pv 9) (pa_cons (pe_ix ix_list (pv 7) (pv 11) fun _ _ => rfl) (pa_cons (pe_ix ix_list (pv 8) (pv 12) fun _ _ => rfl) pa_nil)))) (pv 14)) pa_nil))))
                pss_nil))))))))))))
        pss_nil)
      hY)), ?_⟩
  intro D H0 k H1 sc aD aS a ns head at_ l x y z n e7 e8 e9 e10 e11 e12 e13 e14 e15 e16 e17 e18 e19 hSc hD dg hS ox oy oz w3 al l3 n1 n5 na hR hE
  have rowAt : ∀ {j : Nat} {d : Nat}, head[j]? = some (d : Int) → atI (head.map V.int) (j : Int) = some (V.int d) := fun {j d} e => atI_nat (by rw [List.getElem?_map, e]; rfl)
  have dig : ∀ (j : Nat) (t : Int), headSizes[j]? = some t → ∃ d : Nat, head[j]? = some (d : Int) ∧ (d : Int) < t := fun j t e => by
    obtain ⟨d, e1, e2, e3⟩ := dg.2 j t e
    exact ⟨d.toNat, by rw [e1, Int.toNat_of_nonneg e2], by rw [Int.toNat_of_nonneg e2]; exact e3⟩
  obtain ⟨d0, ed0, b0⟩ := dig 0 12 rfl
  obtain ⟨d8, ed8, b8⟩ := dig 8 4 rfl
  have l3' : l.cps.size ≤ 3 := l3
  -- signs
  refine ⟨show 2 ≤ sizeLine by decide, fun la ha => ?_⟩
  refine ⟨_, rfl, l, rfl, fun Dl hDl => lc_it walk_str (fun i H' => Same (upd H1 la (.lst [.str lt0, .str gt0])) H' ∧ H' Dl = some (.lst (((l.cps.toList.take i).map sgn1).map V.str)))
      ⟨same_new hDl, upd_same⟩ (fun _ _ _ _ => trivial) ?_ ?_⟩
  · rintro i v H2 H3 hi ⟨s2, hD2⟩ ⟨rfl, c0, hc0, rfl⟩
    have hc1 : l.cps.toList[i]? = some c0 := by rw [Array.getElem?_toList]; exact hc0
    refine ⟨rfl, ?_⟩
    refine ⟨_, rfl, _, hD2, ?_, same_mut s2 hDl, ?_⟩
    · rw [List.length_map, List.length_map, List.length_take, Array.length_toList]
      exact Nat.lt_of_le_of_lt (Nat.le_trans (Nat.min_le_right _ _) l3') (by decide)
    · rw [upd_same, take_at hc1, List.map_append, List.map_append]
      rfl
  rintro H2 ⟨s2, hD2⟩
  have full : l.cps.toList.take l.cps.size = l.cps.toList := List.take_of_length_le (by rw [Array.length_toList]; exact Nat.le_refl _)
  rw [full] at hD2
  refine ⟨la, Dl, _, _, rfl, rfl, s2 _ _ upd_same, hD2, ?_, fun aG nG => ?_⟩
  · rw [List.length_map, List.length_map, Array.length_toList]
    exact Nat.le_trans (Nat.add_le_add_left l3' _) (by decide)
  have s12 : Same H1 (upd H2 aG (.lst (([lt0, gt0] ++ l.cps.toList.map sgn1).map V.str))) := ((same_new ha).trans s2).trans (same_new nG)
  have hG : (upd H2 aG (.lst (([lt0, gt0] ++ l.cps.toList.map sgn1).map V.str))) aG = some (.lst (([lt0, gt0] ++ l.cps.toList.map sgn1).map V.str)) := upd_same
  have eSL : ([V.str lt0, V.str gt0] ++ (l.cps.toList.map sgn1).map V.str) = ([lt0, gt0] ++ l.cps.toList.map sgn1).map V.str := by rw [List.map_append] <;> rfl
  rw [show ([V.str (PySem.Str.ofString "<"), V.str (PySem.Str.ofString ">")] ++ (l.cps.toList.map sgn1).map V.str) = ([lt0, gt0] ++ l.cps.toList.map sgn1).map V.str from eSL]
  dsimp only [gName]
  show (tSeq _ _) _ _ (upd H2 aG (.lst (([lt0, gt0] ++ l.cps.toList.map sgn1).map V.str)))
  generalize upd H2 aG (.lst (([lt0, gt0] ++ l.cps.toList.map sgn1).map V.str)) = H3 at s12 hG ⊢
  have okSL : ∀ x ∈ ([lt0, gt0] ++ l.cps.toList.map sgn1), Sgn l x := by
    intro x m
    rcases List.mem_append.mp m with m | m
    · rcases List.mem_cons.mp m with e | m
      · rw [e]; exact sgnLt l
      · rw [List.mem_singleton.mp m]; exact sgnGt l
    · obtain ⟨c0, m0, rfl⟩ := List.mem_map.mp m
      exact sgnIn m0
  have lSL : ([lt0, gt0] ++ l.cps.toList.map sgn1).length ≤ 5 := by
    rw [List.length_append, List.length_map, Array.length_toList]
    show 2 + l.cps.size ≤ 5
    omega
  have neSL : ([lt0, gt0] ++ l.cps.toList.map sgn1) ≠ [] := by simp
  have atSL : ([lt0, gt0] ++ l.cps.toList.map sgn1)[0]? = some lt0 := rfl
  have ndSL : ([lt0, gt0] ++ l.cps.toList.map sgn1).Nodup := sgs_nd al
  generalize [lt0, gt0] ++ l.cps.toList.map sgn1 = SL at hG okSL lSL neSL atSL ndSL
  clear s2 hD2 ha hDl nG full eSL
  -- tops
  obtain ⟨c, ec, hc⟩ : ∃ c : Nat, atI [V.int 1, V.int 2, V.int 2, V.int 3] (d8 : Int) = some (.int (c : Int)) ∧ 1 ≤ c ∧ c ≤ 3 := by
    have h : d8 = 0 ∨ d8 = 1 ∨ d8 = 2 ∨ d8 = 3 := by omega
    rcases h with rfl | rfl | rfl | rfl
    · exact ⟨1, rfl, by decide, by decide⟩
    · exact ⟨2, rfl, by decide, by decide⟩
    · exact ⟨2, rfl, by decide, by decide⟩
    · exact ⟨3, rfl, by decide, by decide⟩
  refine ⟨show 1 ≤ sizeLine by decide, fun q1 n1' => ?_⟩
  have t1 := same_new (o := HO.lst [V.str nil0]) n1'
  refine ⟨_, rfl, show 4 ≤ sizeLine by decide, fun q2 n2' => ?_⟩
  have t2 := t1.trans (same_new (o := HO.lst [V.int 1, V.int 2, V.int 2, V.int 3]) n2')
  refine ⟨_, rfl, aD, _, _, _, rfl, rfl, SqL.of (t2 _ _ (s12 _ _ hD)), rowAt (j := 8) ed8, q2, _, _, .int (c : Int), rfl, rfl, SqL.of upd_same, ec, _, rfl, aS, _, rfl, SqL.of (t2 _ _ (s12 _ _ hS)), fun q3 n3' => ?_⟩
  have ecut : cutV [V.str x, V.str y, V.str z] none (some (c : Int)) = (([x, y, z] : List PySem.Str).take c).map V.str := by
    rw [cut_take, List.map_take] <;> rfl
  rw [ecut]
  have t3 := t2.trans (same_new (o := HO.lst ((([x, y, z] : List PySem.Str).take c).map V.str)) n3')
  refine ⟨q1, q3, _, _, rfl, rfl, same_new n3' _ _ (same_new n2' _ _ upd_same), upd_same, ?_, fun aT nT => ?_⟩
  · rw [List.length_map, List.length_take]
    exact Nat.le_trans (show 1 + min c 3 ≤ 10 by omega) (by decide)
  have t4 := t3.trans (same_new (o := HO.lst ([V.str nil0] ++ (([x, y, z] : List PySem.Str).take c).map V.str)) nT)
  have hT : (upd (upd (upd (upd H3 q1 (.lst [V.str nil0])) q2 (.lst [V.int 1, V.int 2, V.int 2, V.int 3])) q3 (.lst ((([x, y, z] : List PySem.Str).take c).map V.str))) aT (.lst ([V.str nil0] ++ (([x, y, z] : List PySem.Str).take c).map V.str))) aT = some (.lst ((nil0 :: ([x, y, z] : List PySem.Str).take c).map V.str)) := upd_same
  dsimp only [gName]
  show (C8.tCut _ _) _ _ (upd (upd (upd (upd H3 q1 (.lst [V.str nil0])) q2 (.lst [V.int 1, V.int 2, V.int 2, V.int 3])) q3 (.lst ((([x, y, z] : List PySem.Str).take c).map V.str))) aT (.lst ([V.str nil0] ++ (([x, y, z] : List PySem.Str).take c).map V.str)))
  generalize upd (upd (upd (upd H3 q1 (.lst [V.str nil0])) q2 (.lst [V.int 1, V.int 2, V.int 2, V.int 3])) q3 (.lst ((([x, y, z] : List PySem.Str).take c).map V.str))) aT (.lst ([V.str nil0] ++ (([x, y, z] : List PySem.Str).take c).map V.str)) = H4 at t4 hT ⊢
  have okss : ∀ s ∈ ([x, y, z] : List PySem.Str).take c, symB s = true := fun s m => by
    have m' := List.mem_of_mem_take m
    simp only [List.mem_cons, List.not_mem_nil, or_false] at m'
    rcases m' with rfl | rfl | rfl
    · exact ox
    · exact oy
    · exact oz
  have less : (([x, y, z] : List PySem.Str).take c).length ≤ 3 := by rw [List.length_take]; exact Nat.min_le_right _ _
  have ness : ([x, y, z] : List PySem.Str).take c ≠ [] := fun z => by
    have y := congrArg List.length z
    rw [List.length_take] at y
    have e : min c 3 = 0 := y
    omega
  have oldss : ∀ s ∈ ([x, y, z] : List PySem.Str).take c, s ∈ [nil0, x, y, z] := fun s m => by
    have m' := List.mem_of_mem_take m
    simp only [List.mem_cons, List.not_mem_nil, or_false] at m'
    rcases m' with rfl | rfl | rfl
    · simp
    · simp
    · simp
  have ndT : (nil0 :: ([x, y, z] : List PySem.Str).take c).Nodup := by
    refine List.nodup_cons.mpr ⟨fun m => sym_ne (okss _ m) rfl, List.Nodup.sublist (List.take_sublist _ _) ?_⟩
    refine List.nodup_cons.mpr ⟨fun m => ?_, List.nodup_cons.mpr ⟨fun m => w3.2.2.1 (List.mem_singleton.mp m), List.pairwise_singleton _ _⟩⟩
    rcases List.mem_cons.mp m with e | m
    · exact w3.1 e
    · exact w3.2.1 (List.mem_singleton.mp m)
  generalize ([x, y, z] : List PySem.Str).take c = ss at hT okss less ness oldss ndT
  have s14 := s12.trans t4
  have hG4 := t4 _ _ hG
  have hD4 := s14 _ _ hD
  have hS4 := s14 _ _ hS
  have R4 := hR.mono s14
  clear ecut t1 t2 t3 nT n1' n2' n3' hG
  -- what is not the rules' list stays
  obtain ⟨B0, RB⟩ := R4
  have ne : ∀ {b : Addr} {v : V} {vs : List V}, H4 b = some (.lst (v :: vs)) → (∀ q, v ≠ .ref q) → b ≠ a := fun {b v vs} e nv z => by
    rw [z, RB.at_] at e
    have e' := HO.lst.inj (Option.some.inj e)
    cases B0 with
    | nil => cases e'
    | cons p B =>
      have e2 : V.ref p.1 = v := (List.cons.inj e').1
      exact nv _ e2.symm
  have aDn : aD ≠ a := by
    have h0 : head = (d0 : Int) :: head.drop 1 := by
      cases hh : head with
      | nil => rw [hh] at ed0; cases ed0
      | cons u r => rw [hh] at ed0; rw [show (u :: r).drop 1 = r from rfl, ← Option.some.inj ed0]
    rw [h0] at hD4
    exact ne hD4 fun q => nofun
  have aSn : aS ≠ a := ne hS4 fun q => nofun
  have aTn : aT ≠ a := ne hT fun q => nofun
  have aGn : aG ≠ a := by
    cases hs : SL with
    | nil => exact absurd hs neSL
    | cons u r => rw [hs] at hG4; exact ne hG4 fun q => nofun
  have fin : ∀ (H' : Hp) (v9 v10 v11 v12 v13 v14 : Option V), (∀ b o, b ≠ a → H4 b = some o → H' b = some o) → Ru [nil0, x, y, z] H0 H' a l n 300 → tY D [some (.ref sc), some (.int (at_ : Int)), some (.ref aD), some (.str l), some (.ref aS), some (.int n), some (.ref a), some (.ref aG), some (.ref aT), v9, v10, v11, v12, v13, v14, e15, e16, e17, e18, e19] H' := fun H' v9 v10 v11 v12 v13 v14 kp R =>
    kY D H0 k H' aD aS aG a head l x y z n SL _ _ _ _ _ _ _ _ _ _ _ _ _ _ (kp _ _ aDn hD4) dg (kp _ _ aSn hS4) ox oy oz w3 (kp _ _ aGn hG4) neSL (by omega) okSL al l3 n1 n5 na R
  refine ⟨fun σ' H' => (∀ b o, b ≠ a → H4 b = some o → H' b = some o) ∧ Ru [nil0, x, y, z] H0 H' a l n 300 ∧ ∃ v9 v10 v11 v12 v13 v14 : Option V, σ' = [some (.ref sc), some (.int (at_ : Int)), some (.ref aD), some (.str l), some (.ref aS), some (.int n), some (.ref a), some (.ref aG), some (.ref aT), v9, v10, v11, v12, v13, v14, e15, e16, e17, e18, e19], ?_, ?_⟩
  rotate_left
  · rintro _ H' ⟨kp, R, v9, v10, v11, v12, v13, v14, rfl⟩
    exact fin H' _ _ _ _ _ _ kp R
  refine ⟨_, rfl, aD, _, _, _, rfl, rfl, SqL.of hD4, rowAt (j := 0) ed0, _, _, rfl, rfl, _, rfl, ite2 (fun c02 => ?_) (fun _ => ⟨fun b o _ e => e, Ru.le ⟨_, RB⟩ (by omega), _, _, _, _, _, _, rfl⟩)⟩
  have d02 : d0 < 2 := by
    have z : (d0 : Int) < 2 := of_decide_eq_true c02
    omega
  have RE : Rs [nil0, x, y, z] (rkOf fAll SL (nil0 :: ss)) H0 H4 a l n 100 := ⟨[], RsAt.nil RB.same (s14 _ _ (hE d0 ed0 d02))⟩
  refine ⟨_, rfl, n, rfl, by omega, by omega, for_range (lo := 0) (n := n.toNat) (fun i σ H' => (∀ b o, b ≠ a → H4 b = some o → H' b = some o) ∧ Rs [nil0, x, y, z] (rkOf fAll SL (nil0 :: ss)) H0 H' a l n (100 + 20 * i) ∧ ∃ v9 v10 v11 v12 v13 v14 : Option V, σ = [some (.ref sc), some (.int (at_ : Int)), some (.ref aD), some (.str l), some (.ref aS), some (.int n), some (.ref a), some (.ref aG), some (.ref aT), v9, v10, v11, v12, v13, v14, e15, e16, e17, e18, e19])
    ⟨fun b o _ e => e, RE.le (by omega), _, _, _, _, _, _, rfl⟩ ?_ ?_⟩
  · rintro i σ H5 hi ⟨kp, ⟨B5, R5⟩, v9, v10, v11, v12, v13, v14, rfl⟩
    have i5 : i < 5 := by omega
    obtain ⟨jn, ej⟩ : ∃ j : Nat, (at_ : Int) + 1 + (0 + (i : Int)) + 7 * (if decide (0 + (i : Int) > 3) = true then 1 else 0) = (j : Int) := by
      by_cases h : decide (0 + (i : Int) > 3) = true
      · exact ⟨at_ + 1 + i + 7, by rw [if_pos h]; omega⟩
      · exact ⟨at_ + 1 + i, by rw [if_neg h]; omega⟩
    refine ⟨_, rfl, _, rfl, _, _, rfl, rfl, _, rfl, _, _, rfl, rfl, _, rfl, _, _, rfl, rfl, .inr ⟨_, rfl, _, _, rfl, rfl, .inl ⟨by decide, by decide⟩, _, _, rfl, rfl, sc, ns, jn, by rw [← ej] <;> rfl, R5.same.seq hSc, fun z0 => ⟨show 5 ≤ sizeLine by decide, fun l2 hl2 => ?_⟩⟩⟩
    refine ⟨l2, 20, _, rfl, rfl, upd_same, by decide, by decide, by decide, fun l4 hl4 => ?_⟩
    refine ⟨z0, l4, (List.replicate 20 ([13, 6, 8, 6, 12] : List Int)).flatten, rfl, SqL.of upd_same, by decide, by decide, fun row aRow H6 dg2 np s6 hrow => ?_⟩
    have s56 : Same H5 H6 := ((same_new hl2).trans (same_new hl4)).trans s6
    have R6 := R5.mono s56
    have kp6 : ∀ b o, b ≠ a → H4 b = some o → H6 b = some o := fun b o nb e => s56 _ _ (kp b o nb e)
    have aRn : aRow ≠ a := fun z => by
      rw [z] at np
      have e := (((same_new hl2).trans (same_new hl4)) _ _ R5.at_).symm.trans np
      cases e
    have hD6 := kp6 _ _ aDn hD4
    have hG6 := kp6 _ _ aGn hG4
    have hT6 := kp6 _ _ aTn hT
    have lG6 : (SL.map V.str).length = SL.length := List.length_map ..
    have lT6 : ((nil0 :: ss).map V.str).length = ss.length + 1 := by rw [List.length_map] <;> rfl
    refine ⟨_, rfl, aG, _, rfl, .inl (SqL.of hG6), _, rfl, by omega, by omega, for_range (lo := 0) (n := (((SL.map V.str).length : Nat) : Int).toNat) (fun u σ H' => (∀ b o, b ≠ a → H6 b = some o → H' b = some o) ∧ Rs [nil0, x, y, z] (rkOf fAll SL (nil0 :: ss)) H0 H' a l n (100 + 20 * i + 4 * u) ∧ ∃ v11 v12 v13 v14 : Option V, σ = [some (.ref sc), some (.int (at_ : Int)), some (.ref aD), some (.str l), some (.ref aS), some (.int n), some (.ref a), some (.ref aG), some (.ref aT), some (.int (0 + (i : Int))), some (.ref aRow), v11, v12, v13, v14, e15, e16, e17, e18, e19])
      ⟨fun b o _ e => e, Rs.le ⟨_, R6⟩ (by omega), _, _, _, _, rfl⟩ ?_ ?_⟩
    rotate_left
    · rintro σ H' ⟨kp', R, v11, v12, v13, v14, rfl⟩
      exact ⟨fun b o nb e => kp' b o nb (kp6 b o nb e), R.le (by omega), _, _, _, _, _, _, rfl⟩
    rintro u σ H7 hu ⟨kp7, R7, v11, v12, v13, v14, rfl⟩
    have hT7 := kp7 _ _ aTn hT6
    refine ⟨_, rfl, aT, _, rfl, .inl (SqL.of hT7), _, rfl, by omega, by omega, for_range (lo := 0) (n := ((((nil0 :: ss).map V.str).length : Nat) : Int).toNat) (fun j σ H' => (∀ b o, b ≠ a → H6 b = some o → H' b = some o) ∧ Rs [nil0, x, y, z] (rkOf fAll SL (nil0 :: ss)) H0 H' a l n (100 + 20 * i + 4 * u + j) ∧ ∃ v12 v13 v14 : Option V, σ = [some (.ref sc), some (.int (at_ : Int)), some (.ref aD), some (.str l), some (.ref aS), some (.int n), some (.ref a), some (.ref aG), some (.ref aT), some (.int (0 + (i : Int))), some (.ref aRow), some (.int (0 + (u : Int))), v12, v13, v14, e15, e16, e17, e18, e19])
      ⟨kp7, R7.le (by omega), _, _, _, rfl⟩ ?_ ?_⟩
    rotate_left
    · rintro σ H' ⟨kp', R, v12, v13, v14, rfl⟩
      exact ⟨kp', R.le (by omega), _, _, _, _, rfl⟩
    rintro j σ H8 hj ⟨kp8, ⟨B8, R8⟩, v12, v13, v14, rfl⟩
    have u5 : u < 5 := by omega
    have j4 : j < 4 := by omega
    have hRow8 := kp8 _ _ aRn hrow
    have hT8 := kp8 _ _ aTn hT6
    have hG8 := kp8 _ _ aGn hG6
    have sizes : ∀ q, q < 20 → ∀ t, t < 5 → (List.replicate 20 ([13, 6, 8, 6, 12] : List Int)).flatten[5 * q + t]? = ([13, 6, 8, 6, 12] : List Int)[t]? := by decide +kernel
    have lenR : row.length = 100 := dg2.1
    have digR : ∀ (t : Nat) (b : Int), t < 5 → ([13, 6, 8, 6, 12] : List Int)[t]? = some b → ∃ d : Nat, row[5 * (4 * u + j) + t]? = some (d : Int) ∧ (d : Int) < b := fun t b lt e => by
      obtain ⟨d, e1, e2, e3⟩ := dg2.2 (5 * (4 * u + j) + t) b (by rw [sizes (4 * u + j) (by omega) t lt]; exact e)
      exact ⟨d.toNat, by rw [e1, Int.toNat_of_nonneg e2], by rw [Int.toNat_of_nonneg e2]; exact e3⟩
    obtain ⟨p0, ep0, bp0⟩ := digR 0 13 (by decide) rfl
    obtain ⟨p1, ep1, bp1⟩ := digR 1 6 (by decide) rfl
    obtain ⟨p2, ep2, bp2⟩ := digR 2 8 (by decide) rfl
    obtain ⟨p3, ep3, bp3⟩ := digR 3 6 (by decide) rfl
    obtain ⟨p4, ep4, bp4⟩ := digR 4 12 (by decide) rfl
    refine ⟨_, rfl, _, rfl, _, _, rfl, rfl, .inl ⟨by decide, by decide⟩, _, rfl, _, _, rfl, rfl, _, _, rfl, rfl, .inl ⟨by decide, by decide⟩, _, rfl, _, rfl, _, _, rfl, rfl, .inl ⟨by decide, by decide⟩, _, rfl, _, _, rfl, rfl, _, _, rfl, rfl, .inl ⟨by decide, by decide⟩, _, _, rfl, rfl, _, rfl, aRow, _, rfl, SqL.of hRow8, fun q nq => ?_⟩
    have cutE : cutV (row.map V.int) (some (5 * (4 * (0 + (u : Int)) + (0 + (j : Int))))) (some (5 * (4 * (0 + (u : Int)) + (0 + (j : Int))) + 5)) = ((row.drop (5 * (4 * u + j))).take 5).map V.int := by
      have c := cut_in (row := row) (a := 5 * (4 * u + j)) (b := 5 * (4 * u + j) + 5) (by omega) (by omega)
      rw [show 5 * (4 * u + j) + 5 - 5 * (4 * u + j) = 5 by omega] at c
      rw [show (5 : Int) * (4 * (0 + (u : Int)) + (0 + (j : Int))) + 5 = ((5 * (4 * u + j) + 5 : Nat) : Int) by omega, show (5 : Int) * (4 * (0 + (u : Int)) + (0 + (j : Int))) = ((5 * (4 * u + j) : Nat) : Int) by omega]
      exact c
    rw [cutE]
    have partAt : ∀ {t d : Nat}, t < 5 → row[5 * (4 * u + j) + t]? = some (d : Int) → ((row.drop (5 * (4 * u + j))).take 5)[t]? = some (d : Int) := fun {t d} lt e => by
      rw [List.getElem?_take_of_lt lt, List.getElem?_drop]
      exact e
    have ar : ActRow ((row.drop (5 * (4 * u + j))).take 5) p0 p1 p2 p3 p4 := ⟨partAt (by decide) ep0, partAt (by decide) ep1, partAt (by decide) ep2, partAt (by decide) ep3, partAt (by decide) ep4, by omega, by omega, by omega⟩
    generalize (row.drop (5 * (4 * u + j))).take 5 = part at ar ⊢
    have tq := same_new (o := HO.lst (part.map V.int)) nq
    obtain ⟨sg, esg⟩ : ∃ x, SL[u]? = some x := ⟨_, List.getElem?_eq_getElem (show u < SL.length by omega)⟩
    have osg := okSL sg (List.mem_of_getElem? esg)
    obtain ⟨tp, etp⟩ : ∃ x, (nil0 :: ss)[j]? = some x := ⟨_, List.getElem?_eq_getElem (show j < (nil0 :: ss).length by rw [List.length_cons]; omega)⟩
    have oT : tp ∈ [nil0, x, y, z] := by
      rcases List.mem_cons.mp (List.mem_of_getElem? etp) with e | m
      · rw [e]; simp
      · exact oldss tp m
    have otp : Top tp := by
      rcases List.mem_cons.mp (List.mem_of_getElem? etp) with e | m
      · exact .inr e
      · exact .inl (okss tp m)
    have atG : atI (SL.map V.str) (0 + (u : Int)) = some (.str sg) := by
      rw [show (0 : Int) + (u : Int) = ((u : Nat) : Int) by omega]
      exact atI_nat (by rw [List.getElem?_map, esg] <;> rfl)
    have atT : atI ((nil0 :: ss).map V.str) (0 + (j : Int)) = some (.str tp) := by
      rw [show (0 : Int) + (j : Int) = ((j : Nat) : Int) by omega]
      exact atI_nat (by rw [List.getElem?_map, etp] <;> rfl)
    refine ⟨_, rfl, _, rfl, _, rfl, 1, rfl, aT, _, rfl, SqL.of (tq _ _ hT8), fun r nr => ?_⟩
    have cutT : cutV ((nil0 :: ss).map V.str) (some 1) none = ss.map V.str := by
      have z : cutV ((nil0 :: ss).map V.str) (some ((1 : Nat) : Int)) none = ((nil0 :: ss).map V.str).drop 1 := by
        unfold cutV
        rw [HT.sIx_none, HT.sIx_nat, Nat.min_eq_left (by rw [lT6]; omega)]
        exact List.take_of_length_le (by rw [List.length_drop]; exact Nat.le_refl _)
      exact z
    rw [cutT]
    have tr := tq.trans (same_new (o := HO.lst (ss.map V.str)) nr)
    refine ⟨_, rfl, _, rfl, aG, _, _, .str sg, rfl, rfl, SqL.of (tr _ _ hG8), atG, _, rfl, _, rfl, aT, _, _, .str tp, rfl, rfl, SqL.of (tr _ _ hT8), atT, ?_⟩
    refine ⟨q, r, part, p0, p1, p2, p3, p4, n, l, sg, tp, ss, rfl, SqL.of (same_new nr _ _ upd_same), ar, SqL.of upd_same, n1, ness, okss, osg, otp, ?_, fun t rr Ht stx eg ep okr ht => ?_⟩
    · dsimp only [gName]
      refine ⟨fun σ' H' => ∃ v' : V, σ' = [some (.ref sc), some (.int (at_ : Int)), some (.ref aD), some (.str l), some (.ref aS), some (.int n), some (.ref a), some (.ref aG), some (.ref aT), some (.int (0 + (i : Int))), some (.ref aRow), some (.int (0 + (u : Int))), some (.int (0 + (j : Int))), some (.ref q), some v', e15, e16, e17, e18, e19] ∧ Same H8 H' ∧ (v' = .non ∨ ∃ (t : Addr) (rr : Rl), v' = .ref t ∧ rr.sg = sg ∧ rr.tp = tp ∧ RlOk l n rr ∧ H' t = some (.tup (rr.a5.map kV))), ?_, ?_⟩
      · refine ⟨_, rfl, _, rfl, _, _, rfl, rfl, _, rfl, _, _, rfl, rfl, rfl, _, rfl, ite2 (fun e => ?_) (fun _ => ⟨.non, rfl, tr, .inl rfl⟩)⟩
        have e0 := V.int.inj (of_decide_eq_true e)
        have u0 : u = 0 := by omega
        have sl : sg = lt0 := by
          rw [u0, atSL] at esg
          exact (Option.some.inj esg).symm
        refine ⟨_, rfl, _, _, rfl, rfl, show 5 ≤ sizeLine by decide, fun t2 nt2 => ?_⟩
        exact ⟨.ref t2, rfl, (tr).trans (same_new nt2), .inr ⟨t2, ⟨0, sg, tp, n - 1, 1, keep0, nil0, nil0⟩, rfl, rfl, rfl, mkRl (by omega) osg otp (by omega) (mvR (by rw [sl]; exact lt_gt)) (keepD _) said0, upd_same⟩⟩
      rintro _ Hy ⟨v', rfl, sy, hv⟩
      rcases hv with rfl | ⟨t, rr, rfl, eg, ep, okr, ht⟩
      · exact ⟨_, rfl, _, rfl, iteNo17 (by rw [decide_eq_true rfl] <;> rfl) ⟨fun b o nb e => sy _ _ (kp8 b o nb e), Rs.le ⟨_, R8.mono sy⟩ (by omega), _, _, _, rfl⟩⟩
      · have RT := R8.mono sy
        refine ⟨_, rfl, _, rfl, ite2 (fun _ => ?_) (fun c => absurd (by rw [decide_eq_false (fun z => nomatch z)] <;> rfl) c)⟩
        refine ⟨_, rfl, .inl ⟨rfl, _, SqL.of RT.at_⟩, _, rfl, _, rfl, _, rfl, aG, _, _, .str sg, rfl, rfl, SqL.of (sy _ _ hG8), atG, _, rfl, _, rfl, aT, _, _, .str tp, rfl, rfl, SqL.of (sy _ _ hT8), atT, show 3 ≤ sizeLine by decide, fun kq nk => ?_⟩
        have RT' := RT.mono (same_new (o := HO.tup [V.int (0 + (i : Int)), V.str sg, V.str tp]) nk)
        refine ⟨_, rfl, kq, t, [.int (0 + (i : Int)), .str sg, .str tp], _, rfl, rfl, .inl (.inl upd_same), .inl (.inl (same_new nk _ _ ht)), (fun z => nomatch z), show 3 + 5 ≤ sizeLine by decide, (fun z => nomatch z), fun _ w2 nw => ⟨a, _, _, rfl, rfl, RT'.look nw, RT'.sz (by omega), ?_⟩⟩
        have RA := RT'.add na nw (r := ⟨0 + (i : Int), sg, tp, rr.af, rr.mv, rr.de, rr.sy, rr.sa⟩) (mkRl (by omega) osg otp okr.af (by rw [← eg]; exact okr.mv) (by rw [← ep]; exact okr.de) okr.sa) (rk_at ndSL ndT esg etp (show 100 + 20 * (0 + (i : Int)).toNat + 4 * u + j = 100 + 20 * i + 4 * u + j by omega)) oT
        exact ⟨fun b o nb e => by rw [upd_ne nb]; exact same_new nw _ _ (same_new nk _ _ (sy _ _ (kp8 b o nb e))), Rs.le ⟨_, RA⟩ (by omega), _, _, _, rfl⟩
    · dsimp only [gName]
      refine ⟨fun σ' H' => ∃ v' : V, σ' = [some (.ref sc), some (.int (at_ : Int)), some (.ref aD), some (.str l), some (.ref aS), some (.int n), some (.ref a), some (.ref aG), some (.ref aT), some (.int (0 + (i : Int))), some (.ref aRow), some (.int (0 + (u : Int))), some (.int (0 + (j : Int))), some (.ref q), some v', e15, e16, e17, e18, e19] ∧ Same H8 H' ∧ (v' = .non ∨ ∃ (t : Addr) (rr : Rl), v' = .ref t ∧ rr.sg = sg ∧ rr.tp = tp ∧ RlOk l n rr ∧ H' t = some (.tup (rr.a5.map kV))), ?_, ?_⟩
      · refine ⟨_, rfl, _, rfl, _, _, rfl, rfl, _, rfl, _, _, rfl, rfl, rfl, _, rfl, ite2 (fun e => ?_) (fun _ => ⟨.ref t, rfl, tr.trans stx, .inr ⟨t, rr, rfl, eg, ep, okr, ht⟩⟩)⟩
        have e0 := V.int.inj (of_decide_eq_true e)
        have u0 : u = 0 := by omega
        have sl : sg = lt0 := by
          rw [u0, atSL] at esg
          exact (Option.some.inj esg).symm
        refine ⟨_, rfl, _, _, rfl, rfl, show 5 ≤ sizeLine by decide, fun t2 nt2 => ?_⟩
        exact ⟨.ref t2, rfl, (tr.trans stx).trans (same_new nt2), .inr ⟨t2, ⟨0, sg, tp, n - 1, 1, keep0, nil0, nil0⟩, rfl, rfl, rfl, mkRl (by omega) osg otp (by omega) (mvR (by rw [sl]; exact lt_gt)) (keepD _) said0, upd_same⟩⟩
      rintro _ Hy ⟨v', rfl, sy, hv⟩
      rcases hv with rfl | ⟨t, rr, rfl, eg, ep, okr, ht⟩
      · exact ⟨_, rfl, _, rfl, iteNo17 (by rw [decide_eq_true rfl] <;> rfl) ⟨fun b o nb e => sy _ _ (kp8 b o nb e), Rs.le ⟨_, R8.mono sy⟩ (by omega), _, _, _, rfl⟩⟩
      · have RT := R8.mono sy
        refine ⟨_, rfl, _, rfl, ite2 (fun _ => ?_) (fun c => absurd (by rw [decide_eq_false (fun z => nomatch z)] <;> rfl) c)⟩
        refine ⟨_, rfl, .inl ⟨rfl, _, SqL.of RT.at_⟩, _, rfl, _, rfl, _, rfl, aG, _, _, .str sg, rfl, rfl, SqL.of (sy _ _ hG8), atG, _, rfl, _, rfl, aT, _, _, .str tp, rfl, rfl, SqL.of (sy _ _ hT8), atT, show 3 ≤ sizeLine by decide, fun kq nk => ?_⟩
        have RT' := RT.mono (same_new (o := HO.tup [V.int (0 + (i : Int)), V.str sg, V.str tp]) nk)
        refine ⟨_, rfl, kq, t, [.int (0 + (i : Int)), .str sg, .str tp], _, rfl, rfl, .inl (.inl upd_same), .inl (.inl (same_new nk _ _ ht)), (fun z => nomatch z), show 3 + 5 ≤ sizeLine by decide, (fun z => nomatch z), fun _ w2 nw => ⟨a, _, _, rfl, rfl, RT'.look nw, RT'.sz (by omega), ?_⟩⟩
        have RA := RT'.add na nw (r := ⟨0 + (i : Int), sg, tp, rr.af, rr.mv, rr.de, rr.sy, rr.sa⟩) (mkRl (by omega) osg otp okr.af (by rw [← eg]; exact okr.mv) (by rw [← ep]; exact okr.de) okr.sa) (rk_at ndSL ndT esg etp (show 100 + 20 * (0 + (i : Int)).toNat + 4 * u + j = 100 + 20 * i + 4 * u + j by omega)) oT
        exact ⟨fun b o nb e => by rw [upd_ne nb]; exact same_new nw _ _ (same_new nk _ _ (sy _ _ (kp8 b o nb e))), Rs.le ⟨_, RA⟩ (by omega), _, _, _, rfl⟩
  · rintro σ H' ⟨kp, R, v9, v10, v11, v12, v13, v14, rfl⟩
    exact ⟨kp, (R.le (by omega)).any, _, _, _, _, _, _, rfl⟩
end
end Mk

set_option Elab.async false
set_option linter.unusedVariables false
set_option maxRecDepth 100000
set_option maxHeartbeats 16000000
namespace Mk
open PySem L2 Pk
theorem menu_st {d : Nat} (h : d < 8) : ∃ n : Int, atI [V.int 4, V.int 2, V.int 3, V.int 3, V.int 1, V.int 4, V.int 5, V.int 2] (d : Int) = some (.int n) ∧ 1 ≤ n ∧ n ≤ 5 := by
  have c : d = 0 ∨ d = 1 ∨ d = 2 ∨ d = 3 ∨ d = 4 ∨ d = 5 ∨ d = 6 ∨ d = 7 := by omega
  rcases c with rfl | rfl | rfl | rfl | rfl | rfl | rfl | rfl
  · exact ⟨4, rfl, by omega, by omega⟩
  · exact ⟨2, rfl, by omega, by omega⟩
  · exact ⟨3, rfl, by omega, by omega⟩
  · exact ⟨3, rfl, by omega, by omega⟩
  · exact ⟨1, rfl, by omega, by omega⟩
  · exact ⟨4, rfl, by omega, by omega⟩
  · exact ⟨5, rfl, by omega, by omega⟩
  · exact ⟨2, rfl, by omega, by omega⟩
section
variable {P : Program} {w : World} {K : PySem.W.Frag} {mg : PySem.Str → Option Value} {base : Heap}
def spMach (K : PySem.W.Frag) : Sp := fun vs H Q _ => ∃ (sc : Addr) (ns : List Int) (at_ : Nat), vs = [.ref sc, .int (at_ : Int)] ∧ SqL K H sc (ns.map V.int) ∧ ∀ (p : Addr) (H' : Hp), MachD H p H' → Q (.ref p) H'
theorem ok_machine {f : Addr} {fd : FuncData} (F : Fun K "_law_machine" "_law_machine" sMachine f fd) (T : TM mg) (G : GenDefs P w K mg base) : FnOk P w K mg base CX0 2 f fd ["script", "at"] (spMach K) := by
  refine F.ok scMachine (fun vs H Q E h => ?_) (fun cdv A outer s H vs Q E hr h => ?_)
  · obtain ⟨sc, ns, at_, rfl, _⟩ := h
    rfl
  · obtain ⟨sc, ns, at_, rfl, hSc, k⟩ := h
    have nd := scMachine.nd
    have h1 := hr
    obtain ⟨tX, hX, kX⟩ := mach_X (f := f) T G cdv A outer s H E hr
    refine ⟨_, pss_cons (ps_set (i := 2) nd rfl (Or.inr rfl) (pe_got G.digits h1 (by rfl) (pa_cons (pe_got G.cell h1 (by rfl) (pa_cons (pv 0) (pa_cons (pv 1) pa_nil))) (pa_cons (pe_op op_cat (pe_op op_cat (pe_lst (pa_cons pe_int (pa_cons pe_int (pa_cons pe_int (pa_cons pe_int (pa_cons pe_int (pa_cons pe_int (pa_cons pe_int (pa_cons pe_int (pa_cons pe_int (pa_cons pe_int pa_nil))))))))))) (pe_op op_rep (pe_lst (pa_cons pe_int (pa_cons pe_int (pa_cons pe_int (pa_cons pe_int (pa_cons pe_int (pa_cons pe_int pa_nil))))))) pe_int)) (pe_op op_rep (pe_lst (pa_cons pe_int pa_nil)) pe_int)) pa_nil))))
      (pss_cons (ps_set (i := 3) nd rfl (Or.inl rfl) (pe_got G.alpha h1 (by rfl) (pa_cons (pe_slice sl_list (pv 2) (po_some pe_int) (po_some pe_int)) pa_nil)))
      (pss_cons (ps_set (i := 4) nd rfl (Or.inl rfl) (pe_got G.syms h1 (by rfl) (pa_cons (pe_ix ix_list (pv 2) pe_int fun _ _ => rfl) pa_nil)))
      (pss_cons (ps_set (i := 5) nd rfl (Or.inl rfl) (pe_ix ix_list (pe_lst (pa_cons pe_int (pa_cons pe_int (pa_cons pe_int (pa_cons pe_int (pa_cons pe_int (pa_cons pe_int (pa_cons pe_int (pa_cons pe_int pa_nil))))))))) (pe_ix ix_list (pv 2) pe_int fun _ _ => rfl) fun _ _ => rfl))
      (pss_cons (ps_set (i := 6) nd rfl (Or.inl rfl) (pe_lst pa_nil))
      (C8.pss_cut (ps_if (pt_cmpR op_ge (pe_ix ix_list (pv 2) pe_int fun _ _ => rfl) pe_int (nomark _))
        (pss_cons (ps_set (i := 5) nd rfl (Or.inl rfl) pe_int)
        (pss_one (ps_if (pt_cmpR op_lt (pe_ix ix_list (pv 2) pe_int fun _ _ => rfl) pe_int (nomark _))
          (pss_one (ps_set (i := 6) nd rfl (Or.inl rfl) (pe_got G.caller h1 (by rfl) (pa_cons (pv 3) (pa_cons (pe_ix ix_list (pv 4) pe_int fun _ _ => rfl) (pa_cons (pe_ix ix_list (pv 4) pe_int fun _ _ => rfl) (pa_cons (pe_slice sl_list (pv 2) (po_some pe_int) po_none) pa_nil)))))))
          (pss_one (ps_if (pt_cmpR op_lt (pe_ix ix_list (pv 2) pe_int fun _ _ => rfl) pe_int (nomark _))
            (pss_cons (ps_set (i := 5) nd rfl (Or.inl rfl) pe_int)
            (pss_one (ps_set (i := 6) nd rfl (Or.inl rfl) (pe_got G.restorer h1 (by rfl) (pa_cons (pv 3) (pa_cons (pe_ix ix_list (pv 4) pe_int fun _ _ => rfl) (pa_cons (pe_ix ix_list (pv 4) pe_int fun _ _ => rfl) pa_nil)))))))
            (pss_one (ps_if (pt_cmpR op_lt (pe_ix ix_list (pv 2) pe_int fun _ _ => rfl) pe_int (nomark _))
              (pss_one (ps_set (i := 6) nd rfl (Or.inl rfl) (pe_got G.scanner h1 (by rfl) (pa_cons (pv 3) (pa_cons (pe_ix ix_list (pv 4) pe_int fun _ _ => rfl) (pa_cons (pe_ix ix_list (pv 4) pe_int fun _ _ => rfl) pa_nil))))))
              (pss_one (ps_set (i := 6) nd rfl (Or.inl rfl) (pe_got G.climber h1 (by rfl) (pa_cons (pv 3) (pa_cons (pe_ix ix_list (pv 4) pe_int fun _ _ => rfl) (pa_cons (pe_ix ix_list (pv 4) pe_int fun _ _ => rfl) pa_nil)))))))))))))
        pss_nil)
      hX))))), ?_⟩
    have le : ∀ {a b : Nat}, b = 100 → a ≤ b → a ≤ sizeLine := fun e h => Nat.le_trans h (by rw [e]; decide)
    refine ⟨_, rfl, _, rfl, sc, ns, at_, rfl, hSc, fun z0 => ⟨show 10 ≤ sizeLine by decide, fun q1 m1 => ⟨show 6 ≤ sizeLine by decide, fun q2 m2 => ⟨q2, 3, _, rfl, rfl, upd_same, by decide, by decide, by decide, fun q3 m3 => ?_⟩⟩⟩⟩
    refine ⟨q1, q3, _, _, rfl, rfl, same_new m3 _ _ (same_new m2 _ _ upd_same), upd_same, show 28 ≤ sizeLine by decide, fun q4 m4 => ⟨show 1 ≤ sizeLine by decide, fun q5 m5 => ⟨q5, 9, _, rfl, rfl, upd_same, by decide, by decide, by decide, fun q6 m6 => ?_⟩⟩⟩
    refine ⟨q4, q6, _, _, rfl, rfl, same_new m6 _ _ (same_new m5 _ _ upd_same), upd_same, show 37 ≤ sizeLine by decide, fun q7 m7 => ?_⟩
    refine ⟨z0, q7, headSizes, rfl, SqL.of upd_same, by decide, by decide, fun head aD H1 dg np s1 hhead => ?_⟩
    have sA : Same H H1 := (((((((same_new m1).trans (same_new m2)).trans (same_new m3)).trans (same_new m4)).trans (same_new m5)).trans (same_new m6)).trans (same_new m7)).trans s1
    clear s1 np m1 m2 m3 m4 m5 m6 m7
    have rowAt : ∀ {j : Nat} {d : Nat}, head[j]? = some (d : Int) → atI (head.map V.int) (j : Int) = some (V.int d) := fun {j d} e => atI_nat (by rw [List.getElem?_map, e]; rfl)
    have dig : ∀ (j : Nat) (t : Int), headSizes[j]? = some t → ∃ d : Nat, head[j]? = some (d : Int) ∧ (d : Int) < t := fun j t e => by
      obtain ⟨d, e1, e2, e3⟩ := dg.2 j t e
      exact ⟨d.toNat, by rw [e1, Int.toNat_of_nonneg e2], by rw [Int.toNat_of_nonneg e2]; exact e3⟩
    have lenH : head.length = 37 := dg.1
    obtain ⟨d0, e0, b0⟩ := dig 0 12 rfl
    obtain ⟨d1, e1, b1⟩ := dig 1 8 rfl
    obtain ⟨d2, e2, b2⟩ := dig 2 12 rfl
    obtain ⟨d3, e3, b3⟩ := dig 3 13 rfl
    obtain ⟨d4, e4, b4⟩ := dig 4 6 rfl
    obtain ⟨d5, e5, b5⟩ := dig 5 8 rfl
    -- the alphabet
    refine ⟨_, rfl, 1, rfl, 4, rfl, aD, _, rfl, SqL.of hhead, fun q nq => ?_⟩
    have cutA : cutV (head.map V.int) (some 1) (some 4) = ((head.drop 1).take 3).map V.int := cut_in (row := head) (a := 1) (b := 4) (by omega) (by omega)
    rw [cutA]
    have tq := same_new (o := HO.lst (((head.drop 1).take 3).map V.int)) nq
    refine ⟨q, (head.drop 1).take 3, d1, d2, d3, rfl, SqL.of upd_same, ?_, ?_, ?_, by omega, by omega, fun l al l3 _ => ?_⟩
    · rw [List.getElem?_take_of_lt (by decide), List.getElem?_drop]; exact e1
    · rw [List.getElem?_take_of_lt (by decide), List.getElem?_drop]; exact e2
    · rw [List.getElem?_take_of_lt (by decide), List.getElem?_drop]; exact e3
    -- the symbols
    refine ⟨_, rfl, aD, _, _, _, rfl, rfl, SqL.of (tq _ _ hhead), rowAt (j := 4) e4, d4, rfl, by omega, fun aS x y z H2 s2 ox oy oz w3 hS => ?_⟩
    have s12 := tq.trans s2
    -- the states
    obtain ⟨n, en, n1, n5⟩ := menu_st (d := d5) (by omega)
    refine ⟨show 8 ≤ sizeLine by decide, fun q3 nq3 => ?_⟩
    have t3 := same_new (o := HO.lst [V.int 4, V.int 2, V.int 3, V.int 3, V.int 1, V.int 4, V.int 5, V.int 2]) nq3
    refine ⟨_, rfl, aD, _, _, _, rfl, rfl, SqL.of (t3 _ _ (s12 _ _ hhead)), rowAt (j := 5) e5, q3, _, _, .int n, rfl, rfl, SqL.of upd_same, en, ?_⟩
    have s13 := s12.trans t3
    have hS3 := t3 _ _ hS
    have hD3 := s13 _ _ hhead
    have sB := sA.trans s13
    dsimp only [gName]
    show (tSeq _ _) _ _ (upd H2 q3 (.lst [V.int 4, V.int 2, V.int 3, V.int 3, V.int 1, V.int 4, V.int 5, V.int 2]))
    generalize upd H2 q3 (.lst [V.int 4, V.int 2, V.int 3, V.int 3, V.int 1, V.int 4, V.int 5, V.int 2]) = H3 at hS3 hD3 sB ⊢
    clear t3 s13 s12 tq nq nq3 en cutA
    -- the rules
    refine ⟨Nat.zero_le _, fun a na => ?_⟩
    have ta := same_new (o := HO.lst []) na
    have hS4 := ta _ _ hS3
    have hD4 := ta _ _ hD3
    have R0 : Ru [nil0, x, y, z] H3 (upd H3 a (.lst [])) a l n 100 := ⟨[], (RsAt.nil (ρ := fun _ => 0) ta upd_same).any⟩
    have hA4 : (upd H3 a (.lst [])) a = some (.lst []) := upd_same
    have s4 := sB.trans ta
    dsimp only [gName]
    show (C8.tCut _ _) _ _ (upd H3 a (.lst []))
    generalize upd H3 a (.lst []) = H4 at hS4 hD4 R0 s4 hA4 ⊢
    refine ⟨fun σ' H' => ∃ (n : Int) (a : Addr), σ' = [some (.ref sc), some (.int (at_ : Int)), some (.ref aD), some (.str l), some (.ref aS), some (.int n), some (.ref a), none, none, none, none, none, none, none, none, none, none, none, none, none] ∧ 1 ≤ n ∧ n ≤ 5 ∧ H' aD = some (.lst (head.map V.int)) ∧ H' aS = some (.lst [.str x, .str y, .str z]) ∧ H a = none ∧ Ru [nil0, x, y, z] H H' a l n 100 ∧ (∀ d : Nat, head[0]? = some (d : Int) → d < 2 → H' a = some (.lst [])), ?_, ?_⟩
    rotate_left
    · rintro _ H' ⟨n, a, rfl, n1, n5, hD', hS', na', R, hE⟩
      exact kX _ H k H' sc aD aS a ns head at_ l x y z n _ _ _ _ _ _ _ _ _ _ _ _ _ hSc hD' dg hS' ox oy oz w3 al l3 n1 n5 na' R hE
    have other : ¬ (d0 : Int) < 2 → ∀ {n : Int} {H0 H' : Hp} {p : Addr}, Same H4 H0 → H0 p = none → Ru [nil0, x, y, z] H0 H' p l n 100 → H' aD = some (.lst (head.map V.int)) ∧ H' aS = some (.lst [.str x, .str y, .str z]) ∧ H p = none ∧ Ru [nil0, x, y, z] H H' p l n 100 ∧ (∀ d : Nat, head[0]? = some (d : Int) → d < 2 → H' p = some (.lst [])) := fun c2 {_ _ _ _} s np R =>
      ⟨R.same _ _ (s _ _ hD4), R.same _ _ (s _ _ hS4), (s4.trans s).free np, R.base (s4.trans s), fun d ed ld => by
        rw [e0] at ed
        have := Option.some.inj ed
        omega⟩
    refine ⟨_, rfl, aD, _, _, _, rfl, rfl, SqL.of hD4, rowAt (j := 0) e0, _, _, rfl, rfl, _, rfl, ite2 (fun c2 => ?_) (fun _ => ⟨n, a, rfl, n1, n5, hD4, hS4, sB.free na, R0.base sB, fun _ _ _ => hA4⟩)⟩
    have c2' : ¬ (d0 : Int) < 2 := by
      have z : (d0 : Int) ≥ 2 := of_decide_eq_true c2
      omega
    refine ⟨_, rfl, aD, _, _, _, rfl, rfl, SqL.of hD4, rowAt (j := 0) e0, _, _, rfl, rfl, _, rfl, ite2 (fun _ => ?_) (fun _ => ?_)⟩
    · refine ⟨_, rfl, _, rfl, aS, _, 0, .str x, rfl, rfl, SqL.of hS4, rfl, _, rfl, aS, _, 1, .str y, rfl, rfl, SqL.of hS4, rfl, _, rfl, 28, rfl, aD, _, rfl, SqL.of hD4, fun q nq => ?_⟩
      have cutM : cutV (head.map V.int) (some 28) none = (head.drop 28).map V.int := cut_from (row := head) (a := 28) (by omega)
      rw [cutM]
      have tq := same_new (o := HO.lst ((head.drop 28).map V.int)) nq
      exact ⟨[nil0, x, y, z], l, x, y, q, head.drop 28, rfl, al, l3, ox, oy, w3.1, by simp, by simp, by simp, SqL.of upd_same, by rw [List.length_drop]; omega, fun p H' np R => ⟨4, p, rfl, by decide, by decide, other c2' tq np R⟩⟩
    refine ⟨_, rfl, aD, _, _, _, rfl, rfl, SqL.of hD4, rowAt (j := 0) e0, _, _, rfl, rfl, _, rfl, ite2 (fun _ => ?_) (fun _ => ?_)⟩
    · exact ⟨_, rfl, _, rfl, aS, _, 0, .str x, rfl, rfl, SqL.of hS4, rfl, _, rfl, aS, _, 1, .str y, rfl, rfl, SqL.of hS4, rfl, [nil0, x, y, z], l, x, y, rfl, al, l3, ox, oy, w3.1, by simp, by simp, by simp, fun p H' np R => ⟨5, p, rfl, by decide, by decide, other c2' (Same.refl _) np R⟩⟩
    refine ⟨_, rfl, aD, _, _, _, rfl, rfl, SqL.of hD4, rowAt (j := 0) e0, _, _, rfl, rfl, _, rfl, ite2 (fun _ => ?_) (fun _ => ?_)⟩
    · exact ⟨_, rfl, _, rfl, aS, _, 0, .str x, rfl, rfl, SqL.of hS4, rfl, _, rfl, aS, _, 1, .str y, rfl, rfl, SqL.of hS4, rfl, [nil0, x, y, z], l, x, y, rfl, al, l3, ox, oy, w3.1, by simp, by simp, by simp, fun p H' np R => ⟨4, p, rfl, by decide, by decide, other c2' (Same.refl _) np R⟩⟩
    · exact ⟨_, rfl, _, rfl, aS, _, 0, .str x, rfl, rfl, SqL.of hS4, rfl, _, rfl, aS, _, 1, .str y, rfl, rfl, SqL.of hS4, rfl, [nil0, x, y, z], l, x, y, rfl, al, l3, ox, oy, w3.1, by simp, by simp, by simp, fun p H' np R => ⟨4, p, rfl, by decide, by decide, other c2' (Same.refl _) np R⟩⟩
end
end Mk

set_option Elab.async false
set_option linter.all false
set_option maxRecDepth 100000
set_option maxHeartbeats 4000000
/-! text.replace(base, letters[k]) within a comprehension, base a captured name of the def: its token is carried -/
namespace Lt
open PySem PySem.Spec PyProof.Rows L2
/-- the cell c holds the text y, its token below those to come -/
def CT (c : Addr) (y : Str) (t : Tok) (s : Shared) : Prop := s.heap.IsCell c (some (.str y t)) ∧ t < s.toks
def PEn (n : Nat) (X : Cx) (e : Expr) (t : TE) : Prop :=
  ∀ (pins : List (Addr × Obj)) (s : Shared) (σ : L2.St) (H : Hp) (Q : VK), n ≤ s.toks → Inv X pins σ H s → t σ H Q → wpAny (model X.prog X.w) X.A (eval e X.env) (EP X pins σ Q) X.xe s
def PAn (n : Nat) (X : Cx) (es : List Expr) (t : TA) : Prop :=
  ∀ (pos : Pos) (pins : List (Addr × Obj)) (s : Shared) (σ : L2.St) (H : Hp) (Q : List V → Hp → Prop), n ≤ s.toks → Inv X pins σ H s → t σ H Q → wpAny (model X.prog X.w) X.A (spliced (backTo pos (starEach es X.env))) (AP X pins σ Q) X.xe s
theorem PEn.of {n : Nat} {X : Cx} {e : Expr} {t : TE} (h : PE X e t) : PEn n X e t := fun pins s σ H Q _ I q => h.run pins s σ H Q I q
section
variable {X : Cx} {n : Nat}
/-- what is asked of a step, with the tokens behind it -/
theorem thnT {α : Type} {t : Sem α} {Q Q' : α → Shared → Prop} {M : Model} {A : Around} {E : Value → Shared → Prop} {s : Shared} (hn : n ≤ s.toks) (h : wpAny M A t Q E s) (hQ : ∀ a s', n ≤ s'.toks → Q a s' → Q' a s') : wpAny M A t Q' E s :=
  wpAny_mono (PySem.wpAny_toks_of hn h) (fun a s' q => hQ a s' q.1 q.2) fun _ _ z => z.2
theorem thnFT {α : Type} {t : Sem α} {Q Q' : α → Shared → Prop} {M : Model} {A : Around} {E : Value → Shared → Prop} {s : Shared} (hn : n ≤ s.toks) (h : wpAny M A t Q (fun _ _ => False) s) (hQ : ∀ a s', n ≤ s'.toks → Q a s' → Q' a s') : wpAny M A t Q' E s :=
  wpAny_mono (PySem.wpAny_toks_of hn h) (fun a s' q => hQ a s' q.1 q.2) fun _ _ z => z.2.elim
theorem pen_op {op : Operator} {r : R2} {a b : Expr} {ta tb : TE} {pos : Pos} (ho : OpR X (binaryOp op) r) (ha : PEn n X a ta) (hb : PEn n X b tb) : PEn n X (.BinOp a op b pos) (tOp r ta tb) := by
  intro pins s σ H Q hn I h
  refine wpAny_BinOp (thnT hn (ha pins s σ H _ hn I h) fun v s1 h1 ⟨x, H1, I1, r1, q1⟩ => ?_)
  refine thn (hb pins s1 σ H1 _ h1 I1 q1) fun u s2 ⟨y, H2, I2, r2, q2⟩ => ?_
  exact ho pins s2 σ H2 x y v u Q I2 r1 r2 q2
theorem pan_nil : PAn n X [] tNil := fun _ _ _ _ H Q _ I h => Calls.spliced_nil ⟨[], H, I, .nil, h⟩
theorem pan_cons {e : Expr} {es : List Expr} {te : TE} {ta : TA} (ha : PEn n X e te) (hr : PAn n X es ta) (hs : starEach (e :: es) X.env = (false, eval e X.env) :: starEach es X.env := by rfl) : PAn n X (e :: es) (tCons te ta) := by
  intro pos pins s σ H Q h0 I h
  rw [hs]
  show wpAny _ _ (spliced ((false, eval e X.env) :: backTo pos (starEach es X.env))) _ _ s
  refine Calls.spliced_cons (thnT h0 (ha pins s σ H _ h0 I h) fun v s1 hk ⟨x, H1, I1, r1, q1⟩ => ?_)
  exact thn (hr pos pins s1 σ H1 _ hk I1 q1) fun us s2 ⟨xs, H2, I2, r2, q2⟩ => ⟨x :: xs, H2, I2, .cons r1 r2, q2⟩
theorem pen_tup {es : List Expr} {ta : TA} {x1} {pos : Pos} (h : PAn n X es ta) : PEn n X (.Tuple es x1 pos) (tTup ta) := by
  intro pins s σ H Q hn I hq
  refine wpAny_Tuple_spliced (thn (h pos pins s σ H _ hn I hq) fun us s1 ⟨xs, H1, I1, r, z, q⟩ => ⟨by rw [← r.length]; exact z, ?_⟩)
  have hf : H1 s1.heap.objs.size = none := I1.hok.fresh (Nat.le_refl _)
  refine ⟨.ref s1.heap.objs.size, upd H1 s1.heap.objs.size (.tup xs), I1.laid (t' := s1.toks) (fun b u e => Heap.get?_push_of_some _ e) (Nat.le_refl _) ?_, rfl, q _ hf⟩
  exact ⟨z, us, r, ⟨_, Heap.get?_push_size _ rfl, rfl, _, rfl⟩⟩
/-- a block that keeps the cell -/
structure BaseIn (B : Cx) (bx : Str) (c : Addr) (y : Str) (t : Tok) : Prop where
  look : B.env.cells.lookup bx = some c
  cell : B.s_0.heap.IsCell c (some (.str y t))
  none : B.H_0 c = .none
  fs : c ∉ B.fs
  ex : c ∉ B.ex
theorem BaseIn.at {bx : Str} {c : Addr} {y : Str} {t : Tok} {pins : List (Addr × Obj)} {σ : L2.St} {H : Hp} {s : Shared} (b : BaseIn X bx c y t) (I : Inv X pins σ H s) : s.heap.IsCell c (some (.str y t)) :=
  let ⟨o, ho, hd⟩ := b.cell
  ⟨o, I.base.keep c o ho b.none b.fs b.ex, hd⟩
theorem IsCell.uniq {h : Heap} {c : Addr} {u v : Option Value} (a : h.IsCell c u) (b : h.IsCell c v) : u = v := by
  obtain ⟨o, ho, hd⟩ := a
  obtain ⟨o', ho', hd'⟩ := b
  rw [ho] at ho'
  cases ho'
  rw [hd] at hd'
  cases hd'
  rfl
/-- the captured name, raw -/
theorem raw_base {bx : Str} {c : Addr} {y : Str} {t : Tok} {pins : List (Addr × Obj)} {σ : L2.St} {H : Hp} {s : Shared} {i : Nat} {v : V} {pos : Pos} {Q E : Value → Shared → Prop} (b : BaseIn X bx c y t) (hN : X.N[i]? = some bx) (hv : Vis X.env.scope bx) (hnl : X.env.kindOf bx ≠ some .local) (I : Inv X pins σ H s)
    (hσ : σ[i]? = some (some v)) (fin : v = .str y → Q (.str y t) s) (hd : (bx == ("__debug__" : Str)) = false := by decide) (hcd : (bx == ("__classdict__" : Str)) = false := by decide) : wpAny (model X.prog X.w) X.A (eval (.Name bx pos) X.env) Q E s := by
  obtain ⟨m, hn, hl⟩ := I.loc
  obtain ⟨u, r, l⟩ := hl i bx v hN hσ hv
  rcases l with ⟨hk, hm⟩ | ⟨hk, c', hc, hcell⟩
  · exact absurd hk hnl
  · have e : c' = c := by rw [b.look] at hc; cases hc; rfl
    subst e
    have e2 : u = .str y t := by
      have := IsCell.uniq hcell (b.at I)
      cases this
      rfl
    subst e2
    have e3 : v = .str y := by
      cases v <;> first | (obtain ⟨t', e⟩ := r; cases e; first | rfl | done) | (obtain ⟨t', e⟩ := r; cases e) | (cases r)
    rcases hk with hk | hk
    · exact wpAny_Name (wpAny_loadName_cell I.ok.kind hk hc hcell (fin e3)) hd
    · exact wpAny_Name (wpAny_loadName_free I.ok.kind hk hc hcell (fin e3) hcd) hd
/-- s[i], its token the next one -/
theorem raw_sub {a b : Expr} {ta tb : TE} {pos : Pos} {pins : List (Addr × Obj)} {σ : L2.St} {H : Hp} {s : Shared} {Q : Value → Shared → Prop} {R : V → Hp → Prop} (hn : n ≤ s.toks) (ha : PE X a ta) (hb : PE X b tb) (I : Inv X pins σ H s) (h : tOp rIxS ta tb σ H R)
    (fin : ∀ (z : Str) (s2 : Shared) (H2 : Hp), n ≤ s2.toks → Inv X pins σ H2 s2 → R (.str z) H2 → Q (.str z s2.toks) { s2 with toks := s2.toks + 1 }) (hs : PlainIx b) : wpAny (model X.prog X.w) X.A (eval (.Subscript a b pos) X.env) Q X.xe s := by
  refine Subscript_ (thnT hn (ha.run pins s σ H _ I h) fun v s1 h1 ⟨x, H1, I1, r1, q1⟩ => ?_)
  refine thnT h1 (hb.run pins s1 σ H1 _ I1 q1) fun u s2 h2 ⟨y, H2, I2, r2, q2⟩ => ?_
  obtain ⟨z, i, c, rfl, rfl, hz, he, q⟩ := q2
  obtain ⟨t, rfl⟩ := r1
  obtain ⟨t', rfl⟩ := r2
  obtain ⟨j, h1, h2', h3, h4, h5⟩ := atI_get he
  have hl : z.cps.toList.length = z.length := by simp [Str.length]
  rw [hl] at h1 h4 h5
  have hn := line63
  exact tail_any (typeIs_str s2 z t) slot_str_getitem.lookup (getItem_str (c := c) (by
    have e1 : decide (i < -(2 ^ 63 : Int)) = false := decide_eq_false (by omega)
    have e2 : decide (i ≥ 2 ^ 63) = false := decide_eq_false (by omega)
    rw [e1, e2, Bool.or_false]) (by rw [h1]; simpa using h2') (fin ⟨#[c]⟩ s2 H2 h2 I2 q)) (hs _ _)
/-- recv.replace(base, a2[b2]) -/
def tRepl (tr : TE) (ib : Nat) (ta tb : TE) : TE := fun σ H Q => tr σ H fun x H1 => ∃ xs v, x = .str xs ∧ σ[ib]? = some (some v) ∧ tOp rIxS ta tb σ H1 fun z H2 => ∃ ys zs, v = .str ys ∧ z = .str zs ∧ (ys == zs) = false ∧ xs.length + (xs.length + 1) * zs.length ≤ 16777216 ∧ Q (.str (Txt.replace xs ys zs)) H2
theorem pen_replace {bx : Str} {c : Addr} {y : Str} {t : Tok} {ib : Nat} {r a2 b2 : Expr} {tr ta tb : TE} {apos bpos spos pos : Pos} (b : BaseIn X bx c y t) (ht : t ≠ 0) (hn : t < n) (hN : X.N[ib]? = some bx) (hv : Vis X.env.scope bx) (hnl : X.env.kindOf bx ≠ some .local) (hr : PE X r tr) (ha : PE X a2 ta) (hb : PE X b2 tb) (hs : PlainIx b2)
    (hd : (bx == ("__debug__" : Str)) = false := by decide) (hcd : (bx == ("__classdict__" : Str)) = false := by decide)
    (hst : starEach [.Name bx bpos, .Subscript a2 b2 spos] X.env = [(false, eval (.Name bx bpos) X.env), (false, eval (.Subscript a2 b2 spos) X.env)] := by rfl)
    (hbase : attributeBase r "replace" X.env (eval r X.env) = eval r X.env := by rfl) (hline : (apos.endLine == pos.line) = true := by rfl) :
    PEn n X (.Call (.Attribute r "replace" apos) [.Name bx bpos, .Subscript a2 b2 spos] [] pos) (tRepl tr ib ta tb) := by
  intro pins s σ H Q h0 I h
  refine PySem.Call_method2 hbase hst hline (thnT h0 (hr.run pins s σ H _ I h) fun ov s1 h1 ⟨x, H1, I1, r1, q1⟩ => ?_)
  obtain ⟨xs, v, rfl, hv', q1⟩ := q1
  obtain ⟨tx, rfl⟩ := r1
  refine ⟨"str", _, F.plainAttrs_str, F.slot_str_replace, F.type_str_replace, typeIs_str _ _ _, (fun _ e => nomatch e), Calls.callWith_builtin rfl (Calls.evalArgs_plain (Calls.spliced_cons ?_))⟩
  refine raw_base b hN hv hnl I1 hv' (fun ev => ?_) hd hcd
  refine Calls.spliced_cons (raw_sub h1 ha hb I1 q1 (fun z s2 H2 h2 I2 q => ?_) hs)
  refine Calls.spliced_nil ?_
  obtain ⟨ys, zs, e2, e3, ne, hb', q⟩ := q
  cases e3
  rw [ev] at e2
  cases e2
  have hu : t < s2.toks := Nat.lt_of_lt_of_le hn h2
  exact PySem.SC.replace ht (Nat.ne_of_gt (Nat.lt_of_le_of_lt (Nat.zero_le _) hu)) (Nat.ne_of_lt hu) ne hb' fun t' k => ⟨.str (Txt.replace xs y z), H2, (I2.tok k : Inv X pins σ H2 { s2 with toks := k }), ⟨t', rfl⟩, q⟩

/-- what is walked, its making known: no object but the iterator -/
def PIc (X : Cx) (iter : Expr) (wi : TI) : Prop :=
  ∀ (pins : List (Addr × Obj)) (s : Shared) (σ : L2.St) (H : Hp) (R : It → Hp → Prop), Inv X pins σ H s → wi σ H R → ∃ a xs, SqL X.K H a xs ∧ R (Itl X.K a) H ∧
    ∀ (Q E : Value → Shared → Prop), (∀ k, s.toks ≤ k → Q (.ref a) { s with toks := k }) → wpAny (model X.prog X.w) X.A (eval iter X.env) Q E s
def tNm (K : PySem.W.Frag) (i : Nat) : TI := fun σ H R => ∃ a xs, σ[i]? = some (some (.ref a)) ∧ SqL K H a xs ∧ R (Itl K a) H
def tAt (K : PySem.W.Frag) (i : Nat) (k : Int) : TI := fun σ H R => ∃ d its a xs, σ[i]? = some (some (.ref d)) ∧ SqL K H d its ∧ its[k.toNat]? = some (.ref a) ∧ SqL K H a xs ∧ R (Itl K a) H
theorem pic_name {i : Nat} {x : Str} {pos : Pos} (hN : X.N[i]? = some x) (hv : Vis X.env.scope x) (hd : (x == ("__debug__" : Str)) = false := by decide) (hcd : (x == ("__classdict__" : Str)) = false := by decide) : PIc X (.Name x pos) (tNm X.K i) := by
  intro pins s σ H R I h
  obtain ⟨a, xs, hσ, hq, r⟩ := h
  refine ⟨a, xs, hq, r, fun Q E fin => raw_name hN hv I hσ (fun u r => ?_) hd hcd⟩
  have e : u = Value.ref a := r
  subst e
  exact fin s.toks (Nat.le_refl _)
theorem pic_ix {i : Nat} {x : Str} {k : Int} {j : Nat} {p1 cp pos : Pos} (hN : X.N[i]? = some x) (hv : Vis X.env.scope x) (h0 : 0 ≤ k) (hfit : k < 2 ^ 63) (hs : PlainIx (.Constant (.int k) j cp)) (hd : (x == ("__debug__" : Str)) = false := by decide) (hcd : (x == ("__classdict__" : Str)) = false := by decide) :
    PIc X (.Subscript (.Name x p1) (.Constant (.int k) j cp) pos) (tAt X.K i k) := by
  intro pins s σ H R I h
  obtain ⟨d, its, a, xs, hσ, hd', hi, hq, r⟩ := h
  refine ⟨a, xs, hq, r, fun Q E fin => ?_⟩
  obtain ⟨us, rv, pl, hz⟩ := I.list hd'
  obtain ⟨w, ew, rw'⟩ := rv.get hi
  have e : w = Value.ref a := rw'
  subst e
  refine PySem.wpAny_with_toks (n := s.toks) (Nat.le_refl _) ?_
  refine raw_ix hN hv I hσ pl.isList h0 hfit (w := .ref a) (by simpa using ew) (fun tk hk => fin tk hk) hs hd hcd
end
end Lt

set_option Elab.async false
set_option linter.all false
set_option maxRecDepth 100000
set_option maxHeartbeats 4000000
namespace Lt
open PySem PySem.Spec PyProof.Rows L2
section
variable {X : Cx}
/-- the block of a comprehension keeps the def's cell -/
theorem base_blk {pins : List (Addr × Obj)} {σ : L2.St} {H : Hp} {s : Shared} {scope : Scope} {own : List (Str × Nat)} {fp : List Addr} {bx : Str} {c : Addr} {y : Str} {t : Tok} (I : Inv X pins σ H s) (ok : BlkOk X.N X.env.scope scope own) (hfp : ∀ b ∈ fp, FpOk X pins H b)
    (hfn : X.fn bx = true) (hc : X.env.cells.lookup bx = some c) (hfree : scope.names.lookup bx = some .free) (hcell : s.heap.IsCell c (some (.str y t))) :
    BaseIn (X.blk s H scope (compEnvC scope (cellsFrom (s.heap.objs.size + 1) scope.names (cloFrom X.env.cells scope.names [])) s.heap.objs.size X.env) fp) bx c y t := by
  refine ⟨?_, hcell, I.freeC bx c hc, fun hm => ?_, fun hm => (hfp c hm).2.2.2.2.1 bx c hc rfl⟩
  · show (cellsFrom (s.heap.objs.size + 1) scope.names (cloFrom X.env.cells scope.names [])).lookup bx = some c
    rw [← Heap.size_push s.heap { cls := .type "dict", data := .dict #[] }]
    have hy : (bx, NameKind.free) ∈ scope.names := PySem.mem_of_lookup hfree
    obtain ⟨c', e'⟩ := mem_lookup (cells_acc (names := scope.names) (n := (s.heap.push { cls := .type "dict", data := .dict #[] }).objs.size) (cloFrom_has (cells := X.env.cells) (acc := []) hy))
    rw [e']
    rcases cells_mem (PySem.mem_of_lookup e') with hm | ⟨h1, _, _⟩
    · rcases cloFrom_mem hm with hm | ⟨_, e⟩
      · cases hm
      · rw [e, hc] <;> rfl
    · have := ok.uniq _ h1
      rw [hfree] at this; cases this
  · have hm : c ∈ frs X.stack := hm
    have old : c ∉ frs X.outer := fun hm => by
      obtain ⟨_, o, ho, _⟩ := I.ok.funs.mem hm
      exact absurd (Heap.lt_size ho) (Nat.not_lt.mpr (I.ok.cab bx c hfn hc))
    rcases I.ok.stk with e | ⟨e, hf⟩
    · rw [e] at hm
      exact old hm
    · rw [e] at hm
      unfold frs at hm
      rw [List.filterMap_cons, hf] at hm
      rcases List.mem_cons.mp hm with z | z
      · exact I.cne bx c hc z
      · exact old z
theorem lcT_core {pins : List (Addr × Obj)} {s : Shared} {σ : L2.St} {H : Hp} {Q : VK} {elt tg iter : Expr} {ifs : List Expr} {scope : Scope} {own : List (Str × Nat)} {pos pos' : Pos} {wi : TI} {g : TG} {tt : TT} {te : TE} {use : Option (Value → Sem Unit)} {Qf : Value → Shared → Prop}
    {bx : Str} {c : Addr} {y : Str} {t : Tok} (hfn : X.fn bx = true) (hcl : X.env.cells.lookup bx = some c) (hfb : scope.names.lookup bx = some .free) (hct : CT c y t s)
    (hc : X.calm = true) (hN : X.N.Nodup) (I : Inv X pins σ H s) (hi : PIc X iter wi) (ok : BlkOk X.N X.env.scope scope own)
    (hg : ∀ (s : Shared) (H : Hp) (C : Addr) (cl : List (Str × Addr)) (fp : List Addr), PG (X.blk s H scope (compEnvC scope cl C X.env) fp) tg g) (ht : ∀ (s : Shared) (H : Hp) (C : Addr) (cl : List (Str × Addr)) (fp : List Addr), PTs (X.blk s H scope (compEnvC scope cl C X.env) fp) ifs tt)
    (he : ∀ (s : Shared) (H : Hp) (C : Addr) (cl : List (Str × Addr)) (fp : List Addr), BaseIn (X.blk s H scope (compEnvC scope cl C X.env) fp) bx c y t → PEn (t + 1) (X.blk s H scope (compEnvC scope cl C X.env) fp) elt te) (hs : ∀ x, foldedSetIterable iter X.env x = pure x)
    (h : tLc wi g tt te (own.map (·.2)) σ H Q)
    (hRR : ∀ D C s' m H', CT c y t s' → Inv X pins σ H' s' → Q (.ref D) H' → s'.heap.Ns C m → FpOk X pins H' C → compPost (model X.prog X.w) X.A X.xe use Qf (.ref D) C (.ok .next) s') :
    wpAny (model X.prog X.w) X.A (comprehension (.ListComp elt [⟨tg, iter, ifs, 0⟩] scope pos) scope X.env pos' (newList []) false (eval iter X.env) use) Qf X.xe s := by
  have hfree : ∀ y ∈ scope.names, y.2 = .free → ∃ c, X.env.cells.lookup y.1 = some c := fun y hy e => by
    rcases ok.free y hy e with k | k
    · exact I.ok.has _ (.inl k)
    · exact I.ok.has _ (.inr k)
  obtain ⟨a, xs, hq, hR, hev⟩ := hi pins s σ H _ I h
  refine wpAny_comprehension_free (use := use) rfl hs (closure_ok hfree) ok.kind (fun y hy e => by rw [ok.uniq y hy, e]) (hev _ _ fun k hk => ?_)
  obtain ⟨its, rv, pl, hz⟩ := I.list hq
  refine wpAny_pyIter_list (s := { s with toks := k }) pl.isList ?_
  generalize hit : ({ s with toks := k } : Shared).heap.objs.size = it
  generalize hs2 : ({ ({ s with toks := k } : Shared) with heap := ({ s with toks := k } : Shared).heap.push { cls := .type "list_iterator", data := .fields #[.ref a, .int 0 0] } } : Shared) = s2
  have hit : s.heap.objs.size = it := hit
  have h2 : s2.heap = s.heap.push { cls := .type "list_iterator", data := .fields #[.ref a, .int 0 0] } := by rw [← hs2]
  have ht2 : s2.toks = k := by rw [← hs2]
  have I2 : Inv X pins σ H s2 := by
    rw [← hs2]
    exact I.kept (t' := k) fun b o e => Heap.get?_push_of_some _ e
  have T := turn_list (P := X.prog) (w := X.w) (K := X.K) (tg := tg) a it
  have st2 : s2.heap.IsListIter it a 0 := by
    rw [h2, ← hit]
    exact ⟨_, Heap.get?_push_size _ rfl, rfl, rfl⟩
  have f2 : ∀ b ∈ [it], FpOk X pins H b := fun b hb => by
    have e : b = it := by simpa using hb
    rw [e, ← hit]
    exact I.fpOk (Nat.le_refl _) (I.hok.fresh (Nat.le_refl _))
  have ct2 : CT c y t s2 := ⟨by rw [h2]; exact hct.1.keeps fun b o e => Heap.get?_push_of_some _ e, by rw [ht2]; exact Nat.lt_of_lt_of_le hct.2 hk⟩
  have q := hR
  generalize hfp : [it] = fp at T f2
  generalize htn : (fun (i : Nat) (h : Heap) => h.IsListIter it a i) = tn at T
  have st2 : tn 0 s2.heap := by rw [← htn]; exact st2
  generalize hJ : Itl X.K a = J at T q
  clear hR hev
  generalize hH2 : H = H2 at I2 f2 q
  refine wpAny_newObj_type (newEnv_comp ?_) (by show 0 ≤ sizeLine; decide)
  generalize hD : s2.heap.objs.size = D
  have hDn : H2 D = none := I2.hok.fresh (Nat.le_of_eq hD)
  obtain ⟨W, ⟨m0, w0⟩, turn⟩ := q D hDn
  -- the new list
  generalize hs3 : ({ s2 with heap := s2.heap.push { cls := .type "list", data := .seq ([] : List Value).toArray } } : Shared) = s3
  have I3 : Inv X pins σ (upd H2 D (.lst [])) s3 := by
    rw [← hs3]
    refine I2.laid (t' := s2.toks) (fun b o e => Heap.get?_push_of_some _ e) (Nat.le_of_eq hD) ⟨Nat.zero_le _, [], 0, .nil, ?_⟩
    rw [← hD]
    exact Heap.get?_push_size _ rfl
  have h3 : s3.heap = s2.heap.push { cls := .type "list", data := .seq ([] : List Value).toArray } := by rw [← hs3]
  have ht3 : s3.toks = s2.toks := by rw [← hs3]
  have ct3 : CT c y t s3 := ⟨by rw [h3]; exact ct2.1.keeps fun b o e => Heap.get?_push_of_some _ e, by rw [ht3]; exact ct2.2⟩
  have sz : ∀ b ∈ fp, b < s2.heap.objs.size := fun b hb => by
    obtain ⟨o, e, _⟩ := T.obj _ _ st2 b hb
    exact Heap.lt_size e
  have f3 : ∀ b ∈ fp, FpOk X pins (upd H2 D (.lst [])) b ∧ b < s3.heap.objs.size := fun b hb => by
    have hlt := sz b hb
    refine ⟨⟨?_, (f2 b hb).2⟩, by rw [h3, Heap.size_push]; exact Nat.lt_succ_of_lt hlt⟩
    rw [upd_ne (by rw [← hD]; exact Nat.ne_of_lt hlt)]
    exact (f2 b hb).1
  have st3 : tn 0 s3.heap := T.keep _ _ _ st2 fun b _ o e => by rw [h3]; exact Heap.get?_push_of_some _ e
  have I4 := block_start I3 ok hN f3
  have bin := base_blk (scope := scope) (own := own) (fp := fp) I3 ok (fun b hb => (f3 b hb).1) hfn hcl hfb ct3.1
  have pg := hg s3 (upd H2 D (.lst [])) s3.heap.objs.size (cellsFrom (s3.heap.objs.size + 1) scope.names (cloFrom X.env.cells scope.names [])) fp
  have pt := ht s3 (upd H2 D (.lst [])) s3.heap.objs.size (cellsFrom (s3.heap.objs.size + 1) scope.names (cloFrom X.env.cells scope.names [])) fp
  have pe := he s3 (upd H2 D (.lst [])) s3.heap.objs.size (cellsFrom (s3.heap.objs.size + 1) scope.names (cloFrom X.env.cells scope.names [])) fp bin
  show codeAny _ _ (.compStart (.ListComp elt [⟨tg, iter, ifs, 0⟩] scope pos) 0 (.ref it) (.ref D) (compEnvC scope (cellsFrom (s3.heap.objs.size + 1) scope.names (cloFrom X.env.cells scope.names [])) s3.heap.objs.size X.env)) (compPost (model X.prog X.w) X.A X.xe use Qf (.ref D) s3.heap.objs.size) { s3 with heap := pushCells (s3.heap.push { cls := .type "dict", data := .dict #[] }) scope.names }
  have nfp : ∀ b ∈ fp, (upd H2 D (.lst [])) b = none := fun b hb => (f3 b hb).1.1
  generalize hce : compEnvC scope (cellsFrom (s3.heap.objs.size + 1) scope.names (cloFrom X.env.cells scope.names [])) s3.heap.objs.size X.env = ce at I4 pg pt pe bin ⊢
  have cL : ce.locals = s3.heap.objs.size := by subst hce; rfl
  generalize hH3 : upd H2 D (.lst []) = H3 at I3 I4 pg pt pe w0 nfp f3 bin
  generalize hs4 : ({ s3 with heap := pushCells (s3.heap.push { cls := .type "dict", data := .dict #[] }) scope.names } : Shared) = s4 at I4 ⊢
  have hk4 : t + 1 ≤ s4.toks := by rw [← hs4]; exact ct3.2
  have st4 : tn 0 s4.heap := T.keep _ _ _ st3 fun b _ o e => by rw [← hs4]; exact pushCells_keeps _ _ _ _ (Heap.get?_push_of_some _ e)
  have stat : ∀ {σ' : L2.St} {H' : Hp} {s' : Shared}, Inv (X.blk s3 H3 scope ce fp) [] σ' H' s' → (∀ b ∈ fp, H' b = none) → ∀ b ∈ fp, FpOk (X.blk s3 H3 scope ce fp) [] H' b := fun {σ' H' s'} I' hn b hb =>
    ⟨hn b hb, (I'.ok.exf b hb).1, I'.ok.exfs b hb, .inl hb, fun x c e => (I'.ok.exf b hb).2 x c e, fun p hp => absurd (show p ∈ ([] : List (Addr × Obj)) ++ [] from hp) (by simp)⟩
  have loop : codeAny (model X.prog X.w) X.A (.compLoop (.ListComp elt [⟨tg, iter, ifs, 0⟩] scope pos) 0 (.ref it) (.ref D) ce) (compPost (model X.prog X.w) X.A X.xe use Qf (.ref D) s3.heap.objs.size) s4 := by
    refine compLoop_any (fun n s' => t + 1 ≤ s'.toks ∧ ∃ i H', Inv (X.blk s3 H3 scope ce fp) [] (wipe σ (own.map (·.2))) H' s' ∧ tn i s'.heap ∧ (∀ b ∈ fp, H' b = none) ∧ W i n H') ?_ m0 ⟨hk4, 0, H3, I4, st4, nfp, w0⟩
    rintro n s5 ⟨k5, i, H5, I5, st5, n5, w5⟩
    rcases turn i n H5 w5 with ⟨stop, qq⟩ | ⟨go, Nx, hNx, step⟩
    · have td := T.done (X.blk s3 H3 scope ce fp) rfl rfl rfl hc i [] s5 _ H5 (fun _ _ => False) I5 (stat I5 n5) st5 (by rw [← hJ] at stop ⊢; exact stop)
      refine thnFT k5 td fun r s6 k6 ⟨hr, I6⟩ => ?_
      subst hr
      -- back in the def's context
      have I7 : Inv X pins σ H5 s6 := I3.call' (ch := fp) I6.os I6.base I6.hok I6.bare fun b hb => ⟨(f3 b hb).1.2.2.2.1, (f3 b hb).1.2.1, (f3 b hb).1.2.2.2.2.1, (f3 b hb).1.2.2.2.2.2⟩
      have nC : H5 s3.heap.objs.size = none := by
        have z : H5 ce.locals = none := I6.free
        rw [cL] at z
        exact z
      obtain ⟨m, hn, _⟩ := I6.loc
      have hn : s6.heap.Ns ce.locals m := hn
      rw [cL] at hn
      exact hRR D s3.heap.objs.size s6 m H5 ⟨bin.at I6, k6⟩ I7 qq hn (I3.fpOk (Nat.le_refl _) nC)
    · have ti := T.item (X.blk s3 H3 scope ce fp) rfl rfl rfl hc i [] s5 _ H5 (fun _ _ => False) I5 (stat I5 n5) st5 (by rw [← hJ] at go ⊢; exact go)
      refine thnFT k5 ti fun r s6 k6 ⟨u, hr, h6⟩ => ?_
      subst hr
      refine thnFT k6 h6 fun _ s7 k7 ⟨x, H7, I7, r7, y7, st7, n7⟩ => ?_
      have I7' := I7.pinned (stat I7 n7) (T.obj _ _ st7)
      refine thnFT k7 (pg.run _ s7 _ H7 x u _ I7' r7 (step x H7 (by rw [← hJ] at y7 ⊢; exact y7))) fun _ s8 k8 ⟨σ8, H8, I8, hw8, q8⟩ => ?_
      refine thnFT k8 (pt.run _ s8 σ8 H8 _ I8 q8) fun b s9 k9 ⟨H9, I9, q9⟩ => ?_
      -- the turn's end
      have fin : ∀ {s' : Shared} {H' : Hp}, t + 1 ≤ s'.toks → Inv (X.blk s3 H3 scope ce fp) ([] ++ pinsAt fp s7.heap) σ8 H' s' → Nx H' → ∃ m, m < n ∧ t + 1 ≤ s'.toks ∧ ∃ i H', Inv (X.blk s3 H3 scope ce fp) [] (wipe σ (own.map (·.2))) H' s' ∧ tn i s'.heap ∧ (∀ b ∈ fp, H' b = none) ∧ W i m H' := fun {s' H'} k' I' nx => by
        obtain ⟨m', hm, w'⟩ := hNx H' nx
        have pin' : ∀ b ∈ fp, ∀ o, s7.heap.get? b = some o → s'.heap.get? b = some o ∧ H' b = none := fun b hb o e =>
          let z := I'.pin (b, o) (List.mem_append_right _ (List.mem_append_right _ (mem_pinsAt hb e)))
          ⟨z.1, z.2.1⟩
        have hl : (wipe σ (own.map (·.2))).length = σ8.length := by rw [← hw8, wipe_length]
        refine ⟨m', hm, k', i + 1, H', (I'.unpinned (pins := [])).weak hl (fun j v e => ?_), T.keep _ _ _ st7 fun b hb o e => (pin' b hb o e).1, fun b hb => ?_, w'⟩
        · rw [← hw8] at e
          exact (wipe_some e).1
        · obtain ⟨o, e, _⟩ := T.obj _ _ st7 b hb
          exact (pin' b hb o e).2
      cases b with
      | false =>
        simp only [Bool.false_eq_true, if_false] at q9 ⊢
        exact fin k9 I9 q9
      | true =>
        simp only [if_true] at q9 ⊢
        refine thnFT k9 (pe _ s9 σ8 H9 _ k9 I9 q9) fun z s10 k10 ⟨yv, H10, I10, r10, acc, hD10, hz10, nx⟩ => ?_
        exact thnT k10 (app_ok (X := X.blk s3 H3 scope ce fp) (Q := fun _ s11 => Inv (X.blk s3 H3 scope ce fp) ([] ++ pinsAt fp s7.heap) σ8 (upd H10 D (.lst (acc ++ [yv]))) s11) I10 hD10 hz10 r10 fun s11 I11 => I11) fun _ s11 k11 I11 => fin k11 I11 nx
  exact codeAny_compStart_list loop (T.self X.A 0 _ _ _ st4 loop)
end
end Lt

set_option Elab.async false
set_option linter.all false
set_option maxRecDepth 100000
set_option maxHeartbeats 4000000
namespace Lt
open PySem PySem.Spec PyProof.Rows L2
section
variable {X : Cx} {pins : List (Addr × Obj)} {σ : L2.St} {H : Hp} {s : Shared}
/-- a captured name is stored; its cell's raw content is known -/
theorem store_raw {M : Model} {A : Around} {E : Value → Shared → Prop} {i : Nat} {x : Str} {v : V} {u : Value} {c : Addr} {Q : Unit → Shared → Prop} (I : Inv X pins σ H s) (hN : X.N.Nodup) (hi : X.N[i]? = some x) (hk : X.env.scope.names.lookup x = some .cell) (hc : X.env.cells.lookup x = some c) (hfn : X.fn x = true) (r : RelV v u)
    (h : ∀ s', s'.toks = s.toks → s'.heap.IsCell c (some u) → Inv X pins (σ.set i (some v)) H s' → Q () s') : wpAny M A (storeName X.env x u) Q E s := by
  obtain ⟨m, hn, hl⟩ := id I.loc
  have hiσ : i < σ.length := by rw [I.len]; exact (List.getElem?_eq_some_iff.mp hi).1
  have cne := I.cne
  have tracked : ∀ {a : Addr} {h' : Heap}, (∃ o, s.heap.get? a = some o ∧ H a = none) → Heap.SameBut a s.heap h' → HOk X.prog X.w H h' := fun {a h'} ha hs b ob e => by
    obtain ⟨_, _, hfree⟩ := ha
    refine (I.hok b ob e).stay (fun c w' hc q => (hs.2 c ?_).trans q) (fun _ q => q) fun _ _ q => q
    rintro rfl
    rcases hc with rfl | hc
    · rw [hfree] at e; cases e
    · rw [hfree] at hc; cases hc
  obtain ⟨w', z⟩ := I.cell x c hc
  refine wpAny_storeName_cell I.ok.kind hk hc z (fun h' hc' hs => ?_)
  obtain ⟨oc, hoc, hocd⟩ := id z
  refine h { s with heap := h' } rfl hc' ⟨I.ok, I.os, I.bare, ⟨fun b o e n hb hx => ?_, fun b o e n hb hx => ?_, I.base.free, fun b o e hx => ?_, I.base.tups, I.base.frzs, I.base.tbls⟩, ⟨m, hn.sameBut hs (Ne.symm (cne x c hc)), fun j y v' e1 e2 e3 => ?_⟩, fun y c' e => ?_, I.free, I.freeC, fun p hp => ?_, tracked ⟨oc, hoc, I.freeC x c hc⟩ hs, by simpa using I.len⟩
  · exact (hs.2 b (Nat.ne_of_lt (Nat.lt_of_lt_of_le (Heap.lt_size e) (I.ok.cab x c hfn hc)))).trans (I.base.keep b o e n hb hx)
  · obtain ⟨sl, e1⟩ := I.base.slot b o e n hb hx
    exact ⟨sl, (hs.2 b (Nat.ne_of_lt (Nat.lt_of_lt_of_le (Heap.lt_size e) (I.ok.cab x c hfn hc)))).trans e1⟩
  · obtain ⟨o', e1⟩ := I.base.there b o e hx
    exact ⟨o', (hs.2 b (Nat.ne_of_lt (Nat.lt_of_lt_of_le (Heap.lt_size e) (I.ok.cab x c hfn hc)))).trans e1⟩
  · by_cases hj : j = i
    · subst hj
      rw [hi] at e1; cases e1
      rw [List.getElem?_set_self hiσ] at e2
      cases e2
      exact ⟨u, r, .inr ⟨.inl hk, c, hc, hc'⟩⟩
    · rw [List.getElem?_set_ne (Ne.symm hj)] at e2
      obtain ⟨u', r', q⟩ := hl j y v' e1 e2 e3
      refine ⟨u', r', ?_⟩
      rcases q with q | ⟨k, c', e, z'⟩
      · exact .inl q
      · refine .inr ⟨k, c', e, z'.sameBut hs ?_⟩
        rintro rfl
        exact hj (nodup_ix hN e1 (I.ok.inj _ _ _ e hc ▸ hi))
  · by_cases hcc : c' = c
    · subst hcc; exact ⟨_, hc'⟩
    · obtain ⟨w2, z2⟩ := I.cell y c' e
      exact ⟨w2, z2.sameBut hs hcc⟩
  · obtain ⟨e, n, ne, nf, d⟩ := I.pin p hp
    refine ⟨(hs.2 p.1 ?_).trans e, n, ne, nf, d⟩
    intro q
    rw [q, hoc] at e
    have q' : oc = p.2 := Option.some.inj e
    exact d w' (by rw [← q']; exact hocd)
/-- a[k], k written: a token is out behind it -/
theorem pe1_ix {r : R2} {a : Expr} {ta : TE} {k : Int} {j : Nat} {cp pos : Pos} {Q : VK} (hr : IxR X r) (ha : PE X a ta) (hs : PlainIx (.Constant (.int k) j cp)) (I : Inv X pins σ H s) (h : tOp r ta (tC (.int k)) σ H Q) :
    wpAny (model X.prog X.w) X.A (eval (.Subscript a (.Constant (.int k) j cp) pos) X.env) (fun u s' => 1 ≤ s'.toks ∧ EP X pins σ Q u s') X.xe s := by
  refine Subscript_ (thn (ha.run pins s σ H _ I h) fun v s1 ⟨x, H1, I1, r1, q1⟩ => wpAny_Constant_int ?_)
  refine thnT (n := 1) (s := { s1 with toks := s1.toks + 1 }) (Nat.le_add_left 1 _) (hr a _ pins { s1 with toks := s1.toks + 1 } σ H1 x (.int k) v _ Q (I1.tok _) r1 ⟨_, rfl⟩ q1 (hs _ _)) fun u s' h1 q => ⟨h1, q⟩
/-- name = [..], the cell kept -/
theorem twins_run {R : L2.St → Hp → Prop} {i : Nat} {yn : Str} {py : Pos} {elt tg iter : Expr} {ifs : List Expr} {scope : Scope} {own : List (Str × Nat)} {pos spos : Pos} {wi : TI} {g : TG} {tt : TT} {te : TE}
    {bx : Str} {c : Addr} {y : Str} {t : Tok} (hfn : X.fn bx = true) (hcl : X.env.cells.lookup bx = some c) (hfb : scope.names.lookup bx = some .free) (hct : CT c y t s) (hne : yn ≠ bx)
    (hc : X.calm = true) (hN : X.N.Nodup) (hy : X.N[i]? = some yn) (hyl : X.env.scope.names.lookup yn = some .local)
    (hsw : swapsWith (.ListComp elt [⟨tg, iter, ifs, 0⟩] scope pos) (some (.Name yn py)) spos.line X.env = pure true) (hi : PIc X iter wi) (ok : BlkOk X.N X.env.scope scope own)
    (hg : ∀ (s : Shared) (H : Hp) (C : Addr) (cl : List (Str × Addr)) (fp : List Addr), PG (X.blk s H scope (compEnvC scope cl C X.env) fp) tg g) (ht : ∀ (s : Shared) (H : Hp) (C : Addr) (cl : List (Str × Addr)) (fp : List Addr), PTs (X.blk s H scope (compEnvC scope cl C X.env) fp) ifs tt)
    (he : ∀ (s : Shared) (H : Hp) (C : Addr) (cl : List (Str × Addr)) (fp : List Addr), BaseIn (X.blk s H scope (compEnvC scope cl C X.env) fp) bx c y t → PEn (t + 1) (X.blk s H scope (compEnvC scope cl C X.env) fp) elt te) (hs : ∀ x, foldedSetIterable iter X.env x = pure x)
    (I : Inv X pins σ H s) (h : tLc wi g tt te (own.map (·.2)) σ H fun x H1 => R (σ.set i (some x)) H1) :
    wpAny (model X.prog X.w) X.A (exec (.Assign [.Name yn py] (.ListComp elt [⟨tg, iter, ifs, 0⟩] scope pos) spos) X.env) (fun f s' => f = .next ∧ CT c y t s' ∧ ∃ σ' H', Inv X pins σ' H' s' ∧ R σ' H') X.xe s := by
  rw [exec_Assign_Name_used _ _ _ _ hsw]
  refine wpAny_bind (wpAny_standAt (wpAny_bind ?_))
  show wpAny _ X.A (do let _ ← comprehension (.ListComp elt [⟨tg, iter, ifs, 0⟩] scope pos) scope X.env (firstIterPos [⟨tg, iter, ifs, 0⟩] pos) (newList []) false (eval iter X.env) (some (assign (.Name yn py) X.env))) _ _ s
  refine wpAny_bind (thn (lcT_core (Qf := fun _ s' => CT c y t s' ∧ ∃ σ' H', Inv X pins σ' H' s' ∧ R σ' H') hfn hcl hfb hct hc hN I hi ok hg ht he hs h fun L C s' m H' ct' I' q hn f => ?_) fun _ s' hq => wpAny_pure (wpAny_pure ⟨rfl, hq⟩))
  show wpAny _ _ (assign (.Name yn py) X.env (.ref L)) _ _ _
  obtain ⟨f0, f1, f2, f3, f4, f5⟩ := f
  refine wpAny_assign_Name (thnT (n := t + 1) ct'.2 (store_ok2 (E := X.xe) (Q := fun _ s2 => Inv X pins (σ.set i (some (V.ref L))) H' s2 ∧ ∃ a, Heap.SameBut a s'.heap s2.heap ∧ (a = X.env.locals ∨ X.env.cells.lookup yn = some a)) (v := V.ref L) I' hN hy (.inl hyl) rfl (fun s2 I2 ha => ⟨I2, ha⟩) (.inr hyl)) fun _ s2 k2 ⟨I2, a, sb, ha⟩ => ?_)
  have haC : C ≠ a := by
    rcases ha with z | z
    · rw [z]; exact f1
    · exact fun e => f4 yn a z e.symm
  have hca : c ≠ a := by
    rcases ha with z | z
    · rw [z]; exact I'.cne bx c hcl
    · exact fun e => hne (I'.ok.inj yn bx c (by rw [e]; exact z) hcl)
  refine ⟨m, hn.sameBut sb haC, fun h3 sb3 => ?_⟩
  exact ⟨⟨(ct'.1.sameBut sb hca).sameBut sb3 (f4 bx c hcl), k2⟩, _, H', I2.turned (t' := s2.toks) (fun b o hb e => (sb3.2 b hb).trans e) f0 f1 f3 f4 f5, q⟩
end
def tLt (ta tb : TE) (wi1 : TI) (g1 : TG) (tt1 : TT) (te1 : TE) (vs1 : List Nat) (wi2 : TI) (g2 : TG) (tt2 : TT) (te2 : TE) (vs2 : List Nat) (ib it ir : Nat) : TS := fun D σ H =>
  tOp rIxS ta tb σ H fun v H1 => tLc wi1 g1 tt1 te1 vs1 (σ.set ib (some v)) H1 fun v2 H2 => ∃ v3, ((σ.set ib (some v)).set it (some v2))[ir]? = some (some v3) ∧
    tLc wi2 g2 tt2 te2 vs2 ((σ.set ib (some v)).set it (some v2)) H2 fun v4 H3 => rCat v3 v4 H3 fun v5 H4 => D.nx (((σ.set ib (some v)).set it (some v2)).set ir (some v5)) H4
theorem pss_lt {X : Cx} {ib it ir : Nat} {bx tx rx : Str} {b : Expr} {k0 : Int} {j0 : Nat} {cp0 ap0 : Pos} {a0 : Expr} {ta0 tb : TE} {r0 : R2} {pb pt pr pr' spos p1 p2 p3 bpos : Pos}
    {elt1 tg1 iter1 : Expr} {ifs1 : List Expr} {scope1 : Scope} {own1 : List (Str × Nat)} {pos1 : Pos} {wi1 : TI} {g1 : TG} {tt1 : TT} {te1 : TE}
    {elt2 tg2 iter2 : Expr} {ifs2 : List Expr} {scope2 : Scope} {own2 : List (Str × Nat)} {pos2 : Pos} {wi2 : TI} {g2 : TG} {tt2 : TT} {te2 : TE}
    (hc : X.calm = true) (hN : X.N.Nodup) (hib : X.N[ib]? = some bx) (hit : X.N[it]? = some tx) (hir : X.N[ir]? = some rx) (hbk : X.env.scope.names.lookup bx = some .cell) (htl : X.env.scope.names.lookup tx = some .local) (hrl : X.env.scope.names.lookup rx = some .local) (htb : tx ≠ bx)
    (hfn : X.fn bx = true) (hr0 : IxR X r0) (ha0 : PE X a0 ta0) (hs0 : PlainIx (.Constant (.int k0) j0 cp0)) (hb : PE X b tb) (hsb : PlainIx b)
    (hsw0 : swapsWith (.Subscript (.Subscript a0 (.Constant (.int k0) j0 cp0) ap0) b spos) (some (.Name bx pb)) p1.line X.env = pure false)
    (hf1 : scope1.names.lookup bx = some .free) (hsw1 : swapsWith (.ListComp elt1 [⟨tg1, iter1, ifs1, 0⟩] scope1 pos1) (some (.Name tx pt)) p2.line X.env = pure true) (hi1 : PIc X iter1 wi1) (ok1 : BlkOk X.N X.env.scope scope1 own1)
    (hg1 : ∀ (s : Shared) (H : Hp) (C : Addr) (cl : List (Str × Addr)) (fp : List Addr), PG (X.blk s H scope1 (compEnvC scope1 cl C X.env) fp) tg1 g1) (ht1 : ∀ (s : Shared) (H : Hp) (C : Addr) (cl : List (Str × Addr)) (fp : List Addr), PTs (X.blk s H scope1 (compEnvC scope1 cl C X.env) fp) ifs1 tt1)
    (he1 : ∀ (s : Shared) (H : Hp) (C : Addr) (cl : List (Str × Addr)) (fp : List Addr), PE (X.blk s H scope1 (compEnvC scope1 cl C X.env) fp) elt1 te1)
    (hs1 : ∀ x, foldedSetIterable iter1 X.env x = pure x)
    (hf2 : scope2.names.lookup bx = some .free) (hsw2 : swapsWith (.BinOp (.Name rx pr') .Add (.ListComp elt2 [⟨tg2, iter2, ifs2, 0⟩] scope2 pos2) bpos) (some (.Name rx pr)) p3.line X.env = pure false) (hi2 : PIc X iter2 wi2) (ok2 : BlkOk X.N X.env.scope scope2 own2)
    (hg2 : ∀ (s : Shared) (H : Hp) (C : Addr) (cl : List (Str × Addr)) (fp : List Addr), PG (X.blk s H scope2 (compEnvC scope2 cl C X.env) fp) tg2 g2) (ht2 : ∀ (s : Shared) (H : Hp) (C : Addr) (cl : List (Str × Addr)) (fp : List Addr), PTs (X.blk s H scope2 (compEnvC scope2 cl C X.env) fp) ifs2 tt2)
    (he2 : ∀ (c : Addr) (y : Str) (t : Tok), t ≠ 0 → ∀ (s : Shared) (H : Hp) (C : Addr) (cl : List (Str × Addr)) (fp : List Addr), BaseIn (X.blk s H scope2 (compEnvC scope2 cl C X.env) fp) bx c y t → PEn (t + 1) (X.blk s H scope2 (compEnvC scope2 cl C X.env) fp) elt2 te2)
    (hs2 : ∀ x, foldedSetIterable iter2 X.env x = pure x)
    (hdr : (rx == ("__debug__" : Str)) = false := by decide) (hcr : (rx == ("__classdict__" : Str)) = false := by decide) :
    PSs X [.Assign [.Name bx pb] (.Subscript (.Subscript a0 (.Constant (.int k0) j0 cp0) ap0) b spos) p1, .Assign [.Name tx pt] (.ListComp elt1 [⟨tg1, iter1, ifs1, 0⟩] scope1 pos1) p2, .Assign [.Name rx pr] (.BinOp (.Name rx pr') .Add (.ListComp elt2 [⟨tg2, iter2, ifs2, 0⟩] scope2 pos2) bpos) p3]
      (tLt (tOp r0 ta0 (tC (.int k0))) tb wi1 g1 tt1 te1 (own1.map (·.2)) wi2 g2 tt2 te2 (own2.map (·.2)) ib it ir) := by
  refine ⟨fun pins s σ H D I h => ?_⟩
  obtain ⟨c, hcl⟩ := I.ok.has bx (.inl hbk)
  refine wpAny_execs_cons (wpAny_Assign_Name (Subscript_ (thn (pe1_ix (Q := fun x H1 => tb σ H1 fun y H2 => rIxS x y H2 fun v H1 => tLc wi1 g1 tt1 te1 (own1.map fun p : Str × Nat => p.2) (σ.set ib (some v)) H1 fun v2 H2 => ∃ v3, ((σ.set ib (some v)).set it (some v2))[ir]? = some (some v3) ∧
    tLc wi2 g2 tt2 te2 (own2.map fun p : Str × Nat => p.2) ((σ.set ib (some v)).set it (some v2)) H2 fun v4 H3 => rCat v3 v4 H3 fun v5 H4 => D.nx (((σ.set ib (some v)).set it (some v2)).set ir (some v5)) H4) hr0 ha0 hs0 I h) fun v s1 ⟨k1, x, H1, I1, r1, q1⟩ => ?_)) hsw0)
  refine thnT (n := 1) k1 (hb.run pins s1 σ H1 _ I1 q1) fun u s2 k2 ⟨y, H2, I2, r2, q2⟩ => ?_
  obtain ⟨z, i, ch, rfl, rfl, hz, hat, q⟩ := q2
  obtain ⟨t1, rfl⟩ := r1
  obtain ⟨t2, rfl⟩ := r2
  obtain ⟨j, h1, h2', h3, h4, h5⟩ := atI_get hat
  have hl : z.cps.toList.length = z.length := by simp [Str.length]
  rw [hl] at h1 h4 h5
  have hn := line63
  refine tail_any (typeIs_str s2 z t1) slot_str_getitem.lookup (getItem_str (c := ch) (by
    have e1 : decide (i < -(2 ^ 63 : Int)) = false := decide_eq_false (by omega)
    have e2 : decide (i ≥ 2 ^ 63) = false := decide_eq_false (by omega)
    rw [e1, e2, Bool.or_false]) (by rw [h1]; simpa using h2') ?_) (hsb _ _)
  have ht0 : s2.toks ≠ 0 := Nat.ne_of_gt k2
  refine store_raw (v := .str ⟨#[ch]⟩) (I2.tok (s2.toks + 1)) hN hib hbk hcl hfn ⟨_, rfl⟩ fun s3 k3 cell3 I3 => ?_
  have ct3 : CT c ⟨#[ch]⟩ s2.toks s3 := ⟨cell3, by rw [k3]; exact Nat.lt_succ_self _⟩
  refine wpAny_execs_cons (thn (twins_run (R := fun σ' H2 => ∃ v3, σ'[ir]? = some (some v3) ∧ tLc wi2 g2 tt2 te2 (own2.map fun p : Str × Nat => p.2) σ' H2 fun v4 H3 => rCat v3 v4 H3 fun v5 H4 => D.nx (σ'.set ir (some v5)) H4) hfn hcl hf1 ct3 htb hc hN hit htl hsw1 hi1 ok1 hg1 ht1 (fun s H C cl fp _ => PEn.of (he1 s H C cl fp)) hs1 I3 q) fun f s4 q4 => ?_)
  obtain ⟨rfl, ct4, σ4, H4, I4, v3, hv3, q4⟩ := q4
  refine wpAny_execs_cons (wpAny_Assign_Name (wpAny_BinOp (raw_name hir (.inl hrl) I4 hv3 (fun u3 r3 => ?_) hdr hcr)) hsw2)
  rw [eval_ListComp]
  refine lcT_core hfn hcl hf2 ct4 hc hN I4 hi2 ok2 hg2 ht2 (he2 c _ _ ht0) hs2 q4 fun L C s' m H' ct' I' q hn f => ⟨m, hn, fun h'' sb => ?_⟩
  obtain ⟨f0, f1, f2, f3, f4, f5⟩ := f
  have I5 := I'.turned (t' := s'.toks) (fun b o hb e => (sb.2 b hb).trans e) f0 f1 f3 f4 f5
  refine thn (op_cat pins { s' with heap := h'' } σ4 H' v3 (.ref L) u3 (.ref L) _ I5 r3 rfl q) fun w s6 ⟨v5, H6, I6, r6, q6⟩ => ?_
  exact store_ok I6 hN hir (.inl hrl) r6 (fun s7 I7 => wpAny_execs_nil ⟨_, H6, I7, q6⟩) (.inr hrl)
end Lt

set_option Elab.async false
set_option linter.unusedVariables false
set_option maxRecDepth 100000
set_option maxHeartbeats 4000000
namespace Mk
open PySem L2 Pk
/-! replace of a sign by a sign -/
theorem repl_len {x y z : PySem.Str} (h : y.length = z.length) : (Txt.replace x y z).length = x.length := by
  unfold Txt.replace
  split
  · rfl
  · have hy : (Builtin.Str.glued y (Builtin.Str.partsBetween x (Builtin.Str.occurrences x y 0 x.length (x.length + 1)) y.length)).length = x.length := by rw [StrLaws.glued_between_self]
    rw [size_glued, length_partsBetween, Nat.add_sub_cancel] at hy
    rw [size_glued, length_partsBetween, Nat.add_sub_cancel, ← h]
    exact hy
theorem glued_all {P : Nat → Prop} {g : PySem.Str} (hg : ∀ c ∈ g.cps.toList, P c) : ∀ {parts : List PySem.Str}, (∀ p ∈ parts, ∀ c ∈ p.cps.toList, P c) → ∀ c ∈ (Builtin.Str.glued g parts).cps.toList, P c := by
  intro parts hp
  have gen : ∀ (l : List PySem.Str) (acc : Array Nat), (∀ p ∈ l, ∀ c ∈ p.cps.toList, P c) → (∀ c ∈ acc.toList, P c) → ∀ c ∈ (l.foldl (fun acc p => acc ++ g.cps ++ p.cps) acc).toList, P c := by
    intro l
    induction l with
    | nil => exact fun acc _ h => h
    | cons p l ih =>
      intro acc hl ha
      refine ih _ (fun q m => hl q (List.mem_cons_of_mem _ m)) fun c m => ?_
      rw [Array.toList_append, Array.toList_append] at m
      rcases List.mem_append.mp m with m | m
      · rcases List.mem_append.mp m with m | m
        · exact ha c m
        · exact hg c m
      · exact hl p List.mem_cons_self c m
  refine gen (parts.drop 1) (parts.headD Str.empty).cps (fun p m => hp p (List.mem_of_mem_drop m)) fun c m => ?_
  cases parts with
  | nil => exact absurd m (by show ¬ c ∈ ([] : List Nat); exact List.not_mem_nil)
  | cons p l => exact hp p List.mem_cons_self c m
theorem repl_all {P : Nat → Prop} {x y z : PySem.Str} (hx : ∀ c ∈ x.cps.toList, P c) (hz : ∀ c ∈ z.cps.toList, P c) : ∀ c ∈ (Txt.replace x y z).cps.toList, P c := by
  unfold Txt.replace
  split
  · exact hx
  · refine glued_all hz fun p m => ?_
    unfold Builtin.Str.partsBetween at m
    obtain ⟨⟨i, j⟩, _, rfl⟩ := List.mem_map.mp m
    intro c mc
    unfold Builtin.Str.strSub at mc
    rw [Array.toList_extract] at mc
    exact hx c (List.mem_of_mem_drop (List.mem_of_mem_take mc))
/-! how many rules there are, their keys being different -/
theorem nodup_sub {α : Type} [DecidableEq α] : ∀ {l ks : List α}, l.Nodup → (∀ x ∈ l, x ∈ ks) → l.length ≤ ks.length
  | [], ks, _, _ => Nat.zero_le _
  | x :: l, ks, nd, sub => by
    have n := List.nodup_cons.mp nd
    have mx := sub x List.mem_cons_self
    have ih := nodup_sub (l := l) (ks := ks.erase x) n.2 fun y my => (List.mem_erase_of_ne (fun e => n.1 (by rw [← e]; exact my))).mpr (sub y (List.mem_cons_of_mem _ my))
    rw [List.length_erase_of_mem mx] at ih
    have : 0 < ks.length := List.length_pos_of_mem mx
    rw [List.length_cons]
    omega
def keys5 (l : PySem.Str) (Tp : List PySem.Str) : List (List Key) :=
  (List.range 5).flatMap fun (s : Nat) => (sgs l).flatMap fun g => Tp.map fun t => [Sum.inl (s : Int), Sum.inr g, Sum.inr t]
theorem flat_len {α β : Type} (f : α → List β) (m : Nat) : ∀ l : List α, (∀ x ∈ l, (f x).length = m) → (l.flatMap f).length = l.length * m
  | [], _ => by simp
  | a :: l, h => by
    rw [List.flatMap_cons, List.length_append, flat_len f m l fun x mx => h x (List.mem_cons_of_mem _ mx), h a List.mem_cons_self, List.length_cons, Nat.succ_mul, Nat.add_comm]
theorem keys5_len (l : PySem.Str) (Tp : List PySem.Str) : (keys5 l Tp).length = 5 * ((l.length + 2) * Tp.length) := by
  unfold keys5
  rw [flat_len _ ((l.length + 2) * Tp.length), List.length_range]
  intro s _
  rw [flat_len _ Tp.length]
  · have e : (sgs l).length = l.length + 2 := by
      show (lt0 :: gt0 :: l.cps.toList.map sgn1).length = _
      rw [List.length_cons, List.length_cons, List.length_map, Array.length_toList] <;> rfl
    rw [e]
  · intro g _
    rw [List.length_map]
theorem sgn_mem {l s : PySem.Str} (h : Sgn l s) : s ∈ sgs l := by
  obtain ⟨c, rfl, h⟩ := h
  show _ ∈ lt0 :: gt0 :: l.cps.toList.map sgn1
  rcases h with rfl | rfl | h
  · have e : (⟨#[60]⟩ : PySem.Str) = lt0 := by decide +kernel
    rw [e]; exact List.mem_cons_self
  · have e : (⟨#[62]⟩ : PySem.Str) = gt0 := by decide +kernel
    rw [e]; exact List.mem_cons_of_mem _ List.mem_cons_self
  · exact List.mem_cons_of_mem _ (List.mem_cons_of_mem _ (List.mem_map.mpr ⟨c, h, rfl⟩))
theorem keys_few {l : PySem.Str} {n : Int} {rs : List Rl} {Tp : List PySem.Str} (n5 : n ≤ 5) (ok : ∀ r ∈ rs, RlOk l n r) (old : ∀ r ∈ rs, r.tp ∈ Tp) (nd : (rs.map Rl.k3).Nodup) : rs.length ≤ 5 * ((l.length + 2) * Tp.length) := by
  have z := nodup_sub (ks := keys5 l Tp) nd fun k m => by
    obtain ⟨r, mr, rfl⟩ := List.mem_map.mp m
    have o := ok r mr
    have s0 := o.st
    refine List.mem_flatMap.mpr ⟨r.st.toNat, List.mem_range.mpr ?_, List.mem_flatMap.mpr ⟨r.sg, sgn_mem o.sg, List.mem_map.mpr ⟨r.tp, old r mr, ?_⟩⟩⟩
    · omega
    · show [Sum.inl ((r.st.toNat : Nat) : Int), Sum.inr r.sg, Sum.inr r.tp] = [Sum.inl r.st, Sum.inr r.sg, Sum.inr r.tp]
      rw [Int.toNat_of_nonneg (by omega)]
  rw [List.length_map, keys5_len] at z
  exact z
end Mk

set_option Elab.async false
set_option linter.unusedVariables false
set_option maxRecDepth 100000
set_option maxHeartbeats 16000000
namespace Mk
open PySem L2 Pk
/-- the data of a machine, each key once -/
structure MG (H' : Hp) (p : Addr) (l : PySem.Str) (n : Int) (aR aY : Addr) (B : Kept) (ys : List Int) (Tp : List PySem.Str) : Prop where
  at_ : H' p = some (.lst [.str l, .int n, .ref aR, .ref aY])
  al : Alpha l
  n1 : 1 ≤ n
  n5 : n ≤ 5
  rs : H' aR = some (.lst (refsK B))
  kept : KeptAt H' B
  ok : ∀ q ∈ B, RlOk l n q.2
  nd : (B.map fun p => p.2.k3).Nodup
  old : ∀ q ∈ B, q.2.tp ∈ Tp
  hy : H' aY = some (.lst (ys.map V.int))
  yok : ∀ y ∈ ys, 0 ≤ y ∧ y ≤ n - 1
  lys : ys.length ≤ 5
theorem MG.mono {H H' : Hp} {p : Addr} {l : PySem.Str} {n : Int} {aR aY : Addr} {B : Kept} {ys : List Int} {Tp : List PySem.Str} (M : MG H p l n aR aY B ys Tp) (s : Same H H') : MG H' p l n aR aY B ys Tp :=
  ⟨s _ _ M.at_, M.al, M.n1, M.n5, s _ _ M.rs, fun q m => s _ _ (M.kept q m), M.ok, M.nd, M.old, s _ _ M.hy, M.yok, M.lys⟩
theorem kept_few {l : PySem.Str} {n : Int} {B : Kept} {Tp : List PySem.Str} (al : Alpha l) (n5 : n ≤ 5) (ok : ∀ q ∈ B, RlOk l n q.2) (old : ∀ q ∈ B, q.2.tp ∈ Tp) (nd : (B.map fun p => p.2.k3).Nodup) : B.length ≤ 140 * Tp.length := by
  have z := keys_few (l := l) (rs := B.map (·.2)) (Tp := Tp) n5 (fun r m => by obtain ⟨q, mq, rfl⟩ := List.mem_map.mp m; exact ok q mq) (fun r m => by obtain ⟨q, mq, rfl⟩ := List.mem_map.mp m; exact old q mq) (by rw [List.map_map]; exact nd)
  rw [List.length_map] at z
  have h : (l.length + 2) * Tp.length ≤ 28 * Tp.length := Nat.mul_le_mul_right _ (by have := al.most; omega)
  omega
theorem MG.few {H : Hp} {p : Addr} {l : PySem.Str} {n : Int} {aR aY : Addr} {B : Kept} {ys : List Int} {Tp : List PySem.Str} (M : MG H p l n aR aY B ys Tp) : B.length ≤ 140 * Tp.length := kept_few M.al M.n5 M.ok M.old M.nd
abbrev nLettered : List PySem.Str := ["script", "at", "drawn", "every", "row", "fresh", "letters", "rules", "k", "base", "twins", "letter", "rule"]
theorem scLettered : FnScope nLettered ["script", "at", "drawn"] (defScope sLettered) := ⟨rfl, rfl, rfl, by decide +kernel, rfl, by decide +kernel, by decide +kernel⟩
def spLettered (K : PySem.W.Frag) : Sp := fun vs H Q _ => ∃ (sc : Addr) (ns : List Int) (at_ : Nat) (p : Addr) (l : PySem.Str) (n : Int) (aR aY : Addr) (B : Kept) (ys : List Int) (Tp : List PySem.Str), vs = [.ref sc, .int (at_ : Int), .ref p] ∧ SqL K H sc (ns.map V.int) ∧ MG H p l n aR aY B ys Tp ∧ Tp.length ≤ 10 ∧
  ∀ (p' : Addr) (H' : Hp) (l' : PySem.Str) (aR' : Addr) (B' : Kept), Same H H' → MG H' p' l' n aR' aY B' ys Tp → Q (.ref p') H'
/-- the rule's twin -/
def twinL (b c : Nat) (r : Rl) : Rl := { r with sg := sgn1 c, sa := Txt.replace r.sa (sgn1 b) (sgn1 c) }
theorem twin_vs (b c : Nat) (r : Rl) : (twinL b c r).vs = [V.int r.st, .str (sgn1 c)] ++ [.str r.tp, .int r.af, .int r.mv, .str r.de, .str r.sy] ++ [.str (Txt.replace r.sa (sgn1 b) (sgn1 c))] := rfl
theorem sgn_low {c : Nat} (h : 97 ≤ c ∧ c ≤ 122) : sgn1 c ≠ lt0 ∧ sgn1 c ≠ gt0 := by
  have e1 : lt0 = sgn1 60 := by decide +kernel
  have e2 : gt0 = sgn1 62 := by decide +kernel
  rw [e1, e2]
  exact ⟨fun e => by have := sgn_inj e; omega, fun e => by have := sgn_inj e; omega⟩
theorem low_at {l : PySem.Str} (h : lowB l = true) {c : Nat} (m : c ∈ l.cps.toList) : 97 ≤ c ∧ c ≤ 122 := by
  unfold lowB at h
  have y := List.all_eq_true.mp h c m
  unfold lowC at y
  rw [Bool.and_eq_true, decide_eq_true_eq, decide_eq_true_eq] at y
  exact y
theorem twin_ok {l l2 : PySem.Str} {n : Int} {b c : Nat} {r : Rl} (ok : RlOk l n r) (al2 : Alpha l2) (mc : c ∈ l2.cps.toList) (hc : 97 ≤ c ∧ c ≤ 122) : RlOk l2 n (twinL b c r) where
  st := ok.st
  sg := ⟨c, rfl, .inr (.inr mc)⟩
  tp := ok.tp
  af := ok.af
  mv := ⟨ok.mv.lo, ok.mv.hi, fun e => absurd e (sgn_low hc).1, fun e => absurd e (sgn_low hc).2⟩
  de := ok.de
  sa := by
    refine ⟨?_, ?_⟩
    · show lowB (Txt.replace r.sa (sgn1 b) (sgn1 c)) = true
      unfold lowB
      rw [List.all_eq_true]
      refine repl_all (P := fun c => lowC c = true) (fun d m => ?_) fun d m => ?_
      · have z := ok.sa.1
        unfold lowB at z
        exact List.all_eq_true.mp z d m
      · rw [List.mem_singleton.mp (show d ∈ [c] from m)]
        unfold lowC
        rw [decide_eq_true hc.1, decide_eq_true hc.2] <;> rfl
    · show (Txt.replace r.sa (sgn1 b) (sgn1 c)).length ≤ 3
      rw [repl_len (y := sgn1 b) (z := sgn1 c) rfl]
      exact ok.sa.2
theorem RlOk.more {l l2 : PySem.Str} {n : Int} {r : Rl} (ok : RlOk l n r) (sub : ∀ c ∈ l.cps.toList, c ∈ l2.cps.toList) : RlOk l2 n r where
  st := ok.st
  sg := by
    obtain ⟨c, e, h⟩ := ok.sg
    exact ⟨c, e, h.imp id fun h => h.imp id fun h => sub c h⟩
  tp := ok.tp
  af := ok.af
  mv := ok.mv
  de := ok.de
  sa := ok.sa
end Mk

set_option Elab.async false
set_option linter.unusedVariables false
set_option maxRecDepth 100000
set_option maxHeartbeats 16000000
namespace Mk
open PySem L2 Pk
section
variable {P : Program} {w : World} {K : PySem.W.Frag} {mg : PySem.Str → Option Value} {base : Heap}
theorem abc_at {i : Int} (h0 : 0 ≤ i) (h : i < 26) : ∃ c, atI abc26.cps.toList i = some c := by
  obtain ⟨k, rfl⟩ : ∃ k : Nat, i = (k : Int) := ⟨i.toNat, by omega⟩
  exact ⟨_, atI_nat (abc26_at (by omega))⟩
theorem sum_signs : ∀ cs : List Nat, ((cs.map sgn1).map (·.length)).sum = cs.length
  | [] => rfl
  | c :: cs => by
    rw [List.map_cons, List.map_cons, List.sum_cons, sum_signs cs, List.length_cons]
    show 1 + _ = _
    omega
theorem refs_sub {A B : Kept} (h : A.Sublist B) : ∀ q ∈ A, q ∈ B := fun q m => h.subset m
theorem ok_lettered {f : Addr} {fd : FuncData} (F : Fun K "_law_lettered" "_law_lettered" sLettered f fd) (T : TM mg) (G : GenDefs P w K mg base) : FnOk P w K mg base CX0 2 f fd ["script", "at", "drawn"] (spLettered K) := by
  refine F.ok scLettered (fun vs H Q E h => ?_) (fun cdv A outer s H vs Q E hr h => ?_)
  · obtain ⟨sc, ns, at_, p, l, n, aR, aY, B, ys, Tp, rfl, _⟩ := h
    rfl
  · obtain ⟨sc, ns, at_, p, l, n, aR, aY, B, ys, Tp, rfl, hSc, M, lT, k⟩ := h
    have nd := scLettered.nd
    have h1 := hr
    refine ⟨_, (pss_cons (ps_set (i := 3) nd rfl (Or.inr rfl) pe_str)
      (pss_cons (ps_set (i := 4) nd rfl (Or.inr rfl) (pe_got G.digits h1 (by rfl) (pa_cons (pe_got G.cell h1 (by rfl) (pa_cons (pv 0) (pa_cons (pv 1) pa_nil))) (pa_cons (pe_lst (pa_cons pe_int (pa_cons pe_int (pa_cons pe_int pa_nil)))) pa_nil))))
      (pss_cons (ps_if (pt_cmpR op_ne (pe_ix ix_list (pv 4) pe_int fun _ _ => rfl) pe_int (nomark _))
        (pss_one (ps_ret (pv 2)))
        pss_nil)
      (pss_cons (ps_set (i := 5) nd rfl (Or.inr rfl) (pe_lc (own := [("k", 8)]) (g := gName 8) (tt := tYes) (by rfl) nd (pi_range1 (by rfl) T.range (pa_cons (pe_op op_add pe_int (pe_ix ix_list (pv 4) pe_int fun _ _ => rfl)) pa_nil)) (blkOk_by (own := [("k", 8)]) (N := nLettered) (sc := defScope sLettered) (by decide +kernel)) (fun _ _ _ _ _ => pg_name (i := 8) nd rfl (Or.inl rfl)) (fun _ _ _ _ _ => pts_nil) (fun _ _ _ _ _ => (pe_ix ix_str (pv 3) (pe_op op_mod (pe_callTy call_int1 (by rfl) T.int PyProof.Rows.Boot.int (pa_cons (pe_op op_add (pe_ix (r := rIxL K) ix_list (pv 4) pe_int fun _ _ => rfl) (pv 8)) pa_nil)) pe_int) fun _ _ => rfl))))
      (pss_cons (ps_set (i := 6) nd rfl (Or.inr rfl) (pe_join pe_str (pe_lc (own := [("letter", 11)]) (g := gName 11) (by rfl) nd (pi_str (pv 3)) (blkOk_by (own := [("letter", 11)]) (N := nLettered) (sc := defScope sLettered) (by decide +kernel)) (fun _ _ _ _ _ => pg_name (i := 11) nd rfl (Or.inl rfl)) (fun _ _ _ _ _ => pts_one (PW.pt (pw_or (pt_cmpR op_in_sign (pv 11) (pe_ix (r := rIxL K) ix_list (pv 2) pe_int fun _ _ => rfl) rfl) (pw_or1 (pt_cmpR (r := rIn K false) op_in_seq (pv 11) (pv 5) rfl))))) (fun _ _ _ _ _ => (pv 11)))))
      (pss_cons (ps_set (i := 7) nd rfl (Or.inl rfl) (pe_callTy (call_list_of) (by rfl) T.list PyProof.Rows.Boot.list (pa_cons (pe_ix ix_list (pv 2) pe_int fun _ _ => rfl) pa_nil)))
      (pss_cons (ps_for PassesOwn.never rfl (pi_range1 (by rfl) T.range (pa_cons (pe_callB call_len_str (by rfl) T.len PySem.boot_len (pa_cons (pv 6) pa_nil)) pa_nil)) (pg_name (i := 8) nd rfl (Or.inr rfl))
        (pss_one (ps_if (pt_cmpR op_notIn_sign (pe_ix ix_str (pv 6) (pv 8) fun _ _ => rfl) (pe_ix ix_list (pv 2) pe_int fun _ _ => rfl) rfl)
          (Lt.pss_lt (ib := 9) (it := 10) (ir := 7) (own1 := [("rule", 12)]) (own2 := [("rule", 12)]) (g1 := gName 12) (g2 := gName 12) (tt2 := tYes) rfl nd rfl rfl rfl rfl rfl rfl (by decide) rfl ix_list (pv 2) (fun _ _ => rfl)
            (pe_op op_mod (pv 8) (pe_callB call_len_str (by rfl) T.len PySem.boot_len (pa_cons (pe_ix ix_list (pv 2) pe_int fun _ _ => rfl) pa_nil))) (fun _ _ => rfl) rfl
            rfl (sw_true rfl rfl rfl (by decide +kernel)) (Lt.pic_ix (i := 2) rfl (Or.inr (Or.inl rfl)) (by decide) (by decide) (fun _ _ => rfl)) (blkOk_by (own := [("rule", 12)]) (N := nLettered) (sc := defScope sLettered) (by decide +kernel)) (fun _ _ _ _ _ => pg_name (i := 12) nd rfl (Or.inl rfl)) (fun _ _ _ _ _ => pts_one (pt_cmpR op_eq (pe_ix (r := rIxT K) ix_tup (pv 12) pe_int fun _ _ => rfl) (pv 9) (nomark _))) (fun _ _ _ _ _ => (pv 12)) (fun _ => rfl)
            rfl rfl (Lt.pic_name (i := 10) rfl (Or.inl rfl)) (blkOk_by (own := [("rule", 12)]) (N := nLettered) (sc := defScope sLettered) (by decide +kernel)) (fun _ _ _ _ _ => pg_name (i := 12) nd rfl (Or.inl rfl)) (fun _ _ _ _ _ => pts_nil)
            (fun c y t ht s H C cl fp b => Lt.pen_op (r := rCatT K) op_catT (Lt.pen_op (r := rCatT K) op_catT (Lt.PEn.of (pe_tup (pa_cons (pe_ix (r := rIxT K) ix_tup (pv 12) pe_int fun _ _ => rfl) (pa_cons (pe_ix ix_str (pv 6) (pv 8) fun _ _ => rfl) pa_nil)))) (Lt.PEn.of (pe_slice (r := rSlT K) sl_tup (pv 12) (po_some pe_int) (po_some pe_int))))
              (Lt.pen_tup (Lt.pan_cons (Lt.pen_replace (ib := 9) b ht (Nat.lt_succ_self t) rfl (Or.inr (Or.inl rfl)) (fun h => by cases (show (some NameKind.cell : Option NameKind) = some .local from h)) (pe_ix (r := rIxT K) ix_tup (pv 12) pe_int fun _ _ => rfl) (pv 6) (pv 8) (fun _ _ => rfl)) Lt.pan_nil))) (fun _ => rfl))
          pss_nil)))
      (pss_one (ps_ret (pe_lst (pa_cons (pv 6) (pa_cons (pe_ix ix_list (pv 2) pe_int fun _ _ => rfl) (pa_cons (pv 7) (pa_cons (pe_ix ix_list (pv 2) pe_int fun _ _ => rfl) pa_nil)))))))))))))), ?_⟩
    refine ⟨_, rfl, _, rfl, sc, ns, at_, rfl, hSc, fun z0 => ⟨show 3 ≤ sizeLine by decide, fun q nq => ⟨z0, q, [16, 26, 26], rfl, SqL.of upd_same, by decide, by decide, fun row aD H1 dg np s1 hrow => ?_⟩⟩⟩
    have sA : Same H H1 := (same_new nq).trans s1
    clear s1 np nq
    have M1 := M.mono sA
    have rowAt : ∀ {j : Nat} {d : Nat}, row[j]? = some (d : Int) → atI (row.map V.int) (j : Int) = some (V.int d) := fun {j d} e => atI_nat (by rw [List.getElem?_map, e]; rfl)
    have dig : ∀ (j : Nat) (t : Int), ([16, 26, 26] : List Int)[j]? = some t → ∃ d : Nat, row[j]? = some (d : Int) ∧ (d : Int) < t := fun j t e => by
      obtain ⟨d, e1, e2, e3⟩ := dg.2 j t e
      exact ⟨d.toNat, by rw [e1, Int.toNat_of_nonneg e2], by rw [Int.toNat_of_nonneg e2]; exact e3⟩
    obtain ⟨d0, e0, b0⟩ := dig 0 16 rfl
    obtain ⟨d1, e1, b1⟩ := dig 1 26 rfl
    obtain ⟨d2, e2, b2⟩ := dig 2 26 rfl
    refine ⟨_, rfl, aD, _, _, _, rfl, rfl, SqL.of hrow, rowAt (j := 0) e0, rfl, _, rfl, ite2 (fun _ => ?_) (fun _ => ?_)⟩
    · exact ⟨_, rfl, k p H1 l aR B sA M1⟩
    -- the fresh letters
    refine ⟨_, rfl, aD, _, _, _, rfl, rfl, SqL.of hrow, rowAt (j := 2) e2, _, _, rfl, rfl, _, rfl, by omega, by omega, fun Df nDf => lc_range (lo := 0) (n := (1 + (d2 : Int)).toNat) (fun i H' => Same H1 H' ∧ ∃ fs : List PySem.Str, H' Df = some (.lst (fs.map V.str)) ∧ fs.length ≤ i) ⟨same_new nDf, [], upd_same, Nat.zero_le _⟩ ?_ ?_⟩
    · rintro i H2 hi ⟨s2, fs, hfs, lfs⟩
      refine ⟨rfl, ?_⟩
      obtain ⟨c, hc⟩ := abc_at (i := ((d1 : Int) + (0 + (i : Int))) % 26) (Int.emod_nonneg _ (by decide)) (Int.emod_lt_of_pos _ (by decide))
      refine ⟨_, rfl, _, rfl, aD, _, _, _, rfl, rfl, SqL.of (s2 _ _ hrow), rowAt (j := 1) e1, _, rfl, _, _, rfl, rfl, .inl ⟨_, rfl, _, _, rfl, rfl, (by show (0 : Int) < 26; decide), _, _, c, rfl, rfl, (by show 26 ≤ sizeLine; decide), hc, ?_⟩⟩
      refine ⟨_, hfs, ?_, same_mut s2 nDf, fs ++ [sgn1 c], ?_, ?_⟩
      · rw [List.length_map]
        exact Nat.lt_of_le_of_lt (show fs.length ≤ 100 by omega) (by decide)
      · rw [upd_same, List.map_append] <;> rfl
      · rw [List.length_append]
        show fs.length + 1 ≤ i + 1
        omega
    rintro H2 ⟨s2, fs, hfs, lfs⟩
    have M2 := M1.mono s2
    have flatF : (fs.map V.str).all flatV = true := by
      rw [List.all_map, List.all_eq_true]
      exact fun _ _ => rfl
    -- the letters
    generalize hpB : (fun j : Nat => decide (97 + j ∈ l.cps.toList) || inV (.str (sgn1 (97 + j))) (fs.map V.str)) = pB
    refine ⟨⟨_, rfl⟩, _, rfl, _, rfl, fun Dl nDl => lc_it walk_str (fun i H' => Same H2 H' ∧ H' Dl = some (.lst (((((List.range i).filter pB).map (97 + ·)).map sgn1).map V.str))) ⟨same_new nDl, upd_same⟩ (fun _ _ _ _ => trivial) ?_ ?_⟩
    · rintro i v H3 H4 hi ⟨s3, hD3⟩ ⟨rfl, c0, hc0, rfl⟩
      have hi' : i < 26 := hi
      have ec0 : c0 = 97 + i := by
        have z := abc26_at hi'
        rw [Array.getElem?_toList] at z
        exact Option.some.inj (hc0.symm.trans z)
      subst ec0
      have few : (((((List.range i).filter pB).map (97 + ·)).map sgn1).map V.str).length < sizeLine := by
        rw [List.length_map, List.length_map, List.length_map]
        exact Nat.lt_of_le_of_lt (Nat.le_trans (List.length_filter_le _ _) (by rw [List.length_range]; omega : _ ≤ 26)) (by decide)
      have yes : pB i = true → ∃ acc, H4 Dl = some (.lst acc) ∧ acc.length < sizeLine ∧ Same H2 (upd H4 Dl (.lst (acc ++ [V.str (sgn1 (97 + i))]))) ∧ (upd H4 Dl (.lst (acc ++ [V.str (sgn1 (97 + i))]))) Dl = some (.lst (((((List.range (i + 1)).filter pB).map (97 + ·)).map sgn1).map V.str)) := fun h => by
        refine ⟨_, hD3, few, same_mut s3 nDl, ?_⟩
        rw [upd_same, abc_snoc, if_pos h, List.map_append, List.map_append] <;> rfl
      refine ⟨rfl, ?_⟩
      refine ⟨_, rfl, _, rfl, p, _, _, _, rfl, rfl, SqL.of (s3 _ _ M2.at_), rfl, _, l, rfl, rfl, _, rfl, ite2 (fun ca => ?_) (fun ca => ?_)⟩
      · refine iteT ⟨_, rfl, yes ?_⟩
        rw [← hpB]
        show (_ || _) = true
        rw [ca, Bool.true_or]
      · refine ⟨_, rfl, _, rfl, Df, _, rfl, .inl (SqL.of (s3 _ _ hfs)), rfl, flatF, _, rfl, ite2 (fun cb => ?_) (fun cb => ?_)⟩
        · refine ⟨_, rfl, yes ?_⟩
          rw [← hpB]
          show (_ || _) = true
          have cb' : inV (V.str (sgn1 (97 + i))) (fs.map V.str) = true := cb
          rw [cb', Bool.or_true]
        · refine ⟨s3, ?_⟩
          have no : ¬ pB i = true := by
            rw [← hpB]
            show ¬ (_ || _) = true
            rw [Bool.or_eq_true]
            exact fun z => z.elim ca cb
          rw [abc_snoc, if_neg no, List.append_nil]
          exact hD3
    rintro H3 ⟨s3, hD3⟩
    have hD3' : H3 Dl = some (.lst (((abc pB).map sgn1).map V.str)) := hD3
    have hl26 : (abc pB).length ≤ 26 := by
      unfold abc
      rw [List.length_map]
      exact Nat.le_trans (List.length_filter_le _ _) (by rw [List.length_range]; exact Nat.le_refl _)
    refine ⟨_, Dl, (abc pB).map sgn1, rfl, rfl, .inl (SqL.of hD3'), by rw [sum_signs, List.length_map]; show _ + (abc pB).length * 0 ≤ _; omega, ?_⟩
    rw [join_signs]
    have al2 : Alpha ⟨(abc pB).toArray⟩ := by
      refine alpha_abc ?_
      have pos := M.al.pos
      obtain ⟨c, hc⟩ : ∃ c, l.cps.toList[0]? = some c := ⟨_, List.getElem?_eq_getElem (by rw [Array.length_toList]; exact pos)⟩
      have mc := List.mem_of_getElem? hc
      have lw := low_at M.al.low mc
      refine ⟨c - 97, by omega, ?_⟩
      rw [← hpB]
      show (decide (97 + (c - 97) ∈ l.cps.toList) || _) = true
      rw [show 97 + (c - 97) = c by omega, decide_eq_true mc, Bool.true_or]
    have sub : ∀ c ∈ l.cps.toList, c ∈ (⟨(abc pB).toArray⟩ : PySem.Str).cps.toList := fun c mc => by
      have lw := low_at M.al.low mc
      show c ∈ abc pB
      unfold abc
      refine List.mem_map.mpr ⟨c - 97, List.mem_filter.mpr ⟨List.mem_range.mpr (by omega), ?_⟩, by omega⟩
      rw [← hpB]
      show (decide (97 + (c - 97) ∈ l.cps.toList) || _) = true
      rw [show 97 + (c - 97) = c by omega, decide_eq_true mc, Bool.true_or]
    generalize (⟨(abc pB).toArray⟩ : PySem.Str) = l2 at al2 sub ⊢
    have M3 := M2.mono s3
    have s03 : Same H H3 := (sA.trans s2).trans s3
    clear hD3 hD3' hl26 hpB flatF hfs lfs
    have szl : l.length ≤ sizeLine := Nat.le_trans M.al.most (by decide)
    have szl2 : l2.length ≤ sizeLine := Nat.le_trans al2.most (by decide)
    have pos := M.al.pos
    have lB : (refsK B).length = B.length := List.length_map ..
    have fewB := M.few
    have szB : B.length < sizeLine := Nat.lt_of_le_of_lt (show B.length ≤ 1400 by omega) (by decide)
    have up2 := alpha_up al2
    have ndl2 : l2.cps.toList.Nodup := up2.imp fun h => Nat.ne_of_lt h
    -- the rules
    refine ⟨_, rfl, p, _, _, _, rfl, rfl, SqL.of M3.at_, rfl, aR, _, rfl, .inl (SqL.of M3.rs), fun q nq => ?_⟩
    have tq := same_new (o := HO.lst (refsK B)) nq
    refine ⟨_, rfl, l2, rfl, szl2, _, rfl, by have := al2.most; omega, by have := al2.most; omega, for_range (lo := 0) (n := ((l2.length : Nat) : Int).toNat) (fun i σ H' => ∃ (aR' : Addr) (Bk : Kept) (e8 e9 e10 : Option V), σ = [some (.ref sc), some (.int (at_ : Int)), some (.ref p), some (.str abc26), some (.ref aD), some (.ref Df), some (.str l2), some (.ref aR'), e8, e9, e10, none, none] ∧ Same H3 H' ∧ H' aR' = some (.lst (refsK Bk)) ∧ KeptAt H' Bk ∧ (∀ q ∈ Bk, RlOk l2 n q.2) ∧ (Bk.map fun p => p.2.k3).Nodup ∧ (∀ q ∈ Bk, q.2.tp ∈ Tp) ∧ ∀ q ∈ Bk, q.2.sg ∈ sgs l ∨ ∃ j c : Nat, j < i ∧ l2.cps.toList[j]? = some c ∧ q.2.sg = sgn1 c)
      ⟨q, B, none, none, none, rfl, tq, upd_same, fun x m => tq _ _ (M3.kept x m), fun x m => (M.ok x m).more sub, M.nd, M.old, fun x m => .inl (sgn_mem (M.ok x m).sg)⟩ ?_ ?_⟩
    rotate_left
    · rintro σ H4 ⟨aR', Bk, e8, e9, e10, rfl, s4, hR4, kB, okB, ndB, oldB, _⟩
      have M4 := M3.mono s4
      refine ⟨_, rfl, _, rfl, p, _, _, _, rfl, rfl, SqL.of M4.at_, rfl, _, rfl, _, rfl, p, _, _, _, rfl, rfl, SqL.of M4.at_, rfl, show 4 ≤ sizeLine by decide, fun u nu => ?_⟩
      have tu := same_new (o := HO.lst [V.str l2, V.int n, V.ref aR', V.ref aY]) nu
      exact k u _ l2 aR' Bk ((s03.trans s4).trans tu) ⟨upd_same, al2, M.n1, M.n5, tu _ _ hR4, fun x m => tu _ _ (kB x m), okB, ndB, oldB, tu _ _ M4.hy, M.yok, M.lys⟩
    · rintro i σ H4 hi ⟨aR', Bk, e8, e9, e10, rfl, s4, hR4, kB, okB, ndB, oldB, sgB⟩
      have M4 := M3.mono s4
      obtain ⟨c, ec, mc⟩ := let_at (l := l2) (i := i) (by omega)
      have ec' : l2.cps.toList[i]? = some c := by
        have h' : i < l2.cps.toList.length := by rw [Array.length_toList]; show i < l2.length; omega
        have e : l2.cps.toList[i]? = some l2.cps.toList[i] := List.getElem?_eq_getElem h'
        rw [show (0 : Int) + (i : Int) = ((i : Nat) : Int) by omega, atI_nat e] at ec
        rw [e, ec]
      have lc := low_at al2.low mc
      refine ⟨_, rfl, _, rfl, l2, _, c, rfl, rfl, szl2, ec, _, rfl, p, _, _, _, rfl, rfl, SqL.of M4.at_, rfl, c, l, rfl, rfl, _, rfl, ite2 (fun cn => ?_) (fun _ => ⟨aR', Bk, _, _, _, rfl, s4, hR4, kB, okB, ndB, oldB, fun x m => (sgB x m).imp id fun ⟨j, d, h1, h2⟩ => ⟨j, d, by omega, h2⟩⟩)⟩
      have cn' : c ∉ l.cps.toList := fun m => by
        rw [decide_eq_true m] at cn
        cases cn
      obtain ⟨b, eb, mb⟩ : ∃ b, atI l.cps.toList ((0 + (i : Int)) % (l.length : Int)) = some b ∧ b ∈ l.cps.toList := by
        have g0 := Int.emod_nonneg (0 + (i : Int)) (b := (l.length : Int)) (by omega)
        have g1 := Int.emod_lt_of_pos (0 + (i : Int)) (b := (l.length : Int)) (by omega)
        obtain ⟨z, ez⟩ : ∃ z : Nat, (0 + (i : Int)) % (l.length : Int) = (z : Int) := ⟨((0 + (i : Int)) % (l.length : Int)).toNat, by omega⟩
        rw [ez] at g1 ⊢
        obtain ⟨b, h1, h2⟩ := let_at (l := l) (i := z) (by omega)
        exact ⟨b, by rw [show (0 : Int) + (z : Int) = (z : Int) by omega] at h1; exact h1, h2⟩
      have lb := low_at M.al.low mb
      refine ⟨_, rfl, p, _, _, _, rfl, rfl, SqL.of M4.at_, rfl, _, rfl, _, rfl, p, _, _, _, rfl, rfl, SqL.of M4.at_, rfl, l, rfl, szl, _, _, rfl, rfl, (by omega : (0 : Int) < (l.length : Int)), l, _, b, rfl, rfl, szl, eb, ?_⟩
      -- the twins
      refine ⟨p, _, aR, _, rfl, SqL.of M4.at_, rfl, SqL.of M4.rs, fun D nD => lc_list (K := K) (a := aR) (xs := refsK B) (fun i H' => Same H4 H' ∧ ∃ Tw : Kept, H' D = some (.lst (refsK Tw)) ∧ Tw.Sublist (B.take i) ∧ ∀ q ∈ Tw, q.2.sg = sgn1 b) ⟨same_new nD, [], upd_same, List.nil_sublist _, fun x m => absurd m List.not_mem_nil⟩ (fun i H' _ h => SqL.of (h.1 _ _ M4.rs)) ?_ ?_⟩
      · rintro i' v H5 hi' ⟨s5, Tw, hTw, sl, sgT⟩
        obtain ⟨r, er, rfl⟩ := at_refs hi'
        have mr := List.mem_of_getElem? er
        refine ⟨rfl, ?_⟩
        refine ⟨_, rfl, r.1, r.2.vs, 1, .str r.2.sg, rfl, rfl, .inl (.inl (s5 _ _ (M4.kept r mr))), rfl, _, rfl, rfl, _, rfl, ite2 (fun ce => ?_) (fun _ => ⟨s5, Tw, hTw, by rw [take_at er]; exact sl.trans (List.sublist_append_left _ _), sgT⟩)⟩
        have esg : r.2.sg = sgn1 b := V.str.inj (of_decide_eq_true ce)
        refine ⟨_, rfl, _, hTw, ?_, same_mut s5 nD, Tw ++ [r], ?_, by rw [take_at er]; exact List.Sublist.append sl (List.Sublist.refl _), fun z m => ?_⟩
        · show (refsK Tw).length < sizeLine
          have : (refsK Tw).length = Tw.length := List.length_map ..
          have z := sl.length_le
          rw [List.length_take] at z
          omega
        · rw [upd_same]
          unfold refsK
          rw [List.map_append] <;> rfl
        · rcases List.mem_append.mp m with m | m
          · exact sgT z m
          · rw [List.mem_singleton.mp m]
            exact esg
      rintro H5 ⟨s5, Tw, hTw, sl, sgT⟩
      have slB : Tw.Sublist B := sl.trans (List.take_sublist _ _)
      have lTw : Tw.length ≤ B.length := slB.length_le
      have M5 := M4.mono s5
      -- their copies
      refine ⟨_, rfl, D, refsK Tw, rfl, SqL.of hTw, fun D2 nD2 => lc_list (K := K) (a := D) (xs := refsK Tw) (fun i H' => Same H5 H' ∧ ∃ N : Kept, H' D2 = some (.lst (refsK N)) ∧ KeptAt H' N ∧ N.map (·.2) = (Tw.take i).map fun q => twinL b c q.2) ⟨same_new nD2, [], upd_same, fun x m => absurd m List.not_mem_nil, rfl⟩ (fun i H' _ h => SqL.of (h.1 _ _ hTw)) ?_ ?_⟩
      · rintro i' v H6 hi' ⟨s6, N, hN, kN, eN⟩
        obtain ⟨r, er, rfl⟩ := at_refs hi'
        have mr := List.mem_of_getElem? er
        have hr6 := s6 _ _ (M5.kept r (slB.subset mr))
        have okr := M.ok r (slB.subset mr)
        refine ⟨rfl, ?_⟩
        refine ⟨_, rfl, r.1, r.2.vs, 0, .int r.2.st, rfl, rfl, .inl (.inl hr6), rfl, _, rfl, _, rfl, l2, _, c, rfl, rfl, szl2, ec, show 2 ≤ sizeLine by decide, fun u nu => ?_⟩
        have t1 := same_new (o := HO.tup [V.int r.2.st, V.str (sgn1 c)]) nu
        refine ⟨_, rfl, 2, rfl, 7, rfl, r.1, r.2.vs, rfl, .inl (.inl (t1 _ _ hr6)), (by show ¬ (HT.sIx 8 0 (some 2) = 0 ∧ HT.sIx 8 8 (some 7) = 8); decide), fun v nv => ?_⟩
        have t2 := same_new (o := HO.tup (cutV r.2.vs (some 2) (some 7))) nv
        refine ⟨u, v, _, _, rfl, rfl, .inl (.inl (t2 _ _ upd_same)), .inl (.inl upd_same), (fun e => by cases e), show 7 ≤ sizeLine by decide, (fun e => by
          have e : [V.str r.2.tp, V.int r.2.af, V.int r.2.mv, V.str r.2.de, V.str r.2.sy] = [] := e
          cases e), fun _ x nx => ?_⟩
        have t3 := same_new (o := HO.tup ([V.int r.2.st, V.str (sgn1 c)] ++ cutV r.2.vs (some 2) (some 7))) nx
        have t03 := (t1.trans t2).trans t3
        have hx : (upd (upd (upd H6 u (.tup [V.int r.2.st, V.str (sgn1 c)])) v (.tup (cutV r.2.vs (some 2) (some 7)))) x (.tup ([V.int r.2.st, V.str (sgn1 c)] ++ cutV r.2.vs (some 2) (some 7)))) x = some (.tup ([V.int r.2.st, V.str (sgn1 c)] ++ cutV r.2.vs (some 2) (some 7))) := upd_same
        show tTup _ _ (upd (upd (upd H6 u (.tup [V.int r.2.st, V.str (sgn1 c)])) v (.tup (cutV r.2.vs (some 2) (some 7)))) x (.tup ([V.int r.2.st, V.str (sgn1 c)] ++ cutV r.2.vs (some 2) (some 7)))) _
        generalize upd (upd (upd H6 u (.tup [V.int r.2.st, V.str (sgn1 c)])) v (.tup (cutV r.2.vs (some 2) (some 7)))) x (.tup ([V.int r.2.st, V.str (sgn1 c)] ++ cutV r.2.vs (some 2) (some 7))) = H7 at t03 hx ⊢
        have bc : (sgn1 b == sgn1 c) = false := Bool.eq_false_iff.mpr fun h => cn' (sgn_inj (eq_of_beq h) ▸ mb)
        have lsa := okr.sa.2
        refine ⟨_, rfl, r.1, r.2.vs, 7, .str r.2.sa, rfl, rfl, .inl (.inl (t03 _ _ hr6)), rfl, r.2.sa, _, rfl, rfl, _, rfl, _, rfl, l2, _, c, rfl, rfl, szl2, ec, sgn1 b, sgn1 c, rfl, rfl, bc, ?_, show 1 ≤ sizeLine by decide, fun y ny => ?_⟩
        · show r.2.sa.length + (r.2.sa.length + 1) * 1 ≤ 16777216
          omega
        have t4 := same_new (o := HO.tup [V.str (Txt.replace r.2.sa (sgn1 b) (sgn1 c))]) ny
        refine ⟨x, y, _, _, rfl, rfl, .inl (.inl (t4 _ _ hx)), .inl (.inl upd_same), (fun e => by cases e), show 8 ≤ sizeLine by decide, (fun e => by cases e), fun _ t nt => ?_⟩
        have t5 := same_new (o := HO.tup (twinL b c r.2).vs) nt
        have s7 := (t03.trans t4).trans t5
        have nD2' : H5 D2 = none := nD2
        refine ⟨_, s7 _ _ hN, ?_, same_mut (s6.trans s7) nD2, N ++ [(t, twinL b c r.2)], ?_, fun z m => ?_, ?_⟩
        · have e1 : (refsK N).length = N.length := List.length_map ..
          have e2 : N.length = ((Tw.take i').map fun q => twinL b c q.2).length := by rw [← eN, List.length_map]
          rw [List.length_map, List.length_take] at e2
          omega
        · rw [upd_same]
          unfold refsK
          rw [List.map_append] <;> rfl
        · have ne : z.1 ≠ D2 → (upd (upd (upd H7 y (HO.tup [V.str (Txt.replace r.2.sa (sgn1 b) (sgn1 c))])) t (.tup (twinL b c r.2).vs)) D2 (.lst (refsK N ++ [V.ref t]))) z.1 = (upd (upd H7 y (HO.tup [V.str (Txt.replace r.2.sa (sgn1 b) (sgn1 c))])) t (.tup (twinL b c r.2).vs)) z.1 := fun h => upd_ne h
          rcases List.mem_append.mp m with m | m
          · have h0 := kN z m
            have hz : z.1 ≠ D2 := ne_of h0 hN (by intro q; cases q)
            exact (ne hz).trans (s7 _ _ h0)
          · rw [List.mem_singleton.mp m] at ne ⊢
            have hz : t ≠ D2 := fun e => by
              have e2 := (t03.trans t4) _ _ hN
              rw [← e, nt] at e2
              cases e2
            exact (ne hz).trans upd_same
        · rw [List.map_append, eN, take_at er, List.map_append] <;> rfl
      rintro H6 ⟨s6, N, hN, kN, eN⟩
      have lTT : (refsK Tw).length = Tw.length := List.length_map ..
      rw [lTT, List.take_of_length_le (Nat.le_refl _)] at eN
      have lN : N.length = Tw.length := by
        have e := congrArg List.length eN
        rw [List.length_map, List.length_map] at e
        exact e
      have s46 := s5.trans s6
      -- all of them
      have okN : ∀ q ∈ N, ∃ t ∈ Tw, q.2 = twinL b c t.2 := fun q m => by
        have m2 : q.2 ∈ N.map (·.2) := List.mem_map.mpr ⟨q, m, rfl⟩
        rw [eN] at m2
        obtain ⟨t, mt, e⟩ := List.mem_map.mp m2
        exact ⟨t, mt, e.symm⟩
      have okA : ∀ q ∈ Bk ++ N, RlOk l2 n q.2 := fun q m => by
        rcases List.mem_append.mp m with m | m
        · exact okB q m
        · obtain ⟨t, mt, e⟩ := okN q m
          rw [e]
          exact twin_ok (M.ok t (slB.subset mt)) al2 mc lc
      have oldA : ∀ q ∈ Bk ++ N, q.2.tp ∈ Tp := fun q m => by
        rcases List.mem_append.mp m with m | m
        · exact oldB q m
        · obtain ⟨t, mt, e⟩ := okN q m
          rw [e]
          exact M.old t (slB.subset mt)
      have newB : ∀ q ∈ Bk, q.2.sg ≠ sgn1 c := fun q m e => by
        rcases sgB q m with h | ⟨j, d, h1, h2, h3⟩
        · rw [e] at h
          have h : sgn1 c ∈ lt0 :: gt0 :: l.cps.toList.map sgn1 := h
          rcases List.mem_cons.mp h with z | h
          · exact (sgn_low lc).1 z
          · rcases List.mem_cons.mp h with z | h
            · exact (sgn_low lc).2 z
            · obtain ⟨d, md, ed⟩ := List.mem_map.mp h
              rw [sgn_inj ed] at md
              exact cn' md
        · rw [e] at h3
          rw [← sgn_inj h3] at h2
          have := (List.getElem?_inj (List.getElem?_eq_some_iff.mp h2).1 ndl2).mp (h2.trans ec'.symm)
          omega
      have ndN : (N.map fun p => p.2.k3).Nodup := by
        have e : (N.map fun p => p.2.k3) = (N.map (·.2)).map Rl.k3 := by rw [List.map_map] <;> rfl
        rw [e, eN, List.map_map]
        have nT : (Tw.map fun p => p.2.k3).Nodup := M.nd.sublist (slB.map _)
        have gen : ∀ L : Kept, (∀ q ∈ L, q.2.sg = sgn1 b) → (L.map fun p => p.2.k3).Nodup → (L.map (Rl.k3 ∘ fun q => twinL b c q.2)).Nodup := by
          intro L
          induction L with
          | nil => exact fun _ _ => List.nodup_nil
          | cons q L ih =>
            intro hg hn
            rw [List.map_cons] at hn ⊢
            have hn := List.nodup_cons.mp hn
            refine List.nodup_cons.mpr ⟨fun m => ?_, ih (fun x mx => hg x (List.mem_cons_of_mem _ mx)) hn.2⟩
            obtain ⟨x, mx, ex⟩ := List.mem_map.mp m
            have ex : [Sum.inl x.2.st, Sum.inr (sgn1 c), Sum.inr x.2.tp] = [Sum.inl q.2.st, Sum.inr (sgn1 c), Sum.inr q.2.tp] := ex
            refine hn.1 (List.mem_map.mpr ⟨x, mx, ?_⟩)
            show [Sum.inl x.2.st, Sum.inr x.2.sg, Sum.inr x.2.tp] = [Sum.inl q.2.st, Sum.inr q.2.sg, Sum.inr q.2.tp]
            rw [hg x (List.mem_cons_of_mem _ mx), hg q List.mem_cons_self]
            injection ex with h1 h2
            injection h2 with h2 h3
            injection h3 with h3 h4
            rw [h1, h3]
        exact gen Tw sgT nT
      have ndA : ((Bk ++ N).map fun p => p.2.k3).Nodup := by
        rw [List.map_append, List.nodup_append]
        refine ⟨ndB, ndN, fun x mx y my e => ?_⟩
        obtain ⟨q, mq, rfl⟩ := List.mem_map.mp mx
        obtain ⟨q2, mq2, rfl⟩ := List.mem_map.mp my
        obtain ⟨t, mt, et⟩ := okN q2 mq2
        rw [et] at e
        have e : [Sum.inl q.2.st, Sum.inr q.2.sg, Sum.inr q.2.tp] = [Sum.inl t.2.st, Sum.inr (sgn1 c), Sum.inr t.2.tp] := e
        injection e with h1 h2
        injection h2 with h2 h3
        exact newB q mq (Sum.inr.inj h2)
      have fewA := kept_few al2 M.n5 okA oldA ndA
      rw [List.length_append] at fewA
      have lBk : (refsK Bk).length = Bk.length := List.length_map ..
      have lNN : (refsK N).length = N.length := List.length_map ..
      refine ⟨aR', D2, refsK Bk, refsK N, rfl, rfl, s46 _ _ hR4, hN, ?_, fun a' na' => ?_⟩
      · rw [lBk, lNN]
        exact Nat.le_trans (show _ ≤ 1400 by omega) (by decide)
      have ta := same_new (o := HO.lst (refsK Bk ++ refsK N)) na'
      refine ⟨a', Bk ++ N, _, _, _, rfl, (s4.trans s46).trans ta, ?_, fun z m => ?_, okA, ndA, oldA, fun z m => ?_⟩
      · rw [upd_same]
        unfold refsK
        rw [List.map_append]
      · rcases List.mem_append.mp m with m | m
        · exact ta _ _ (s46 _ _ (kB z m))
        · exact ta _ _ (kN z m)
      · rcases List.mem_append.mp m with m | m
        · exact (sgB z m).imp id fun ⟨j, d, h1, h2⟩ => ⟨j, d, by omega, h2⟩
        · obtain ⟨t, mt, et⟩ := okN z m
          rw [et]
          exact .inr ⟨i, c, by omega, ec', rfl⟩
end
end Mk

set_option Elab.async false
set_option linter.unusedVariables false
set_option maxRecDepth 100000
set_option maxHeartbeats 16000000
namespace Mk
open PySem L2 Pk
abbrev nSymboled : List PySem.Str := ["script", "at", "drawn", "row", "found", "rules", "k", "base", "fresh", "twins", "j", "rule"]
theorem scSymboled : FnScope nSymboled ["script", "at", "drawn"] (defScope sSymboled) := ⟨rfl, rfl, rfl, by decide +kernel, rfl, by decide +kernel, by decide +kernel⟩
def spSymboled (K : PySem.W.Frag) : Sp := fun vs H Q _ => ∃ (sc : Addr) (ns : List Int) (at_ : Nat) (p : Addr) (l : PySem.Str) (n : Int) (aR aY : Addr) (B : Kept) (ys : List Int) (Tp : List PySem.Str), vs = [.ref sc, .int (at_ : Int), .ref p] ∧ SqL K H sc (ns.map V.int) ∧ MG H p l n aR aY B ys Tp ∧ Tp.length ≤ 4 ∧ (∀ t ∈ Tp, t ∉ freshL) ∧
  ∀ (p' : Addr) (H' : Hp) (aR' : Addr) (B' : Kept), Same H H' → MG H' p' l n aR' aY B' ys (Tp ++ freshL) → Q (.ref p') H'
theorem MG.old_more {H : Hp} {p : Addr} {l : PySem.Str} {n : Int} {aR aY : Addr} {B : Kept} {ys : List Int} {Tp Tq : List PySem.Str} (M : MG H p l n aR aY B ys Tp) (h : ∀ t ∈ Tp, t ∈ Tq) : MG H p l n aR aY B ys Tq :=
  ⟨M.at_, M.al, M.n1, M.n5, M.rs, M.kept, M.ok, M.nd, fun q m => h _ (M.old q m), M.hy, M.yok, M.lys⟩
/-- the rule under another top, with another symbol -/
def twinT (t : PySem.Str) (r : Rl) : Rl := { r with tp := t }
def twinY (t : PySem.Str) (r : Rl) : Rl := { r with sy := t }
theorem twinT_ok {l t b : PySem.Str} {n : Int} {r : Rl} (ok : RlOk l n r) (ht : symB t = true) (hb : r.tp = b) (nb : b ≠ nil0) : RlOk l n (twinT t r) :=
  ⟨ok.st, ok.sg, .inl ht, ok.af, ok.mv, ⟨ok.de.one, fun e => absurd e (sym_ne ht), ok.de.sym, ok.de.no⟩, ok.sa⟩
theorem twinY_ok {l t b : PySem.Str} {n : Int} {r : Rl} (ok : RlOk l n r) (ht : symB t = true) (hb : r.sy = b) (nb : b ≠ nil0) : RlOk l n (twinY t r) :=
  ⟨ok.st, ok.sg, ok.tp, ok.af, ok.mv, ⟨ok.de.one, ok.de.low, fun _ => ht, fun e => absurd ((ok.de.no e).symm.trans hb) (Ne.symm nb)⟩, ok.sa⟩
theorem freshL_sym : ∀ t ∈ freshL, symB t = true := by decide +kernel
theorem freshL_nd : freshL.Nodup := by decide +kernel
theorem freshL_at {k : Nat} (h : k < 6) : ∃ t, freshL[k]? = some t ∧ t ∈ freshL ∧ t ∉ freshL.take k := by
  have e : freshL[k]? = some freshL[k] := List.getElem?_eq_getElem h
  refine ⟨_, e, List.getElem_mem h, fun m => ?_⟩
  obtain ⟨j, hj, ej⟩ := List.mem_iff_getElem.mp m
  rw [List.length_take] at hj
  rw [List.getElem_take] at ej
  have := (List.getElem?_inj (i := j) (j := k) (by omega) freshL_nd).mp (by rw [List.getElem?_eq_getElem (by omega : j < freshL.length), e, ej])
  omega
def ofT (b : PySem.Str) (L : Kept) : Kept := L.filter fun q => decide (q.2.tp = b)
theorem ofT_snoc (b : PySem.Str) (L : Kept) (q : Addr × Rl) : ofT b (L ++ [q]) = ofT b L ++ (if q.2.tp = b then [q] else []) := by
  unfold ofT
  rw [List.filter_append]
  by_cases c : q.2.tp = b
  · rw [if_pos c, List.filter_cons_of_pos (p := fun q : Addr × Rl => decide (q.2.tp = b)) (decide_eq_true c)] <;> rfl
  · rw [if_neg c, List.filter_cons_of_neg (p := fun q : Addr × Rl => decide (q.2.tp = b)) (by rw [decide_eq_false c]; exact Bool.false_ne_true)] <;> rfl
theorem ofT_keys {b t : PySem.Str} : ∀ L : Kept, (L.map fun p => p.2.k3).Nodup → ((ofT b L).map fun q => (twinT t q.2).k3).Nodup := by
  intro L hn
  have sub : (ofT b L).Sublist L := List.filter_sublist
  have hn' := hn.sublist (sub.map fun p => p.2.k3)
  have hb : ∀ q ∈ ofT b L, q.2.tp = b := fun q m => of_decide_eq_true (List.mem_filter.mp m).2
  generalize ofT b L = M at hn' hb
  induction M with
  | nil => exact List.nodup_nil
  | cons q M ih =>
    rw [List.map_cons] at hn' ⊢
    have hn := List.nodup_cons.mp hn'
    refine List.nodup_cons.mpr ⟨fun m => ?_, ih hn.2 fun x mx => hb x (List.mem_cons_of_mem _ mx)⟩
    obtain ⟨x, mx, ex⟩ := List.mem_map.mp m
    have ex : [Sum.inl x.2.st, Sum.inr x.2.sg, Sum.inr t] = [Sum.inl q.2.st, Sum.inr q.2.sg, Sum.inr t] := ex
    refine hn.1 (List.mem_map.mpr ⟨x, mx, ?_⟩)
    show [Sum.inl x.2.st, Sum.inr x.2.sg, Sum.inr x.2.tp] = [Sum.inl q.2.st, Sum.inr q.2.sg, Sum.inr q.2.tp]
    rw [hb x (List.mem_cons_of_mem _ mx), hb q List.mem_cons_self]
    injection ex with h1 h2
    injection h2 with h2 h3
    rw [h1, h2]
theorem off_tup {U : Hp} {D z : Addr} {ys xs : List V} {o : HO} (hD : U D = some (.lst ys)) (h : U z = some (.tup xs)) : (upd U D o) z = some (.tup xs) := by
  rw [upd_ne (ne_of h hD (by intro q; cases q))]
  exact h
section
variable {P : Program} {w : World} {K : PySem.W.Frag} {mg : PySem.Str → Option Value} {base : Heap}
theorem ok_symboled {f : Addr} {fd : FuncData} (F : Fun K "_law_symboled" "_law_symboled" sSymboled f fd) (T : TM mg) (G : GenDefs P w K mg base) : FnOk P w K mg base CX0 2 f fd ["script", "at", "drawn"] (spSymboled K) := by
  refine F.ok scSymboled (fun vs H Q E h => ?_) (fun cdv A outer s H vs Q E hr h => ?_)
  · obtain ⟨sc, ns, at_, p, l, n, aR, aY, B, ys, Tp, rfl, _⟩ := h
    rfl
  · obtain ⟨sc, ns, at_, p, l, n, aR, aY, B, ys, Tp, rfl, hSc, M, lT, TF, k⟩ := h
    have nd := scSymboled.nd
    have h1 := hr
    refine ⟨_, (pss_cons (ps_set (i := 3) nd rfl (Or.inl rfl) (pe_got G.digits h1 (by rfl) (pa_cons (pe_got G.cell h1 (by rfl) (pa_cons (pv 0) (pa_cons (pv 1) pa_nil))) (pa_cons (pe_lst (pa_cons pe_int (pa_cons pe_int pa_nil))) pa_nil))))
      (pss_cons (ps_setLc (i := 4) (own := [("rule", 11)]) (g := gName 11) (by rfl) nd rfl rfl (sw_true rfl rfl rfl (by decide +kernel)) (pi_list (pe_ix ix_list (pv 2) pe_int fun _ _ => rfl)) (blkOk_by (own := [("rule", 11)]) (N := nSymboled) (sc := defScope sSymboled) (by decide +kernel)) (fun _ _ _ _ _ => pg_name (i := 11) nd rfl (Or.inl rfl)) (fun _ _ _ _ _ => pts_one (pt_cmpR op_ne (pe_ix (r := rIxT K) ix_tup (pv 11) pe_int fun _ _ => rfl) pe_str (nomark _))) (fun _ _ _ _ _ => (pe_ix (r := rIxT K) ix_tup (pv 11) pe_int fun _ _ => rfl)))
      (pss_cons (ps_if (PW.pt (pw_or (pt_cmpR op_ne (pe_ix ix_list (pv 3) pe_int fun _ _ => rfl) pe_int (nomark _)) (pw_or1 (pt_cmpR op_eq (pe_callB call_len_seq (by rfl) T.len PySem.boot_len (pa_cons (pv 4) pa_nil)) pe_int (nomark _)))))
        (pss_one (ps_ret (pv 2)))
        pss_nil)
      (pss_cons (ps_set (i := 5) nd rfl (Or.inl rfl) (pe_callTy (call_list_of) (by rfl) T.list PyProof.Rows.Boot.list (pa_cons (pe_ix ix_list (pv 2) pe_int fun _ _ => rfl) pa_nil)))
      (pss_cons (ps_for PassesOwn.never rfl (pi_range1 (by rfl) T.range (pa_cons (pe_op op_add pe_int (pe_ix ix_list (pv 3) pe_int fun _ _ => rfl)) pa_nil)) (pg_name (i := 6) nd rfl (Or.inl rfl))
        (pss_cons (ps_set (i := 7) nd rfl (Or.inr rfl) (pe_ix ix_list (pv 4) (pe_op op_mod (pv 6) (pe_callB call_len_seq (by rfl) T.len PySem.boot_len (pa_cons (pv 4) pa_nil))) fun _ _ => rfl))
        (pss_cons (ps_set (i := 8) nd rfl (Or.inr rfl) (pe_ix ix_list (pe_lst (pa_cons pe_str (pa_cons pe_str (pa_cons pe_str (pa_cons pe_str (pa_cons pe_str (pa_cons pe_str pa_nil))))))) (pv 6) fun _ _ => rfl))
        (pss_cons (ps_setLc (i := 9) (own := [("rule", 11)]) (g := gName 11) (by rfl) nd rfl rfl (sw_true rfl rfl rfl (by decide +kernel)) (pi_list (pv 5)) (blkOk_by (own := [("rule", 11)]) (N := nSymboled) (sc := defScope sSymboled) (by decide +kernel)) (fun _ _ _ _ _ => pg_name (i := 11) nd rfl (Or.inl rfl)) (fun _ _ _ _ _ => pts_one (pt_cmpR op_eq (pe_ix (r := rIxT K) ix_tup (pv 11) pe_int fun _ _ => rfl) (pv 7) (nomark _))) (fun _ _ _ _ _ => (pe_op (r := rCatT K) op_catT (pe_tup (pa_cons (pe_ix (r := rIxT K) ix_tup (pv 11) pe_int fun _ _ => rfl) (pa_cons (pe_ix (r := rIxT K) ix_tup (pv 11) pe_int fun _ _ => rfl) (pa_cons (pv 8) pa_nil)))) (pe_slice (r := rSlT K) sl_tup (pv 11) (po_some pe_int) po_none))))
        (pss_cons (ps_for PassesOwn.never rfl (pi_range1 (by rfl) T.range (pa_cons (pe_callB call_len_seq (by rfl) T.len PySem.boot_len (pa_cons (pv 5) pa_nil)) pa_nil)) (pg_name (i := 10) nd rfl (Or.inl rfl))
          (pss_one (ps_if (PW.pt (pw_and (pt_cmpR op_eq (pe_ix ix_tup (pe_ix ix_list (pv 5) (pv 10) fun _ _ => rfl) pe_int fun _ _ => rfl) (pv 7) (nomark _)) (pw_and1 (pt_cmpR op_eq (pe_op op_mod (pe_callTy call_int1 (by rfl) T.int PyProof.Rows.Boot.int (pa_cons (pe_op op_add (pv 10) (pv 6)) pa_nil)) pe_int) pe_int (nomark _)))))
            (pss_one (ps_asg (pe_op op_catT (pe_op op_catT (pe_slice sl_tup (pe_ix ix_list (pv 5) (pv 10) fun _ _ => rfl) po_none (po_some pe_int)) (pe_tup (pa_cons (pv 8) pa_nil))) (pe_slice sl_tup (pe_ix ix_list (pv 5) (pv 10) fun _ _ => rfl) (po_some pe_int) po_none)) (pg_sub (pv 5) (pv 10) set_list)))
            pss_nil)))
        (pss_one (ps_set (i := 5) nd rfl (Or.inl rfl) (pe_op op_cat (pv 5) (pv 9)))))))))
      (pss_one (ps_ret (pe_lst (pa_cons (pe_ix ix_list (pv 2) pe_int fun _ _ => rfl) (pa_cons (pe_ix ix_list (pv 2) pe_int fun _ _ => rfl) (pa_cons (pv 5) (pa_cons (pe_ix ix_list (pv 2) pe_int fun _ _ => rfl) pa_nil)))))))))))), ?_⟩
    refine ⟨_, rfl, _, rfl, sc, ns, at_, rfl, hSc, fun z0 => ⟨show 2 ≤ sizeLine by decide, fun q nq => ⟨z0, q, [16, 6], rfl, SqL.of upd_same, by decide, by decide, fun row aD H1 dg np s1 hrow => ?_⟩⟩⟩
    have sA : Same H H1 := (same_new nq).trans s1
    clear s1 np nq
    have M1 := M.mono sA
    have rowAt : ∀ {j : Nat} {d : Nat}, row[j]? = some (d : Int) → atI (row.map V.int) (j : Int) = some (V.int d) := fun {j d} e => atI_nat (by rw [List.getElem?_map, e]; rfl)
    have dig : ∀ (j : Nat) (t : Int), ([16, 6] : List Int)[j]? = some t → ∃ d : Nat, row[j]? = some (d : Int) ∧ (d : Int) < t := fun j t e => by
      obtain ⟨d, e1, e2, e3⟩ := dg.2 j t e
      exact ⟨d.toNat, by rw [e1, Int.toNat_of_nonneg e2], by rw [Int.toNat_of_nonneg e2]; exact e3⟩
    obtain ⟨d0, e0, b0⟩ := dig 0 16 rfl
    obtain ⟨d1, e1, b1⟩ := dig 1 6 rfl
    have lB : (refsK B).length = B.length := List.length_map ..
    have fewB := M.few
    have szB : B.length < sizeLine := Nat.lt_of_le_of_lt (show B.length ≤ 1400 by omega) (by decide)
    -- the symbols
    refine ⟨_, rfl, p, _, _, _, rfl, rfl, SqL.of M1.at_, rfl, aR, rfl, ⟨_, SqL.of M1.rs⟩, fun Df nDf => lc_list (K := K) (a := aR) (xs := refsK B) (fun i H' => Same H1 H' ∧ ∃ fs : List PySem.Str, H' Df = some (.lst (fs.map V.str)) ∧ fs.length ≤ i ∧ ∀ x ∈ fs, x ≠ nil0) ⟨same_new nDf, [], upd_same, Nat.zero_le _, fun x m => absurd m List.not_mem_nil⟩ (fun i H' _ h => SqL.of (h.1 _ _ M1.rs)) ?_ ?_⟩
    · rintro i v H2 hi ⟨s2, fs, hfs, lfs, nfs⟩
      obtain ⟨r, er, rfl⟩ := at_refs hi
      have mr := List.mem_of_getElem? er
      have hr2 := s2 _ _ (M1.kept r mr)
      have hi2 : i < B.length := (List.getElem?_eq_some_iff.mp er).1
      refine ⟨rfl, ?_⟩
      refine ⟨_, rfl, r.1, r.2.vs, 6, .str r.2.sy, rfl, rfl, .inl (.inl hr2), rfl, rfl, _, rfl, ite2 (fun ce => ?_) (fun _ => ⟨s2, fs, hfs, by omega, nfs⟩)⟩
      refine ⟨_, rfl, r.1, r.2.vs, 6, .str r.2.sy, rfl, rfl, .inl (.inl hr2), rfl, _, hfs, ?_, same_mut s2 nDf, fs ++ [r.2.sy], ?_, ?_, fun x m => ?_⟩
      · rw [List.length_map]
        omega
      · rw [upd_same, List.map_append] <;> rfl
      · rw [List.length_append]
        show fs.length + 1 ≤ i + 1
        omega
      · rcases List.mem_append.mp m with m | m
        · exact nfs x m
        · rw [List.mem_singleton.mp m]
          intro e
          rw [e, decide_eq_true rfl] at ce
          cases ce
    rintro H2 ⟨s2, fs, hfs, lfs, nfs⟩
    have M2 := M1.mono s2
    have hrow2 := s2 _ _ hrow
    have toAll : ∀ t ∈ Tp, t ∈ Tp ++ freshL := fun t m => List.mem_append_left _ m
    have back : Q (.ref p) H2 := k p H2 aR B (sA.trans s2) (M2.old_more toAll)
    refine ⟨_, rfl, aD, _, _, _, rfl, rfl, SqL.of hrow2, rowAt (j := 0) e0, rfl, _, rfl, ite2 (fun _ => iteT ⟨_, rfl, back⟩) (fun _ => ?_)⟩
    refine ⟨_, rfl, Df, _, rfl, .inl (SqL.of hfs), rfl, _, rfl, ite2 (fun _ => ⟨_, rfl, back⟩) (fun cf => ?_)⟩
    have lf : (fs.map V.str).length = fs.length := List.length_map ..
    have pf : 0 < fs.length := by
      rw [lf] at cf
      exact Nat.pos_of_ne_zero fun z => cf (decide_eq_true (by rw [z] <;> rfl))
    have lBf : fs.length ≤ B.length := by rw [lB] at lfs; exact lfs
    refine ⟨_, rfl, p, _, _, _, rfl, rfl, SqL.of M2.at_, rfl, aR, _, rfl, .inl (SqL.of M2.rs), fun q nq => ?_⟩
    have tq := same_new (o := HO.lst (refsK B)) nq
    refine ⟨_, rfl, aD, _, _, _, rfl, rfl, SqL.of (tq _ _ hrow2), rowAt (j := 1) e1, _, _, rfl, rfl, _, rfl, by omega, by omega, for_range (lo := 0) (n := (1 + (d1 : Int)).toNat) (fun i σ H' => ∃ (a' : Addr) (Bk : Kept) (e6 e7 e8 e9 e10 : Option V), σ = [some (.ref sc), some (.int (at_ : Int)), some (.ref p), some (.ref aD), some (.ref Df), some (.ref a'), e6, e7, e8, e9, e10, none] ∧ Same H2 H' ∧ H2 a' = none ∧ H' a' = some (.lst (refsK Bk)) ∧ KeptAt H' Bk ∧ (∀ q ∈ Bk, RlOk l n q.2) ∧ (Bk.map fun p => p.2.k3).Nodup ∧ ∀ q ∈ Bk, q.2.tp ∈ Tp ++ freshL.take i)
      ⟨q, B, none, none, none, none, none, rfl, tq, nq, upd_same, fun x m => tq _ _ (M2.kept x m), M.ok, M.nd, fun x m => List.mem_append_left _ (M.old x m)⟩ ?_ ?_⟩
    rotate_left
    · rintro σ H3 ⟨a', Bk, e6, e7, e8, e9, e10, rfl, s3, na', hR3, kB, okB, ndB, oldB⟩
      have M3 := M2.mono s3
      refine ⟨_, rfl, p, _, _, _, rfl, rfl, SqL.of M3.at_, rfl, _, rfl, p, _, _, _, rfl, rfl, SqL.of M3.at_, rfl, _, rfl, _, rfl, p, _, _, _, rfl, rfl, SqL.of M3.at_, rfl, show 4 ≤ sizeLine by decide, fun u nu => ?_⟩
      have tu := same_new (o := HO.lst [V.str l, V.int n, V.ref a', V.ref aY]) nu
      exact k u _ a' Bk (((sA.trans s2).trans s3).trans tu) ⟨upd_same, M.al, M.n1, M.n5, tu _ _ hR3, fun x m => tu _ _ (kB x m), okB, ndB, fun x m => (List.mem_append.mp (oldB x m)).elim (fun h => List.mem_append_left _ h) fun h => List.mem_append_right _ (List.mem_of_mem_take h), tu _ _ M3.hy, M.yok, M.lys⟩
    · rintro i σ H3 hi ⟨a', Bk, e6, e7, e8, e9, e10, rfl, s3, na', hR3, kB, okB, ndB, oldB⟩
      have M3 := M2.mono s3
      have hf3 := s3 _ _ hfs
      have hi6 : i < 6 := by omega
      obtain ⟨fr, efr, mfr, nfr⟩ := freshL_at hi6
      have sfr := freshL_sym fr mfr
      have fewK := kept_few M.al M.n5 okB oldB ndB
      rw [List.length_append, List.length_take] at fewK
      have lfL : freshL.length = 6 := rfl
      have fewK' : Bk.length ≤ 1400 := by omega
      -- base
      obtain ⟨bs, eb, mb⟩ : ∃ b, atI (fs.map V.str) ((0 + (i : Int)) % ((fs.map V.str).length : Int)) = some (.str b) ∧ b ∈ fs := by
        rw [lf]
        have g0 := Int.emod_nonneg (0 + (i : Int)) (b := (fs.length : Int)) (by omega)
        have g1 := Int.emod_lt_of_pos (0 + (i : Int)) (b := (fs.length : Int)) (by omega)
        obtain ⟨z, ez⟩ : ∃ z : Nat, (0 + (i : Int)) % (fs.length : Int) = (z : Int) := ⟨((0 + (i : Int)) % (fs.length : Int)).toNat, by omega⟩
        rw [ez] at g1 ⊢
        have e : fs[z]? = some fs[z] := List.getElem?_eq_getElem (by omega)
        exact ⟨fs[z], atI_nat (by rw [List.getElem?_map, e] <;> rfl), List.getElem_mem _⟩
      have nbs := nfs bs mb
      refine ⟨_, rfl, _, rfl, _, rfl, Df, _, rfl, .inl (SqL.of hf3), _, _, rfl, rfl, (by rw [lf]; omega : (0 : Int) < ((fs.map V.str).length : Int)), Df, _, _, .str bs, rfl, rfl, SqL.of hf3, eb, ?_⟩
      refine ⟨show 6 ≤ sizeLine by decide, fun u nu => ?_⟩
      have tu := same_new (o := HO.lst (freshL.map V.str)) nu
      have au : atI (freshL.map V.str) (0 + (i : Int)) = some (.str fr) := by
        rw [show (0 : Int) + (i : Int) = ((i : Nat) : Int) by omega]
        exact atI_nat (by rw [List.getElem?_map, efr] <;> rfl)
      refine ⟨_, rfl, u, _, _, .str fr, rfl, rfl, SqL.of upd_same, au, ?_⟩
      have hu : (upd H3 u (.lst (freshL.map V.str))) u = some (.lst (freshL.map V.str)) := upd_same
      dsimp only [gName]
      show (tSeq _ _) _ _ (upd H3 u (.lst (freshL.map V.str)))
      generalize upd H3 u (.lst (freshL.map V.str)) = H4 at tu hu ⊢
      have s4 := s3.trans tu
      have hR4 := tu _ _ hR3
      have kB4 : KeptAt H4 Bk := fun x m => tu _ _ (kB x m)
      have lK : (refsK Bk).length = Bk.length := List.length_map ..
      -- the twins
      refine ⟨_, rfl, a', rfl, ⟨_, SqL.of hR4⟩, fun D nD => lc_list (K := K) (a := a') (xs := refsK Bk) (fun i H' => Same H4 H' ∧ ∃ N : Kept, H' D = some (.lst (refsK N)) ∧ KeptAt H' N ∧ N.map (·.2) = (ofT bs (Bk.take i)).map fun q => twinT fr q.2) ⟨same_new nD, [], upd_same, fun x m => absurd m List.not_mem_nil, rfl⟩ (fun i H' _ h => SqL.of (h.1 _ _ hR4)) ?_ ?_⟩
      · rintro i' v H5 hi' ⟨s5, N, hN, kN, eN⟩
        obtain ⟨r, er, rfl⟩ := at_refs hi'
        have mr := List.mem_of_getElem? er
        have hr5 := s5 _ _ (kB4 r mr)
        refine ⟨rfl, ?_⟩
        have snoc := ofT_snoc bs (Bk.take i') r
        rw [← take_at er] at snoc
        refine ⟨_, rfl, r.1, r.2.vs, 2, .str r.2.tp, rfl, rfl, .inl (.inl hr5), rfl, _, rfl, rfl, _, rfl, ite2 (fun ce => ?_) (fun cn => ?_)⟩
        rotate_left
        · refine ⟨s5, N, hN, kN, ?_⟩
          rw [snoc, if_neg fun e => cn (decide_eq_true (by rw [e])), List.append_nil]
          exact eN
        have etp : r.2.tp = bs := V.str.inj (of_decide_eq_true ce)
        rw [if_pos etp] at snoc
        refine ⟨_, rfl, r.1, r.2.vs, 0, .int r.2.st, rfl, rfl, .inl (.inl hr5), rfl, _, rfl, r.1, r.2.vs, 1, .str r.2.sg, rfl, rfl, .inl (.inl hr5), rfl, _, rfl, show 3 ≤ sizeLine by decide, fun u1 nu1 => ?_⟩
        have t1 := same_new (o := HO.tup [V.int r.2.st, V.str r.2.sg, V.str fr]) nu1
        refine ⟨_, rfl, 3, rfl, r.1, r.2.vs, rfl, .inl (.inl (t1 _ _ hr5)), (by show ¬ (HT.sIx 8 0 (some 3) = 0 ∧ HT.sIx 8 8 none = 8); decide), fun v nv => ?_⟩
        have t2 := same_new (o := HO.tup (cutV r.2.vs (some 3) none)) nv
        refine ⟨u1, v, _, _, rfl, rfl, .inl (.inl (t2 _ _ upd_same)), .inl (.inl upd_same), (fun e => by cases e), show 8 ≤ sizeLine by decide, (fun e => by
          have e : [V.int r.2.af, V.int r.2.mv, V.str r.2.de, V.str r.2.sy, V.str r.2.sa] = [] := e
          cases e), fun _ t nt => ?_⟩
        have t3 := same_new (o := HO.tup (twinT fr r.2).vs) nt
        have s7 := (t1.trans t2).trans t3
        have ht : (upd (upd (upd H5 u1 (.tup [V.int r.2.st, V.str r.2.sg, V.str fr])) v (.tup (cutV r.2.vs (some 3) none))) t (.tup (twinT fr r.2).vs)) t = some (.tup (twinT fr r.2).vs) := upd_same
        refine ⟨_, s7 _ _ hN, ?_, same_mut (s5.trans s7) nD, N ++ [(t, twinT fr r.2)], ?_, fun z m => ?_, ?_⟩
        · have e1 : (refsK N).length = N.length := List.length_map ..
          have e2 : N.length = ((ofT bs (Bk.take i')).map fun q => twinT fr q.2).length := by rw [← eN, List.length_map]
          rw [List.length_map] at e2
          have e3 : (ofT bs (Bk.take i')).length ≤ (Bk.take i').length := List.length_filter_le _ _
          rw [List.length_take] at e3
          exact Nat.lt_of_le_of_lt (show (refsK N).length ≤ 1400 by omega) (by decide)
        · rw [upd_same]
          unfold refsK
          rw [List.map_append] <;> rfl
        · rcases List.mem_append.mp m with m | m
          · exact off_tup (s7 _ _ hN) (s7 _ _ (kN z m))
          · rw [List.mem_singleton.mp m]
            exact off_tup (s7 _ _ hN) ht
        · rw [List.map_append, eN, snoc, List.map_append] <;> rfl
      rintro H5 ⟨s5, N, hN, kN, eN⟩
      rw [lK, List.take_of_length_le (Nat.le_refl _)] at eN
      have okN : ∀ q ∈ N, ∃ t ∈ Bk, t.2.tp = bs ∧ q.2 = twinT fr t.2 := fun q m => by
        have m2 : q.2 ∈ N.map (·.2) := List.mem_map.mpr ⟨q, m, rfl⟩
        rw [eN] at m2
        obtain ⟨t, mt, e⟩ := List.mem_map.mp m2
        have mt' := List.mem_filter.mp mt
        exact ⟨t, mt'.1, of_decide_eq_true mt'.2, e.symm⟩
      have ndN : (N.map fun p => p.2.k3).Nodup := by
        have e : (N.map fun p => p.2.k3) = (N.map (·.2)).map Rl.k3 := by rw [List.map_map] <;> rfl
        rw [e, eN, List.map_map]
        exact ofT_keys Bk ndB
      have hR5 := s5 _ _ hR4
      have aD' : D ≠ a' := fun e => by
        rw [e, hR4] at nD
        cases nD
      -- the symbols put in
      refine ⟨_, rfl, a', _, rfl, .inl (SqL.of hR5), _, rfl, by rw [lK]; omega, by rw [lK]; omega, for_range (lo := 0) (n := (((refsK Bk).length : Nat) : Int).toNat) (fun j σ H' => ∃ (Bj : Kept) (e10 : Option V), σ = [some (.ref sc), some (.int (at_ : Int)), some (.ref p), some (.ref aD), some (.ref Df), some (.ref a'), some (.int (0 + (i : Int))), some (.str bs), some (.str fr), some (.ref D), e10, none] ∧ Same H2 H' ∧ H' a' = some (.lst (refsK Bj)) ∧ KeptAt H' Bj ∧ (∀ q ∈ Bj, RlOk l n q.2) ∧ (Bj.map fun p => p.2.k3) = (Bk.map fun p => p.2.k3) ∧ H' D = some (.lst (refsK N)) ∧ KeptAt H' N)
        ⟨Bk, e10, rfl, s4.trans s5, hR5, fun x m => s5 _ _ (kB4 x m), okB, rfl, hN, kN⟩ ?_ ?_⟩
      rotate_left
      · rintro σ H6 ⟨Bj, e10', rfl, s6, hR6, kB6, okB6, eK6, hN6, kN6⟩
        have lJ : Bj.length = Bk.length := by
          have e := congrArg List.length eK6
          rw [List.length_map, List.length_map] at e
          exact e
        have tps : ∀ q ∈ Bj, ∃ q' ∈ Bk, q'.2.tp = q.2.tp := fun q m => by
          have z : q.2.k3 ∈ Bj.map fun p => p.2.k3 := List.mem_map.mpr ⟨q, m, rfl⟩
          rw [eK6] at z
          obtain ⟨q', m', e⟩ := List.mem_map.mp z
          have e : [Sum.inl q'.2.st, Sum.inr q'.2.sg, Sum.inr q'.2.tp] = [Sum.inl q.2.st, Sum.inr q.2.sg, Sum.inr q.2.tp] := e
          injection e with h1 h2
          injection h2 with h2 h3
          injection h3 with h3 h4
          exact ⟨q', m', Sum.inr.inj h3⟩
        have tk : freshL.take (i + 1) = freshL.take i ++ [fr] := take_at efr
        have okA : ∀ q ∈ Bj ++ N, RlOk l n q.2 := fun q m => by
          rcases List.mem_append.mp m with m | m
          · exact okB6 q m
          · obtain ⟨t, mt, et, e⟩ := okN q m
            rw [e]
            exact twinT_ok (okB t mt) sfr et nbs
        have oldA : ∀ q ∈ Bj ++ N, q.2.tp ∈ Tp ++ freshL.take (i + 1) := fun q m => by
          rw [tk]
          rcases List.mem_append.mp m with m | m
          · obtain ⟨q', m', e⟩ := tps q m
            rw [← e]
            exact (List.mem_append.mp (oldB q' m')).elim (fun h => List.mem_append_left _ h) fun h => List.mem_append_right _ (List.mem_append_left _ h)
          · obtain ⟨t, mt, et, e⟩ := okN q m
            rw [e]
            exact List.mem_append_right _ (List.mem_append_right _ (List.mem_singleton.mpr rfl))
        have ndA : ((Bj ++ N).map fun p => p.2.k3).Nodup := by
          rw [List.map_append, List.nodup_append]
          refine ⟨by rw [eK6]; exact ndB, ndN, fun x mx y my e => ?_⟩
          obtain ⟨q, mq, rfl⟩ := List.mem_map.mp mx
          obtain ⟨q2, mq2, rfl⟩ := List.mem_map.mp my
          obtain ⟨t, mt, _, et⟩ := okN q2 mq2
          obtain ⟨q', m', e'⟩ := tps q mq
          rw [et] at e
          have e : [Sum.inl q.2.st, Sum.inr q.2.sg, Sum.inr q.2.tp] = [Sum.inl t.2.st, Sum.inr t.2.sg, Sum.inr fr] := e
          injection e with h1 h2
          injection h2 with h2 h3
          injection h3 with h3 h4
          rw [Sum.inr.inj h3] at e'
          have o := oldB q' m'
          rw [e'] at o
          rcases List.mem_append.mp o with o | o
          · exact TF _ o mfr
          · exact nfr o
        have lNK : N.length ≤ Bk.length := by
          have e := congrArg List.length eN
          rw [List.length_map, List.length_map] at e
          rw [e]
          exact List.length_filter_le _ _
        have lJ' : (refsK Bj).length = Bj.length := List.length_map ..
        have lNN : (refsK N).length = N.length := List.length_map ..
        refine ⟨_, rfl, _, rfl, a', D, refsK Bj, refsK N, rfl, rfl, hR6, hN6, ?_, fun b' nb' => ?_⟩
        · rw [lJ', lNN]
          exact Nat.le_trans (show _ ≤ 2800 by omega) (by decide)
        have tb := same_new (o := HO.lst (refsK Bj ++ refsK N)) nb'
        refine ⟨b', Bj ++ N, _, _, _, _, _, rfl, s6.trans tb, s6.free nb', ?_, fun z m => ?_, okA, ndA, oldA⟩
        · rw [upd_same]
          unfold refsK
          rw [List.map_append]
        · rcases List.mem_append.mp m with m | m
          · exact tb _ _ (kB6 z m)
          · exact tb _ _ (kN6 z m)
      · rintro j σ H6 hj ⟨Bj, e10', rfl, s6, hR6, kB6, okB6, eK6, hN6, kN6⟩
        have lJ : Bj.length = Bk.length := by
          have e := congrArg List.length eK6
          rw [List.length_map, List.length_map] at e
          exact e
        have hj' : j < Bj.length := by rw [lK] at hj; omega
        have er : Bj[j]? = some Bj[j] := List.getElem?_eq_getElem hj'
        generalize Bj[j] = r at er
        have mr := List.mem_of_getElem? er
        have hr6 := kB6 r mr
        have atj : atI (refsK Bj) (0 + (j : Int)) = some (.ref r.1) := by
          rw [show (0 : Int) + (j : Int) = ((j : Nat) : Int) by omega]
          exact atI_nat (by unfold refsK; rw [List.getElem?_map, er] <;> rfl)
        refine ⟨_, rfl, _, rfl, a', _, _, .ref r.1, rfl, rfl, SqL.of hR6, atj, r.1, r.2.vs, 6, .str r.2.sy, rfl, rfl, .inl (.inl hr6), rfl, _, rfl, rfl, _, rfl, ite2 (fun ce => ?_) (fun _ => iteF ⟨Bj, _, rfl, s6, hR6, kB6, okB6, eK6, hN6, kN6⟩)⟩
        have esy : r.2.sy = bs := V.str.inj (of_decide_eq_true ce)
        refine ⟨_, rfl, _, rfl, _, _, rfl, rfl, .inl ⟨_, rfl, _, _, rfl, rfl, (by show (0 : Int) < 2; decide), rfl, _, rfl, ite2 (fun _ => ?_) (fun _ => ⟨Bj, _, rfl, s6, hR6, kB6, okB6, eK6, hN6, kN6⟩)⟩⟩
        refine ⟨_, rfl, _, rfl, a', _, _, .ref r.1, rfl, rfl, SqL.of hR6, atj, 6, rfl, r.1, r.2.vs, rfl, .inl (.inl hr6), (by show ¬ (HT.sIx 8 0 none = 0 ∧ HT.sIx 8 8 (some 6) = 8); decide), fun u nu => ?_⟩
        have t1 := same_new (o := HO.tup (cutV r.2.vs none (some 6))) nu
        refine ⟨_, rfl, show 1 ≤ sizeLine by decide, fun v nv => ?_⟩
        have t2 := same_new (o := HO.tup [V.str fr]) nv
        refine ⟨u, v, _, _, rfl, rfl, .inl (.inl (t2 _ _ upd_same)), .inl (.inl upd_same), (fun e => by
          have e : [V.int r.2.st, V.str r.2.sg, V.str r.2.tp, V.int r.2.af, V.int r.2.mv, V.str r.2.de] = [] := e
          cases e), show 7 ≤ sizeLine by decide, (fun e => by cases e), fun _ x nx => ?_⟩
        have t3 := same_new (o := HO.tup (cutV r.2.vs none (some 6) ++ [V.str fr])) nx
        have t13 := (t1.trans t2).trans t3
        refine ⟨_, rfl, _, rfl, a', _, _, .ref r.1, rfl, rfl, SqL.of (t13 _ _ hR6), atj, 7, rfl, r.1, r.2.vs, rfl, .inl (.inl (t13 _ _ hr6)), (by show ¬ (HT.sIx 8 0 (some 7) = 0 ∧ HT.sIx 8 8 none = 8); decide), fun y ny => ?_⟩
        have t4 := same_new (o := HO.tup (cutV r.2.vs (some 7) none)) ny
        refine ⟨x, y, _, _, rfl, rfl, .inl (.inl (t4 _ _ upd_same)), .inl (.inl upd_same), (fun e => by
          have e : [V.int r.2.st, V.str r.2.sg, V.str r.2.tp, V.int r.2.af, V.int r.2.mv, V.str r.2.de, V.str fr] = [] := e
          cases e), show 8 ≤ sizeLine by decide, (fun e => by
          have e : [V.str r.2.sa] = [] := e
          cases e), fun _ t nt => ?_⟩
        have t5 := same_new (o := HO.tup (twinY fr r.2).vs) nt
        have s7 := (t13.trans t4).trans t5
        have hR7 := s7 _ _ hR6
        refine ⟨_, rfl, _, rfl, a', refsK Bj, _, j, rfl, rfl, hR7, ?_, ?_⟩
        · rw [show (0 : Int) + (j : Int) = ((j : Nat) : Int) by omega]
          exact Evl.ixN_nat (by show j < (List.map _ Bj).length; rw [List.length_map]; exact hj')
        · refine ⟨Bj.set j (t, twinY fr r.2), _, rfl, same_mut (s6.trans s7) na', ?_, fun z m => ?_, fun z m => ?_, ?_, ?_, fun z m => ?_⟩
          · rw [upd_same]
            unfold refsK
            rw [List.map_set]
          · rcases List.mem_or_eq_of_mem_set m with m | e
            · exact off_tup hR7 (s7 _ _ (kB6 z m))
            · rw [e]
              exact off_tup hR7 upd_same
          · rcases List.mem_or_eq_of_mem_set m with m | e
            · exact okB6 z m
            · rw [e]
              exact twinY_ok (okB6 r mr) sfr esy nbs
          · rw [List.map_set, ← eK6]
            have e2 : (Bj.map fun p => p.2.k3)[j]? = some (twinY fr r.2).k3 := by rw [List.getElem?_map, er] <;> rfl
            obtain ⟨h, e3⟩ := List.getElem?_eq_some_iff.mp e2
            show (Bj.map fun p => p.2.k3).set j (twinY fr r.2).k3 = _
            rw [← e3, List.set_getElem_self]
          · rw [upd_ne aD']
            exact s7 _ _ hN6
          · exact off_tup hR7 (s7 _ _ (kN6 z m))
end
end Mk

set_option Elab.async false
set_option linter.unusedVariables false
set_option maxRecDepth 100000
set_option maxHeartbeats 8000000
namespace Mk
open PySem L2 Pk
/-! runs of a plain machine, on paper -/
structure Std where
  q : Int
  p : Int
  st : List PySem.Str
def signAt (t : PySem.Str) (p : Int) : PySem.Str := if p = 0 then lt0 else if p > (t.length : Int) then gt0 else sgn1 (t.cps.toList.getD (p - 1).toNat 0)
def topOf (st : List PySem.Str) : PySem.Str := st.getLastD nil0
def keyOf (t : PySem.Str) (x : Std) : List Key := [.inl x.q, .inr (signAt t x.p), .inr (topOf x.st)]
def find (rs : List Rl) (k : List Key) : Option Rl := rs.find? fun r => decide (r.k3 = k)
def isPop (d : PySem.Str) : Bool := decide (d = pop0) || decide (d = swap0)
def isPush (d : PySem.Str) : Bool := decide (d = push0) || decide (d = swap0)
def cutS1 (r : Rl) (st : List PySem.Str) : List PySem.Str := if isPop r.de = true then st.dropLast else st
def nextSt (r : Rl) (st : List PySem.Str) : List PySem.Str := if isPush r.de = true then cutS1 r st ++ [r.sy] else cutS1 r st
def next (x : Std) (r : Rl) : Std := ⟨r.af, x.p + r.mv, nextSt r x.st⟩
def fit (rs : List Rl) (t : PySem.Str) (x : Std) : Option Rl := find rs (keyOf t x)
def nth (rs : List Rl) (t : PySem.Str) (s : Std) : Nat → Option Std
  | 0 => some s
  | n + 1 => (nth rs t s n).bind fun x => (fit rs t x).map (next x)
def sd (rs : List Rl) (t : PySem.Str) (s : Std) : Nat → List PySem.Str
  | 0 => []
  | n + 1 => sd rs t s n ++ (match (nth rs t s n).bind (fit rs t) with | some r => [r.sa] | none => [])
theorem find_none {rs : List Rl} {k : List Key} (h : find rs k = none) : ∀ r ∈ rs, r.k3 ≠ k := fun r m e => by
  have z := List.find?_eq_none.mp h r m
  exact z (decide_eq_true e)
theorem find_some {rs : List Rl} {k : List Key} {r : Rl} (h : find rs k = some r) : r ∈ rs ∧ r.k3 = k :=
  ⟨List.mem_of_find?_eq_some h, of_decide_eq_true (List.find?_some (p := fun r : Rl => decide (r.k3 = k)) h)⟩
theorem inj_of_nodup {α β : Type} {f : α → β} : ∀ {l : List α}, (l.map f).Nodup → ∀ {x y : α}, x ∈ l → y ∈ l → f x = f y → x = y
  | [], _, _, _, m, _, _ => absurd m List.not_mem_nil
  | a :: l, nd, x, y, mx, my, e => by
    rw [List.map_cons] at nd
    have n := List.nodup_cons.mp nd
    rcases List.mem_cons.mp mx with ex | mx <;> rcases List.mem_cons.mp my with ey | my
    · rw [ex, ey]
    · exact absurd (List.mem_map.mpr ⟨y, my, by rw [← e, ex]⟩) n.1
    · exact absurd (List.mem_map.mpr ⟨x, mx, by rw [e, ey]⟩) n.1
    · exact inj_of_nodup n.2 mx my e
theorem find_of {rs : List Rl} {k : List Key} {r : Rl} (nd : (rs.map Rl.k3).Nodup) (m : r ∈ rs) (e : r.k3 = k) : find rs k = some r := by
  cases h : find rs k with
  | none => exact absurd e (find_none h r m)
  | some q =>
    obtain ⟨mq, eq⟩ := find_some h
    rw [inj_of_nodup nd mq m (eq.trans e.symm)]
theorem nth_succ {rs : List Rl} {t : PySem.Str} {s x : Std} {n : Nat} (h : nth rs t s n = some x) : nth rs t s (n + 1) = (fit rs t x).map (next x) := by
  show (nth rs t s n).bind _ = _
  rw [h] <;> rfl
theorem nth_step {rs : List Rl} {t : PySem.Str} {s x : Std} {n : Nat} {r : Rl} (h : nth rs t s n = some x) (e : fit rs t x = some r) : nth rs t s (n + 1) = some (next x r) := by
  rw [nth_succ h, e] <;> rfl
theorem nth_stop {rs : List Rl} {t : PySem.Str} {s x : Std} {n : Nat} (h : nth rs t s n = some x) (e : fit rs t x = none) : nth rs t s (n + 1) = none := by
  rw [nth_succ h, e] <;> rfl
theorem nth_none {rs : List Rl} {t : PySem.Str} {s : Std} {n : Nat} (h : nth rs t s n = none) : ∀ {m : Nat}, n ≤ m → nth rs t s m = none := by
  intro m le
  induction le with
  | refl => exact h
  | step _ ih =>
    show (nth rs t s _).bind _ = none
    rw [ih] <;> rfl
theorem nth_some {rs : List Rl} {t : PySem.Str} {s x : Std} {n m : Nat} (h : nth rs t s n = some x) (le : m ≤ n) : ∃ y, nth rs t s m = some y := by
  cases e : nth rs t s m with
  | none => rw [nth_none e le] at h; cases h
  | some y => exact ⟨y, rfl⟩
theorem nth_fit {rs : List Rl} {t : PySem.Str} {s x : Std} {n m : Nat} (h : nth rs t s n = some x) (lt : m < n) : ∃ y r, nth rs t s m = some y ∧ fit rs t y = some r := by
  obtain ⟨y, hy⟩ := nth_some h (Nat.le_of_lt lt)
  obtain ⟨z, hz⟩ := nth_some h (show m + 1 ≤ n from lt)
  cases e : fit rs t y with
  | none => rw [nth_stop hy e] at hz; cases hz
  | some r => exact ⟨y, r, hy, e⟩
theorem nth_add {rs : List Rl} {t : PySem.Str} {s x : Std} {a : Nat} (h : nth rs t s a = some x) : ∀ j, nth rs t s (a + j) = nth rs t x j
  | 0 => h
  | j + 1 => by
    show (nth rs t s (a + j)).bind _ = (nth rs t x j).bind _
    rw [nth_add h j]
theorem sd_step {rs : List Rl} {t : PySem.Str} {s x : Std} {n : Nat} {r : Rl} (h : nth rs t s n = some x) (e : fit rs t x = some r) : sd rs t s (n + 1) = sd rs t s n ++ [r.sa] := by
  show sd rs t s n ++ (match (nth rs t s n).bind (fit rs t) with | some r => [r.sa] | none => []) = _
  rw [h, Option.bind_some, e]
theorem sd_len {rs : List Rl} {t : PySem.Str} {s : Std} : ∀ {n : Nat} {x : Std}, nth rs t s n = some x → (sd rs t s n).length = n
  | 0, _, _ => rfl
  | n + 1, x, h => by
    obtain ⟨y, r, hy, e⟩ := nth_fit h (Nat.lt_succ_self n)
    rw [sd_step hy e, List.length_append, sd_len hy] <;> rfl
theorem sd_take {rs : List Rl} {t : PySem.Str} {s x : Std} {n : Nat} (h : nth rs t s n = some x) : ∀ {m : Nat}, m ≤ n → (sd rs t s n).take m = sd rs t s m := by
  induction n generalizing x with
  | zero =>
    intro m le
    have : m = 0 := by omega
    subst this
    rfl
  | succ n ih =>
    intro m le
    obtain ⟨y, r, hy, e⟩ := nth_fit h (Nat.lt_succ_self n)
    by_cases c : m = n + 1
    · rw [c, List.take_of_length_le (by rw [sd_len h]; exact Nat.le_refl _)]
    · rw [sd_step hy e, List.take_append_of_le_length (by rw [sd_len hy]; omega)]
      exact ih hy (by omega)
theorem sd_add {rs : List Rl} {t : PySem.Str} {s x : Std} {a : Nat} (h : nth rs t s a = some x) : ∀ {j : Nat} {y : Std}, nth rs t x j = some y → sd rs t s (a + j) = sd rs t s a ++ sd rs t x j
  | 0, _, _ => by
    show sd rs t s a = sd rs t s a ++ []
    rw [List.append_nil]
  | j + 1, y, hy => by
    obtain ⟨z, r, hz, e⟩ := nth_fit hy (Nat.lt_succ_self j)
    rw [show a + (j + 1) = (a + j) + 1 from rfl, sd_step ((nth_add h j).trans hz) e, sd_step hz e, sd_add h hz, List.append_assoc]
/-- a standing that may be handed to the machine -/
structure StdOk (l : PySem.Str) (n : Int) (t : PySem.Str) (ss : List PySem.Str) (x : Std) : Prop where
  q : 0 ≤ x.q ∧ x.q ≤ n - 1
  p : 0 ≤ x.p ∧ x.p ≤ (t.length : Int) + 1
  st : ∀ y ∈ x.st, y ∈ ss
theorem top_nil : topOf [] = nil0 := rfl
theorem top_snoc (st : List PySem.Str) (y : PySem.Str) : topOf (st ++ [y]) = y := by
  unfold topOf
  rw [List.getLastD_eq_getLast?, List.getLast?_concat] <;> rfl
theorem StdOk.next {l t : PySem.Str} {n : Int} {ss : List PySem.Str} {x : Std} {rs : List Rl} {r : Rl} (h : StdOk l n t ss x) (ok : ∀ r ∈ rs, RlOk l n r) (hs : ∀ r ∈ rs, r.sy ≠ nil0 → r.sy ∈ ss) (e : fit rs t x = some r) : StdOk l n t ss (next x r) := by
  obtain ⟨m, ek⟩ := find_some e
  have o := ok r m
  have ek' : [Sum.inl r.st, Sum.inr r.sg, Sum.inr r.tp] = [Sum.inl x.q, Sum.inr (signAt t x.p), Sum.inr (topOf x.st)] := ek
  injection ek' with e1 e2
  injection e2 with e2 e3
  have esg : r.sg = signAt t x.p := Sum.inr.inj e2
  refine ⟨o.af, ?_, fun y m' => ?_⟩
  · have lo := o.mv.lo
    have hi := o.mv.hi
    show 0 ≤ x.p + r.mv ∧ x.p + r.mv ≤ _
    have p0 := h.p
    constructor
    · by_cases c : x.p = 0
      · have : r.mv ≠ -1 := o.mv.l (by rw [esg]; unfold signAt; rw [if_pos c])
        omega
      · omega
    · by_cases c : x.p > (t.length : Int)
      · have : r.mv ≠ 1 := o.mv.r (by rw [esg]; unfold signAt; rw [if_neg (by omega), if_pos c])
        omega
      · omega
  · have sub : ∀ y ∈ cutS1 r x.st, y ∈ x.st := fun y m => by
      unfold cutS1 at m
      split at m
      · exact List.dropLast_subset _ m
      · exact m
    have m' : y ∈ nextSt r x.st := m'
    unfold nextSt at m'
    split at m'
    · rename_i c
      rcases List.mem_append.mp m' with m' | m'
      · exact h.st y (sub y m')
      · rw [List.mem_singleton.mp m']
        refine hs r m fun z => ?_
        unfold isPush at c
        rw [Bool.or_eq_true, decide_eq_true_eq, decide_eq_true_eq] at c
        have := o.de.sym c
        exact sym_ne this z
    · exact h.st y (sub y m')
theorem nth_ok {l t : PySem.Str} {n : Int} {ss : List PySem.Str} {s : Std} {rs : List Rl} (h : StdOk l n t ss s) (ok : ∀ r ∈ rs, RlOk l n r) (hs : ∀ r ∈ rs, r.sy ≠ nil0 → r.sy ∈ ss) : ∀ {k : Nat} {x : Std}, nth rs t s k = some x → StdOk l n t ss x
  | 0, x, e => by
    have : s = x := Option.some.inj e
    rw [← this]
    exact h
  | k + 1, x, e => by
    obtain ⟨y, r, hy, ef⟩ := nth_fit e (Nat.lt_succ_self k)
    rw [nth_step hy ef] at e
    rw [← Option.some.inj e]
    exact (nth_ok h ok hs hy).next ok hs ef
theorem next_len (x : Std) (r : Rl) : (next x r).st.length ≤ x.st.length + 1 := by
  show (nextSt r x.st).length ≤ _
  have z : (cutS1 r x.st).length ≤ x.st.length := by
    unfold cutS1
    split
    · rw [List.length_dropLast]; omega
    · exact Nat.le_refl _
  unfold nextSt
  split
  · rw [List.length_append]
    show _ + 1 ≤ _
    omega
  · omega
theorem nth_len {t : PySem.Str} {s : Std} {rs : List Rl} : ∀ {k : Nat} {x : Std}, nth rs t s k = some x → x.st.length ≤ s.st.length + k
  | 0, x, e => by
    have : s = x := Option.some.inj e
    rw [← this]
    exact Nat.le_refl _
  | k + 1, x, e => by
    obtain ⟨y, r, hy, ef⟩ := nth_fit e (Nat.lt_succ_self k)
    rw [nth_step hy ef] at e
    rw [← Option.some.inj e]
    have := next_len y r
    have := nth_len hy
    omega
/-- what is taken off stands there -/
theorem pop_ne {l t : PySem.Str} {n : Int} {x : Std} {rs : List Rl} {r : Rl} (ok : ∀ r ∈ rs, RlOk l n r) (e : fit rs t x = some r) (h : isPop r.de = true) : x.st ≠ [] := fun z => by
  obtain ⟨m, ek⟩ := find_some e
  have o := ok r m
  have ek' : [Sum.inl r.st, Sum.inr r.sg, Sum.inr r.tp] = [Sum.inl x.q, Sum.inr (signAt t x.p), Sum.inr (topOf x.st)] := ek
  injection ek' with e1 e2
  injection e2 with e2 e3
  injection e3 with e3 e4
  have etp : r.tp = nil0 := by
    rw [Sum.inr.inj e3, z] <;> rfl
  unfold isPop at h
  rw [Bool.or_eq_true, decide_eq_true_eq, decide_eq_true_eq] at h
  rcases o.de.low etp with d | d <;> rcases h with h | h <;> rw [h] at d <;> revert d <;> decide +kernel
theorem sd_low {l t : PySem.Str} {n : Int} {s : Std} {rs : List Rl} (ok : ∀ r ∈ rs, RlOk l n r) : ∀ k, ∀ w ∈ sd rs t s k, w.length ≤ 3
  | 0, w, m => absurd m List.not_mem_nil
  | k + 1, w, m => by
    have m : w ∈ sd rs t s k ++ (match (nth rs t s k).bind (fit rs t) with | some r => [r.sa] | none => []) := m
    rcases List.mem_append.mp m with m | m
    · exact sd_low ok k w m
    · cases e : (nth rs t s k).bind (fit rs t) with
      | none => rw [e] at m; exact absurd m List.not_mem_nil
      | some r =>
        rw [e] at m
        obtain ⟨x, _, ef⟩ := Option.bind_eq_some_iff.mp e
        rw [List.mem_singleton.mp m]
        exact (ok r (find_some ef).1).sa.2
end Mk

set_option Elab.async false
set_option linter.unusedVariables false
set_option maxRecDepth 100000
set_option maxHeartbeats 8000000
namespace Mk
open PySem L2 Pk
/-! the acts of a key -/
def actsOf : List Grp → List Key → List (List Key)
  | [], _ => []
  | g :: G, k => if g.1 = k then g.2 else actsOf G k
theorem actsOf_pos {g : Grp} {G : List Grp} {k : List Key} (e : g.1 = k) : actsOf (g :: G) k = g.2 := if_pos e
theorem actsOf_neg {g : Grp} {G : List Grp} {k : List Key} (e : ¬ g.1 = k) : actsOf (g :: G) k = actsOf G k := if_neg e
theorem actsOf_not {k : List Key} : ∀ {G : List Grp}, k ∉ G.map (·.1) → actsOf G k = []
  | [], _ => rfl
  | g :: G, h => by
    rw [List.map_cons] at h
    rw [actsOf_neg fun e => h (by rw [e]; exact List.mem_cons_self)]
    exact actsOf_not fun m => h (List.mem_cons_of_mem _ m)
theorem actsOf_in {k : List Key} : ∀ {G : List Grp}, (∃ g ∈ G, g.2 = actsOf G k) ∨ actsOf G k = []
  | [] => .inr rfl
  | g :: G => by
    by_cases e : g.1 = k
    · exact .inl ⟨g, List.mem_cons_self, by rw [actsOf_pos e]⟩
    · rw [actsOf_neg e]
      rcases actsOf_in (k := k) (G := G) with ⟨q, m, z⟩ | z
      · exact .inl ⟨q, List.mem_cons_of_mem _ m, z⟩
      · exact .inr z
theorem actsOf_len (rs : List Rl) (k : List Key) : (actsOf (grps rs) k).length ≤ rs.length := by
  rcases actsOf_in (k := k) (G := grps rs) with ⟨g, m, e⟩ | e
  · rw [← e]
    exact grps_len rs g m
  · rw [e]
    exact Nat.zero_le _
theorem entT_at {H : Hp} {k : List Key} : ∀ {kvs : List (List Key × V)} {G : List Grp}, Paired (EntT H) kvs G → (valV kvs k = none ∧ actsOf G k = []) ∨ ∃ t as, valV kvs k = some (.ref t) ∧ H t = some (.tup (as.map V.ref)) ∧ Paired (TupAt H) as (actsOf G k)
  | _, _, .nil => .inl ⟨rfl, rfl⟩
  | p :: kvs, g :: G, .cons h t => by
    obtain ⟨e1, tt, as, e2, e3, e4⟩ := h
    by_cases c : p.1 = k
    · refine .inr ⟨tt, as, ?_, e3, ?_⟩
      · rw [valV_pos c, e2]
      · rw [actsOf_pos (e1.symm.trans c)]
        exact e4
    · rw [valV_neg c, actsOf_neg fun z => c (e1.trans z)]
      exact entT_at t
/-- a tuple of acts -/
def ActTup (H : Hp) (p : Addr) (as : List (List Key)) : Prop := ∃ bs : List Addr, H p = some (.tup (bs.map V.ref)) ∧ Paired (TupAt H) bs as
theorem ActTup.tk {H H' : Hp} {p : Addr} {as : List (List Key)} (h : ActTup H p as) (t : Tk H H') : ActTup H' p as := by
  obtain ⟨bs, h1, h2⟩ := h
  exact ⟨bs, t _ _ h1, Paired.mapP h2 fun a b z => t _ _ z⟩
abbrev sActsM : Stmt := inClass (top 50) 1
section
variable {P : Program} {w : World} {K : PySem.W.Frag} {mg : PySem.Str → Option Value} {base : Heap}
/-! Machine.acts -/
theorem scActsM : FnScope ["self", "state", "sign", "top"] ["self", "state", "sign", "top"] (defScope sActsM) := ⟨rfl, rfl, rfl, by decide +kernel, rfl, by decide +kernel, by decide +kernel⟩
def spActsM (K : PySem.W.Frag) (C : Addr) : Sp := fun vs H Q _ => ∃ (x : Addr) (l : PySem.Str) (n : Int) (rs : List Rl) (ys : List Int) (st : Int) (sg tp : PySem.Str), vs = [.ref x, .int st, .str sg, .str tp] ∧ MachAt K H C x l n rs ys ∧
  ∀ (p : Addr) (H' : Hp), Same H H' → ActTup H' p (actsOf (grps (rulesOf rs)) [.inl st, .inr sg, .inr tp]) → Q (.ref p) H'
theorem ok_actsM {f C : Addr} {fd : FuncData} (F : Fun K "acts" "Machine.acts" sActsM f fd) (M : MCls K C) : FnOk P w K mg base CX0 1 f fd ["self", "state", "sign", "top"] (spActsM K C) := by
  refine F.ok scActsM (fun vs H Q E h => ?_) (fun cdv A outer s H vs Q E hr h => ?_)
  · obtain ⟨x, l, n, rs, ys, st, sg, tp, rfl, _⟩ := h
    rfl
  · obtain ⟨x, l, n, rs, ys, st, sg, tp, rfl, hm, k⟩ := h
    have hu := hu_of hr
    obtain ⟨dx, aR, aY, aS, aA, g, R, hx, hR, kR, eR, hY, hS, ⟨kvs, hA, hE⟩, hg⟩ := hm.ex
    refine ⟨_, pss_one (ps_ret (pe_dget2 hu (pe_fld (pv 0) rfl) (pe_tup (pa_cons (pv 1) (pa_cons (pv 2) (pa_cons (pv 3) pa_nil)))) (pe_tup pa_nil) ⟨rfl, rfl, rfl, rfl⟩)), ?_⟩
    refine ⟨_, rfl, x, C, dx, _, .ref aA, rfl, hx, M.cls, M.acts, rfl, aA, rfl, .inr ⟨kvs, .inl hA⟩, _, rfl, _, rfl, _, rfl, show 3 ≤ sizeLine by decide, fun q hq => ?_⟩
    have s1 := same_new (o := HO.tup [V.int st, V.str sg, V.str tp]) hq
    have hk : (upd H q (.tup [V.int st, V.str sg, V.str tp])) q = some (.tup (([.inl st, .inr sg, .inr tp] : List Key).map kV)) := upd_same
    refine ⟨Nat.zero_le _, fun q0 h0 => ?_⟩
    have s2 := same_new (o := HO.tup []) h0
    refine ⟨_, DGet.t (s2 _ _ (s1 _ _ hA)) (s2 _ _ hk), ?_⟩
    have s12 := s1.trans s2
    rcases entT_at (k := [.inl st, .inr sg, .inr tp]) hE with ⟨e1, e2⟩ | ⟨t, as, e1, e2, e3⟩
    · rw [e1]
      refine k q0 _ s12 ⟨[], upd_same, ?_⟩
      rw [e2]
      exact .nil
    · rw [e1]
      exact k t _ s12 ⟨as, s12 _ _ e2, Paired.mapP e3 fun a b z => s12 _ _ z⟩
end
/-! each key once: an act or none -/
theorem grps_nd : ∀ (L pre : List Rl), ((pre ++ L).map Rl.k3).Nodup → L.foldl (fun G r => gAdd G r.k3 r.a5) (pre.map fun r => (r.k3, [r.a5])) = (pre ++ L).map fun r => (r.k3, [r.a5])
  | [], pre, _ => by rw [List.append_nil] <;> rfl
  | r :: L, pre, nd => by
    have nk : r.k3 ∉ (pre.map fun r => (r.k3, [r.a5])).map (·.1) := fun m => by
      rw [List.map_map] at m
      rw [List.map_append, List.nodup_append] at nd
      exact nd.2.2 _ m r.k3 (List.mem_map.mpr ⟨r, List.mem_cons_self, rfl⟩) rfl
    rw [List.foldl_cons]
    have e : gAdd (pre.map fun r => (r.k3, [r.a5])) r.k3 r.a5 = (pre ++ [r]).map fun r => (r.k3, [r.a5]) := by
      unfold gAdd
      rw [if_neg nk, List.map_append] <;> rfl
    rw [e, grps_nd L (pre ++ [r]) (by rw [List.append_assoc]; exact nd), List.append_assoc] <;> rfl
theorem grps_map {L : List Rl} (nd : (L.map Rl.k3).Nodup) : grps L = L.map fun r => (r.k3, [r.a5]) := grps_nd L [] nd
theorem rulesOf_nodup (rs : List Rl) : (rulesOf rs).Nodup := by
  have h : ((rulesOf rs).map Rl.key).Nodup := by
    rw [rulesOf_keys]
    exact Sx.asc_nodup _ _
  have gen : ∀ L : List Rl, (L.map Rl.key).Nodup → L.Nodup := by
    intro L
    induction L with
    | nil => exact fun _ => List.nodup_nil
    | cons r L ih =>
      intro hn
      rw [List.map_cons] at hn
      have n := List.nodup_cons.mp hn
      exact List.nodup_cons.mpr ⟨fun m => n.1 (List.mem_map.mpr ⟨r, m, rfl⟩), ih n.2⟩
  exact gen _ h
theorem rulesOf_nd {rs : List Rl} (nd : (rs.map Rl.k3).Nodup) : ((rulesOf rs).map Rl.k3).Nodup := by
  have gen : ∀ L : List Rl, L.Nodup → (∀ r ∈ L, r ∈ rs) → (L.map Rl.k3).Nodup := by
    intro L
    induction L with
    | nil => exact fun _ _ => List.nodup_nil
    | cons r L ih =>
      intro hn hs
      have n := List.nodup_cons.mp hn
      rw [List.map_cons]
      refine List.nodup_cons.mpr ⟨fun m => ?_, ih n.2 fun q mq => hs q (List.mem_cons_of_mem _ mq)⟩
      obtain ⟨q, mq, e⟩ := List.mem_map.mp m
      have := inj_of_nodup nd (hs q (List.mem_cons_of_mem _ mq)) (hs r List.mem_cons_self) e
      rw [this] at mq
      exact n.1 mq
  exact gen _ (rulesOf_nodup rs) fun r m => (rulesOf_mem rs r).mp m
theorem actsOf_map (k : List Key) : ∀ L : List Rl, actsOf (L.map fun r => (r.k3, [r.a5])) k = (match L.find? fun r => decide (r.k3 = k) with | some r => [r.a5] | none => [])
  | [] => rfl
  | r :: L => by
    rw [List.map_cons]
    by_cases c : r.k3 = k
    · rw [actsOf_pos (g := (r.k3, [r.a5])) c, List.find?_cons_of_pos (p := fun r : Rl => decide (r.k3 = k)) (decide_eq_true c)]
    · rw [actsOf_neg (g := (r.k3, [r.a5])) c, List.find?_cons_of_neg (p := fun r : Rl => decide (r.k3 = k)) (by rw [decide_eq_false c]; exact Bool.false_ne_true)]
      exact actsOf_map k L
theorem find_rulesOf {rs : List Rl} (nd : (rs.map Rl.k3).Nodup) (k : List Key) : find (rulesOf rs) k = find rs k := by
  cases h : find rs k with
  | none =>
    cases h2 : find (rulesOf rs) k with
    | none => rfl
    | some r =>
      obtain ⟨m, e⟩ := find_some h2
      exact absurd e (find_none h r ((rulesOf_mem rs r).mp m))
  | some r =>
    obtain ⟨m, e⟩ := find_some h
    exact find_of (rulesOf_nd nd) ((rulesOf_mem rs r).mpr m) e
def actL (o : Option Rl) : List (List Key) := match o with | some r => [r.a5] | none => []
theorem acts_find {rs : List Rl} (nd : (rs.map Rl.k3).Nodup) (k : List Key) : actsOf (grps (rulesOf rs)) k = actL (find rs k) := by
  rw [grps_map (rulesOf_nd nd), actsOf_map]
  show (match find (rulesOf rs) k with | some r => [r.a5] | none => []) = _
  rw [find_rulesOf nd] <;> rfl
theorem guess_none {rs : List Rl} (nd : (rs.map Rl.k3).Nodup) : guessOf (grps (rulesOf rs)) = none := by
  unfold guessOf
  rw [grps_map (rulesOf_nd nd)]
  have z : ((rulesOf rs).map fun r => (r.k3, [r.a5])).find? (fun g : Grp => decide (1 < g.2.length)) = none := by
    rw [List.find?_eq_none]
    intro g m
    obtain ⟨r, _, rfl⟩ := List.mem_map.mp m
    exact fun h => absurd (of_decide_eq_true h) (by show ¬ 1 < 1; omega)
  rw [z] <;> rfl
end Mk

set_option Elab.async false
set_option linter.all false
set_option maxRecDepth 100000
set_option maxHeartbeats 4000000
/-! tuple * int, also of the empty one, up to a million items -/
namespace Lt
open PySem PySem.Spec PyProof.Rows L2
theorem tuple_mul0 (l : Addr) (n : Nat) (dd : Option Addr) (sl : Array (Option Value)) (x : Int) (u : Tok) (c0 : (decide (x < -(2 ^ 63)) || decide (x ≥ 2 ^ 63)) = false) :
    Meets (Builtin.«tuple.__mul__» ⟨[.ref l, .int x u], []⟩) (fun _ R s => s.heap.get? l = some { cls := .type "tuple", dict := dd, data := .seq #[] n, slots := sl } ∧ R (.ok (.ret (Value.ref l))) s) :=
  .of_wp fun prog w A R s h => by
    obtain ⟨hp, g, d, tk, os⟩ := s
    obtain ⟨hl, h⟩ := h
    have f1 := AutoSeq1.idx_int
    wp_walk using wpAny_loadPart' hl
    refine wpAny_ite_false (decide_eq_false (by rw [c0]; exact Bool.false_ne_true)) ?_
    wp_walk using wpAny_loadPart' hl
    exact ⟨_, rfl, h⟩
def rRepA (K : PySem.W.Frag) : R2 := fun x y H Q => ∃ l k xs, x = .ref l ∧ y = .int k ∧ SqT K H l xs ∧ 2 ≤ k ∧ k ≤ 1000000 ∧ (xs.length : Int) * k ≤ 1000000 ∧ (xs = [] → Q (.ref l) H) ∧ (xs ≠ [] → ∀ p, H p = none → Q (.ref p) (upd H p (.tup (List.replicate k.toNat xs).flatten)))
section
variable {X : Cx}
theorem op_repA : OpR X (binaryOp .Mult) (rRepA X.K) := by
  intro pins s σ H x y v u Q I rx ry h
  obtain ⟨l, k, xs, rfl, rfl, hT, h1, h2, hz, q0, q⟩ := h
  cases rx
  obtain ⟨t, rfl⟩ := ry
  obtain ⟨its, r, ⟨⟨cls, dd, data, sl⟩, ho, hc, n, hd⟩, hs⟩ := I.tuple hT
  simp only at hc hd
  subst hc hd
  have hle : its.length = xs.length := r.length.symm
  have c0 : (decide (k < -(2 ^ 63)) || decide (k ≥ 2 ^ 63)) = false := by
    rw [decide_eq_false (by omega), decide_eq_false (by omega)] <;> rfl
  by_cases hne : xs = []
  · have e : its = [] := List.eq_nil_of_length_eq_zero (by rw [hle, hne] <;> rfl)
    subst e
    refine wpAny_binaryOp_repeat_ref (T := "tuple") (U := "int") (by decide) ⟨_, ho, rfl⟩ (fun s' => typeIs_int s' k t) noFill_tuple_mul F.fills_int_mul F.slot_int_rmul repeat_tuple F.slot_int_index.lookup
      (call_meets F.slot_int_rmul (typeIs_int s k t) F.entry_int_rmul (F.args_int_rmul_2 _ _) (int_rmul_tuple k t l ([] : List Value).toArray n dd sl)
        ⟨ho, rfl, ⟨_, ho, rfl⟩, call_meets F.slot_tuple_mul ⟨_, ho, rfl⟩ F.entry_tuple_mul (F.args_tuple_mul_2 _ _) (tuple_mul0 l n dd sl k t c0) ⟨ho, ?_⟩⟩)
    exact ⟨.ref l, H, I, rfl, q0 hne⟩
  have q := q hne
  have hn : its ≠ [] := fun e => hne (by
    rw [e] at hle
    exact List.eq_nil_of_length_eq_zero hle.symm)
  have hi : its.toArray.isEmpty = false := by
    cases its with
    | nil => exact absurd rfl hn
    | cons a b => rfl
  have hsz0 : its.toArray.size = xs.length := by rw [List.size_toArray, hle]
  have hm : ((its.toArray.size : Nat) : Int) * k ≤ 1000000 := by
    rw [hsz0]
    exact hz
  have hzn : k.toNat * xs.length ≤ 1000000 := by
    have e : ((k.toNat * xs.length : Nat) : Int) = (xs.length : Int) * k := by
      rw [Int.natCast_mul, Int.toNat_of_nonneg (by omega), Int.mul_comm]
    omega
  have flen : (List.replicate k.toNat its).flatten.length ≤ sizeLine := by
    rw [PyProof.Rows.lm_len_rep_flat, hle, sizeLine_eq]
    omega
  have c1 : (its.toArray.isEmpty || k == 1) = false := by
    rw [hi, Bool.false_or]
    exact beq_eq_false_iff_ne.mpr (by omega)
  have c2 : (decide (k ≤ 0) || its.toArray.isEmpty) = false := by
    rw [hi, Bool.or_false]
    exact decide_eq_false (by omega)
  have c4 : Builtin.Tuple.tupleTooMany (((its.toArray.size : Nat) : Int) * k) = false := by
    unfold Builtin.Tuple.tupleTooMany
    rw [sizeLine_eq]
    exact decide_eq_false (by omega)
  refine wpAny_binaryOp_repeat_ref (T := "tuple") (U := "int") (by decide) ⟨_, ho, rfl⟩ (fun s' => typeIs_int s' k t) noFill_tuple_mul F.fills_int_mul F.slot_int_rmul repeat_tuple F.slot_int_index.lookup
    (call_meets F.slot_int_rmul (typeIs_int s k t) F.entry_int_rmul (F.args_int_rmul_2 _ _) (int_rmul_tuple k t l its.toArray n dd sl)
      ⟨ho, rfl, ⟨_, ho, rfl⟩, call_meets F.slot_tuple_mul ⟨_, ho, rfl⟩ F.entry_tuple_mul (F.args_tuple_mul_2 _ _) (tuple_mulW l its.toArray n dd sl k t c0 c1 c2 (by omega) c4 (by rw [size_rep, List.size_toArray]; exact flen)) ⟨ho, ?_⟩⟩)
  rw [size_rep]
  refine ⟨.ref s.heap.objs.size, _, I.laid (t' := s.toks) (o := .tup (List.replicate k.toNat xs).flatten) (fun b ob q => Heap.get?_push_of_some _ q) (Nat.le_refl _) ?_, rfl, q _ (I.hok.fresh (Nat.le_refl _))⟩
  exact ⟨by rw [PyProof.Rows.lm_len_rep_flat, sizeLine_eq]; omega, _, r.rep k.toNat, IsTup.new _ _⟩
end
end Lt

set_option Elab.async false
set_option linter.unusedVariables false
set_option maxRecDepth 100000
set_option maxHeartbeats 16000000
namespace Mk
open PySem L2 Pk
section
variable {P : Program} {w : World} {K : PySem.W.Frag} {mg : PySem.Str → Option Value} {base : Heap}
/-! _law_each_once -/
abbrev nOnce : List PySem.Str := ["values", "seen", "value"]
theorem scOnce : FnScope nOnce ["values"] (defScope sOnce) := ⟨rfl, rfl, rfl, by decide +kernel, rfl, by decide +kernel, by decide +kernel⟩
def spOnceS (K : PySem.W.Frag) : Sp := fun vs H Q _ => ∃ (a : Addr) (b : Bool) (xs : List PySem.Str), vs = [.ref a] ∧ SqB b K H a (xs.map V.str) ∧ xs.length ≤ 10000 ∧ ∀ (p : Addr) (H' : Hp), Same H H' → H p = none → H' p = some (.lst ((Sx.asc Sx.ltText xs).map V.str)) → Q (.ref p) H'
theorem lt10k {n : Nat} (h : n ≤ 10000) : n < sizeLine := Nat.lt_of_le_of_lt h (by decide)
theorem once_some {α : Type} [DecidableEq α] (l : List α) (i : Nat) : (Sx.once (l.take i)).length ≤ l.length := by
  refine Nat.le_trans (Sx.once_len _) ?_
  rw [List.length_take]
  exact Nat.min_le_right _ _
theorem ok_onceS {f : Addr} {fd : FuncData} (F : Fun K "_law_each_once" "_law_each_once" sOnce f fd) (T : TM mg) : FnOk P w K mg base CX0 1 f fd ["values"] (spOnceS K) := by
  refine F.ok scOnce (fun vs H Q E h => ?_) (fun cdv A outer s H vs Q E hr h => ?_)
  · obtain ⟨a, b, ys, rfl, _⟩ := h
    rfl
  · obtain ⟨a, b, ys, rfl, hS, few, k⟩ := h
    have hu := hu_of hr
    refine ⟨_, pss_cons (ps_set (i := 1) scOnce.nd rfl (Or.inl rfl) pe_dnewK)
      (pss_cons (ps_for PassesOwn.never rfl (pi_sq b (pv 0)) (pg_name (i := 2) scOnce.nd rfl (Or.inl rfl)) (pss_one (ps_dput hu (pv 1) (pv 2) pe_bl rfl)))
      (pss_one (ps_ret (pe_callB Sx.cr_sortS (by rfl) T.sorted (by decide +kernel) (pa_cons (pe_callTy (call_listD rfl) (by rfl) T.list PyProof.Rows.Boot.list (pa_cons (pv 1) pa_nil)) pa_nil))))), ?_⟩
    intro D hD
    refine isq_of ⟨_, rfl, a, rfl, ⟨_, hS.mono (same_new hD)⟩, for_it (walk_sq (b := b) (K := K) (a := a) (xs := ys.map V.str)) (fun i σ H' => Same H H' ∧ ∃ (v : Option V) (kvs : List (Key × V)), σ = [some (.ref a), some (.ref D), v] ∧ H' D = some (.dK kvs) ∧ kvs.map (·.1) = (Sx.once (ys.take i)).map kT)
      ⟨same_new hD, none, [], rfl, upd_same, rfl⟩ (fun i σ H' _ h => hS.mono h.1) ?_ ?_⟩
    · rintro i x σ H2 _ hn ⟨s2, v, kvs, rfl, hD2, hk⟩ ⟨rfl, hi⟩
      rw [List.getElem?_map] at hi
      obtain ⟨y, ey, rfl⟩ := Option.map_eq_some_iff.mp hi
      have lk : kvs.length ≤ 10000 := by
        have z := congrArg List.length hk
        rw [List.length_map, List.length_map] at z
        have := once_some ys i
        omega
      refine ⟨_, rfl, _, rfl, D, _, rfl, DPut.k (k := kT y) hD2 (lt10k lk), same_mut s2 hD, _, _, rfl, upd_same, ?_⟩
      rw [put_keys, hk, add_map kT_inj, ← once_add, take_at ey]
    · rintro σ H2 ⟨s2, v, kvs, rfl, hD2, hk⟩
      rw [List.length_map, List.take_of_length_le (Nat.le_refl _)] at hk
      refine ⟨_, rfl, D, kvs, rfl, .inl hD2, fun p hp => ?_⟩
      have e : (kvs.map fun kv => kV kv.1) = (Sx.once ys).map V.str := by
        have z := congrArg (List.map kV) hk
        rw [List.map_map, List.map_map] at z
        exact z
      rw [e]
      refine ⟨p, Sx.once ys, rfl, SqL.of upd_same, fun q hq => ?_⟩
      exact k q _ ((s2.trans (same_new hp)).trans (same_new hq)) ((s2.trans (same_new hp)).free hq) upd_same

/-! _law_text -/
abbrev nText : List PySem.Str := ["script", "at", "letters", "upto", "row", "many", "k"]
theorem scText : FnScope nText ["script", "at", "letters", "upto"] (defScope sText) := ⟨rfl, rfl, rfl, by decide +kernel, rfl, by decide +kernel, by decide +kernel⟩
def spText (K : PySem.W.Frag) : Sp := fun vs H Q _ => ∃ (sc : Addr) (ns : List Int) (at_ : Nat) (l : PySem.Str) (u : Nat), vs = [.ref sc, .int (at_ : Int), .str l, .int (u : Int)] ∧ SqL K H sc (ns.map V.int) ∧ Alpha l ∧ 6 ≤ u ∧ u ≤ 100 ∧
  ∀ (t : PySem.Str) (H' : Hp), Same H H' → (∀ c ∈ t.cps.toList, c ∈ l.cps.toList) → t.length ≤ u → Q (.str t) H'
theorem rep_flat {α : Type} (x : α) : ∀ m : Nat, (List.replicate m [x]).flatten = List.replicate m x
  | 0 => rfl
  | m + 1 => by
    rw [List.replicate_succ, List.flatten_cons, rep_flat x m, List.replicate_succ] <;> rfl
def txSizes (u : Nat) : List Int := [12] ++ [(u : Int) + 1] ++ List.replicate u 30
theorem txSizes_at {u j : Nat} (h : j < u) : (txSizes u)[2 + j]? = some 30 := by
  show ([12, (u : Int) + 1] ++ List.replicate u 30)[2 + j]? = _
  rw [List.getElem?_append_right (by show 2 ≤ 2 + j; omega), List.getElem?_replicate]
  show (if 2 + j - 2 < u then some 30 else none) = some 30
  rw [if_pos (by omega)]
theorem many_at {d0 d1 u : Nat} (h0 : d0 < 12) (h1 : d1 ≤ u) (h6 : 6 ≤ u) : ∃ m : Nat, atI [V.int 4, V.int 3, V.int 5, V.int 2, V.int 6, V.int 4, V.int 1, V.int 5, V.int 3, V.int 5, V.int d1, V.int d1] (d0 : Int) = some (.int (m : Int)) ∧ m ≤ u := by
  have c : d0 = 0 ∨ d0 = 1 ∨ d0 = 2 ∨ d0 = 3 ∨ d0 = 4 ∨ d0 = 5 ∨ d0 = 6 ∨ d0 = 7 ∨ d0 = 8 ∨ d0 = 9 ∨ d0 = 10 ∨ d0 = 11 := by omega
  rcases c with rfl | rfl | rfl | rfl | rfl | rfl | rfl | rfl | rfl | rfl | rfl | rfl
  · exact ⟨4, rfl, by omega⟩
  · exact ⟨3, rfl, by omega⟩
  · exact ⟨5, rfl, by omega⟩
  · exact ⟨2, rfl, by omega⟩
  · exact ⟨6, rfl, by omega⟩
  · exact ⟨4, rfl, by omega⟩
  · exact ⟨1, rfl, by omega⟩
  · exact ⟨5, rfl, by omega⟩
  · exact ⟨3, rfl, by omega⟩
  · exact ⟨5, rfl, by omega⟩
  · exact ⟨d1, rfl, h1⟩
  · exact ⟨d1, rfl, h1⟩
/-- a sign of an alphabet, at any whole number -/
theorem mod_at {l : PySem.Str} (al : Alpha l) (z : Int) : ∃ c, atI l.cps.toList (z % (l.length : Int)) = some c ∧ c ∈ l.cps.toList := by
  have pos := al.pos
  have g0 := Int.emod_nonneg z (b := (l.length : Int)) (by omega)
  have g1 := Int.emod_lt_of_pos z (b := (l.length : Int)) (by omega)
  obtain ⟨j, ej⟩ : ∃ j : Nat, z % (l.length : Int) = (j : Int) := ⟨(z % (l.length : Int)).toNat, by omega⟩
  rw [ej] at g1 ⊢
  obtain ⟨b, h1, h2⟩ := let_at (l := l) (i := j) (by omega)
  exact ⟨b, by rw [show (0 : Int) + (j : Int) = (j : Int) by omega] at h1; exact h1, h2⟩
theorem ok_text {f : Addr} {fd : FuncData} (F : Fun K "_law_text" "_law_text" sText f fd) (T : TM mg) (G : GenDefs P w K mg base) : FnOk P w K mg base CX0 2 f fd ["script", "at", "letters", "upto"] (spText K) := by
  refine F.ok scText (fun vs H Q E h => ?_) (fun cdv A outer s H vs Q E hr h => ?_)
  · obtain ⟨sc, ns, at_, l, u, rfl, _⟩ := h
    rfl
  · obtain ⟨sc, ns, at_, l, u, rfl, hSc, al, u6, u100, k⟩ := h
    have nd := scText.nd
    have h1 := hr
    refine ⟨_, (pss_cons (ps_set (i := 4) nd rfl (Or.inr rfl) (pe_got G.digits h1 (by rfl) (pa_cons (pe_got G.cell h1 (by rfl) (pa_cons (pv 0) (pa_cons (pv 1) pa_nil))) (pa_cons (pe_op op_cat (pe_op op_cat (pe_lst (pa_cons pe_int pa_nil)) (pe_lst (pa_cons (pe_op op_add (pv 3) pe_int) pa_nil))) (pe_op op_rep (pe_lst (pa_cons pe_int pa_nil)) (pv 3))) pa_nil))))
      (pss_cons (ps_set (i := 5) nd rfl (Or.inl rfl) (pe_ix ix_list (pe_lst (pa_cons pe_int (pa_cons pe_int (pa_cons pe_int (pa_cons pe_int (pa_cons pe_int (pa_cons pe_int (pa_cons pe_int (pa_cons pe_int (pa_cons pe_int (pa_cons pe_int (pa_cons (pe_ix ix_list (pv 4) pe_int fun _ _ => rfl) (pa_cons (pe_ix ix_list (pv 4) pe_int fun _ _ => rfl) pa_nil))))))))))))) (pe_ix ix_list (pv 4) pe_int fun _ _ => rfl) fun _ _ => rfl))
      (pss_one (ps_ret (pe_join pe_str (pe_lc (own := [("k", 6)]) (g := gName 6) (tt := tYes) (by rfl) nd (pi_range1 (by rfl) T.range (pa_cons (pv 5) pa_nil)) (blkOk_by (own := [("k", 6)]) (N := nText) (sc := defScope sText) (by decide +kernel)) (fun _ _ _ _ _ => pg_name (i := 6) nd rfl (Or.inl rfl)) (fun _ _ _ _ _ => pts_nil) (fun _ _ _ _ _ => (pe_ix ix_str (pv 2) (pe_op op_mod (pe_callTy call_int1 (by rfl) T.int PyProof.Rows.Boot.int (pa_cons (pe_ix (r := rIxL K) ix_list (pv 4) (pe_op op_add pe_int (pv 6)) fun _ _ => rfl) pa_nil)) (pe_callB call_len_str (by rfl) T.len PySem.boot_len (pa_cons (pv 2) pa_nil))) fun _ _ => rfl)))))))), ?_⟩
    refine ⟨_, rfl, _, rfl, sc, ns, at_, rfl, hSc, fun z0 => ⟨show 1 ≤ sizeLine by decide, fun q1 m1 => ⟨_, rfl, _, _, rfl, rfl, show 1 ≤ sizeLine by decide, fun q2 m2 => ⟨q1, q2, _, _, rfl, rfl, same_new m2 _ _ upd_same, upd_same, show 2 ≤ sizeLine by decide, fun q3 m3 => ⟨show 1 ≤ sizeLine by decide, fun q4 m4 => ⟨_, rfl, q4, (u : Int), _, rfl, rfl, upd_same, by omega, by omega, ?_, fun q5 m5 => ⟨q3, q5, _, _, rfl, rfl, same_new m5 _ _ (same_new m4 _ _ upd_same), upd_same, ?_, fun q6 m6 => ?_⟩⟩⟩⟩⟩⟩⟩
    · show 1 * u ≤ sizeLine
      exact Nat.le_trans (show _ ≤ 100 by omega) (by decide)
    · rw [Int.toNat_natCast, rep_flat, List.length_replicate]
      show 2 + u ≤ sizeLine
      exact Nat.le_trans (show _ ≤ 102 by omega) (by decide)
    have sA := ((((((same_new (o := HO.lst [V.int 12]) m1).trans (same_new (o := HO.lst [V.int ((u : Int) + 1)]) m2)).trans (same_new (o := HO.lst ([V.int 12] ++ [V.int ((u : Int) + 1)])) m3)).trans (same_new (o := HO.lst [V.int 30]) m4)).trans (same_new (o := HO.lst (List.replicate (u : Int).toNat [V.int 30]).flatten) m5)).trans (same_new (o := HO.lst ([V.int 12] ++ [V.int ((u : Int) + 1)] ++ (List.replicate (u : Int).toNat [V.int 30]).flatten)) m6))
    have esz : [V.int 12] ++ [V.int ((u : Int) + 1)] ++ (List.replicate (u : Int).toNat [V.int 30]).flatten = (txSizes u).map V.int := by
      rw [Int.toNat_natCast, rep_flat]
      unfold txSizes
      rw [List.map_append, List.map_replicate] <;> rfl
    refine ⟨z0, q6, txSizes u, rfl, SqL.of (by rw [← esz]; exact upd_same), ?_, ?_, fun row aD H1 dg np s1 hrow => ?_⟩
    · show ([12, (u : Int) + 1] ++ List.replicate u 30).length ≤ 10000
      rw [List.length_append, List.length_replicate]
      show 2 + u ≤ 10000
      omega
    · intro s m
      have m : s ∈ [12, (u : Int) + 1] ++ List.replicate u 30 := m
      rcases List.mem_append.mp m with m | m
      · simp only [List.mem_cons, List.not_mem_nil, or_false] at m
        rcases m with rfl | rfl
        · exact ⟨by decide, by decide⟩
        · exact ⟨by omega, by omega⟩
      · rw [(List.mem_replicate.mp m).2]
        exact ⟨by decide, by decide⟩
    have sB : Same H H1 := sA.trans s1
    clear sA s1 np m1 m2 m3 m4 m5 m6
    have rowAt : ∀ {j : Nat} {d : Nat}, row[j]? = some (d : Int) → atI (row.map V.int) (j : Int) = some (V.int d) := fun {j d} e => atI_nat (by rw [List.getElem?_map, e]; rfl)
    have dig : ∀ (j : Nat) (t : Int), (txSizes u)[j]? = some t → ∃ d : Nat, row[j]? = some (d : Int) ∧ (d : Int) < t := fun j t e => by
      obtain ⟨d, e1, e2, e3⟩ := dg.2 j t e
      exact ⟨d.toNat, by rw [e1, Int.toNat_of_nonneg e2], by rw [Int.toNat_of_nonneg e2]; exact e3⟩
    obtain ⟨d0, e0, b0⟩ := dig 0 12 rfl
    obtain ⟨d1, e1, b1⟩ := dig 1 ((u : Int) + 1) rfl
    obtain ⟨m, em, lm⟩ := many_at (d0 := d0) (d1 := d1) (u := u) (by omega) (by omega) u6
    refine ⟨_, rfl, aD, _, _, _, rfl, rfl, SqL.of hrow, rowAt (j := 1) e1, _, rfl, aD, _, _, _, rfl, rfl, SqL.of hrow, rowAt (j := 1) e1, show 12 ≤ sizeLine by decide, fun v nv => ?_⟩
    have tv := same_new (o := HO.lst [V.int 4, V.int 3, V.int 5, V.int 2, V.int 6, V.int 4, V.int 1, V.int 5, V.int 3, V.int 5, V.int d1, V.int d1]) nv
    refine ⟨_, rfl, aD, _, _, _, rfl, rfl, SqL.of (tv _ _ hrow), rowAt (j := 0) e0, v, _, _, .int (m : Int), rfl, rfl, SqL.of upd_same, em, ?_⟩
    have hrow2 := tv _ _ hrow
    dsimp only [gName]
    show (tRet _) _ _ (upd H1 v (.lst [V.int 4, V.int 3, V.int 5, V.int 2, V.int 6, V.int 4, V.int 1, V.int 5, V.int 3, V.int 5, V.int d1, V.int d1]))
    generalize upd H1 v (.lst [V.int 4, V.int 3, V.int 5, V.int 2, V.int 6, V.int 4, V.int 1, V.int 5, V.int 3, V.int 5, V.int d1, V.int d1]) = H2 at tv hrow2 ⊢
    have szl : l.length ≤ sizeLine := Nat.le_trans al.most (by decide)
    have pos := al.pos
    refine ⟨⟨_, rfl⟩, _, rfl, _, rfl, by omega, by omega, fun D nD => lc_range (lo := 0) (n := ((m : Nat) : Int).toNat) (fun i H' => Same H2 H' ∧ ∃ cs : List Nat, H' D = some (.lst ((cs.map sgn1).map V.str)) ∧ cs.length ≤ i ∧ ∀ c ∈ cs, c ∈ l.cps.toList) ⟨same_new nD, [], upd_same, Nat.zero_le _, fun c m => absurd m List.not_mem_nil⟩ ?_ ?_⟩
    · rintro i H3 hi ⟨s3, cs, hcs, lcs, ics⟩
      refine ⟨rfl, ?_⟩
      obtain ⟨dk, ek, bk⟩ := dig (2 + i) 30 (txSizes_at (by omega))
      obtain ⟨c, hc, mc⟩ := mod_at al (dk : Int)
      have ek' : atI (row.map V.int) (2 + (0 + (i : Int))) = some (V.int dk) := by
        rw [show (2 : Int) + (0 + (i : Int)) = ((2 + i : Nat) : Int) by omega]
        exact rowAt ek
      refine ⟨_, rfl, _, rfl, _, rfl, _, _, rfl, rfl, aD, _, _, _, rfl, rfl, SqL.of (s3 _ _ hrow2), ek', .inl ⟨_, rfl, _, rfl, l, rfl, szl, _, _, rfl, rfl, (by omega : (0 : Int) < (l.length : Int)), l, _, c, rfl, rfl, szl, hc, ?_⟩⟩
      refine ⟨_, hcs, ?_, same_mut s3 nD, cs ++ [c], ?_, ?_, fun z mz => ?_⟩
      · rw [List.length_map, List.length_map]
        exact Nat.lt_of_le_of_lt (show cs.length ≤ 100 by omega) (by decide)
      · rw [upd_same, List.map_append, List.map_append] <;> rfl
      · rw [List.length_append]
        show cs.length + 1 ≤ i + 1
        omega
      · rcases List.mem_append.mp mz with mz | mz
        · exact ics z mz
        · rw [List.mem_singleton.mp mz]
          exact mc
    rintro H3 ⟨s3, cs, hcs, lcs, ics⟩
    refine ⟨_, D, cs.map sgn1, rfl, rfl, .inl (SqL.of hcs), by rw [sum_signs, List.length_map]; show _ + cs.length * 0 ≤ _; omega, ?_⟩
    rw [join_signs]
    exact k _ H3 ((sB.trans tv).trans s3) ics (by show cs.length ≤ u; omega)
end
end Mk

set_option Elab.async false
set_option linter.unusedVariables false
set_option maxRecDepth 100000
set_option maxHeartbeats 16000000
namespace Mk
open PySem L2 Pk
/-- a standing at p: a tuple or a list, its stack one or the other -/
def StdB (b1 b2 : Bool) (K : PySem.W.Frag) (H : Hp) (p : Addr) (x : Std) : Prop := ∃ q : Addr, SqB b1 K H p [.int x.q, .int x.p, .ref q] ∧ SqB b2 K H q (x.st.map V.str)
theorem StdB.mono {b1 b2 : Bool} {K : PySem.W.Frag} {H H' : Hp} {p : Addr} {x : Std} (e : Same H H') (h : StdB b1 b2 K H p x) : StdB b1 b2 K H' p x := by
  obtain ⟨q, h1, h2⟩ := h
  exact ⟨q, h1.mono e, h2.mono e⟩
/-- the law's table -/
def TabAt (H : Hp) (d : Addr) (rs : List Rl) : Prop := ∃ kvs : List (List Key × V), H d = some (.dT kvs) ∧ Paired (fun (p : List Key × V) (r : Rl) => p.1 = r.k3 ∧ ∃ t, p.2 = .ref t ∧ H t = some (.tup (r.a5.map kV))) kvs rs
theorem TabAt.mono {H H' : Hp} {d : Addr} {rs : List Rl} (h : TabAt H d rs) (s : Same H H') : TabAt H' d rs := by
  obtain ⟨kvs, h1, h2⟩ := h
  exact ⟨kvs, s _ _ h1, Paired.mapP h2 fun a b z => ⟨z.1, z.2.choose, z.2.choose_spec.1, s _ _ z.2.choose_spec.2⟩⟩
theorem tab_get {H : Hp} {k : List Key} : ∀ {kvs : List (List Key × V)} {rs : List Rl}, Paired (fun (p : List Key × V) (r : Rl) => p.1 = r.k3 ∧ ∃ t, p.2 = .ref t ∧ H t = some (.tup (r.a5.map kV))) kvs rs →
    (valV kvs k = none ∧ find rs k = none) ∨ ∃ t r, valV kvs k = some (.ref t) ∧ find rs k = some r ∧ H t = some (.tup (r.a5.map kV))
  | _, _, .nil => .inl ⟨rfl, rfl⟩
  | p :: kvs, r :: rs, .cons h t => by
    obtain ⟨e1, a, e2, e3⟩ := h
    by_cases c : p.1 = k
    · exact .inr ⟨a, r, by rw [valV_pos c, e2], List.find?_cons_of_pos (p := fun r : Rl => decide (r.k3 = k)) (decide_eq_true (e1.symm.trans c)), e3⟩
    · have z : find (r :: rs) k = find rs k := List.find?_cons_of_neg (p := fun r : Rl => decide (r.k3 = k)) (by rw [decide_eq_false fun q => c (e1.trans q)]; exact Bool.false_ne_true)
      rw [valV_neg c, z]
      exact tab_get t
theorem putK_new {kvs : List (List Key × V)} {k : List Key} {v : V} (h : ∀ p ∈ kvs, p.1 ≠ k) : putK kvs k v = kvs ++ [(k, v)] := by
  unfold putK
  rw [if_neg]
  intro z
  obtain ⟨p, m, e⟩ := List.any_eq_true.mp z
  exact h p m (of_decide_eq_true e)
theorem paired_snoc {α β : Type} {R : α → β → Prop} : ∀ {as : List α} {bs : List β} {a : α} {b : β}, Paired R as bs → R a b → Paired R (as ++ [a]) (bs ++ [b])
  | _, _, _, _, .nil, h => .cons h .nil
  | _ :: _, _ :: _, _, _, .cons h t, h' => .cons h (paired_snoc t h')
theorem paired_keys {H : Hp} : ∀ {kvs : List (List Key × V)} {rs : List Rl}, Paired (fun (p : List Key × V) (r : Rl) => p.1 = r.k3 ∧ ∃ t, p.2 = .ref t ∧ H t = some (.tup (r.a5.map kV))) kvs rs → kvs.map (·.1) = rs.map Rl.k3
  | _, _, .nil => rfl
  | _ :: _, _ :: _, .cons h t => by rw [List.map_cons, List.map_cons, h.1, paired_keys t]
section
variable {P : Program} {w : World} {K : PySem.W.Frag} {mg : PySem.Str → Option Value} {base : Heap}
/-! _law_sign -/
abbrev nSignAt : List PySem.Str := ["text", "place"]
theorem scSignAt : FnScope nSignAt ["text", "place"] (defScope sSignAt) := ⟨rfl, rfl, rfl, by decide +kernel, rfl, by decide +kernel, by decide +kernel⟩
def spSignAt : Sp := fun vs H Q _ => ∃ (t : PySem.Str) (p : Int), vs = [.str t, .int p] ∧ t.length ≤ 1000 ∧ 0 ≤ p ∧ Q (.str (signAt t p)) H
theorem char_at {t : PySem.Str} {p : Int} (h0 : 0 ≤ p) (h1 : p < (t.length : Int)) : atI t.cps.toList p = some (t.cps.toList.getD p.toNat 0) := by
  obtain ⟨j, rfl⟩ : ∃ j : Nat, p = (j : Int) := ⟨p.toNat, by omega⟩
  have hj : j < t.cps.toList.length := by rw [Array.length_toList]; show j < t.length; omega
  rw [Int.toNat_natCast]
  refine atI_nat ?_
  rw [List.getD_eq_getElem?_getD, List.getElem?_eq_getElem hj] <;> rfl
theorem ok_signAt {f : Addr} {fd : FuncData} (F : Fun K "_law_sign" "_law_sign" sSignAt f fd) (T : TM mg) : FnOk P w K mg base CX0 1 f fd ["text", "place"] spSignAt := by
  refine F.ok scSignAt (fun vs H Q E h => ?_) (fun cdv A outer s H vs Q E hr h => ?_)
  · obtain ⟨t, p, rfl, _⟩ := h
    rfl
  · obtain ⟨t, p, rfl, sz, p0, k⟩ := h
    have nd := scSignAt.nd
    refine ⟨_, (pss_cons (ps_if (pt_cmpR op_eq (pv 1) pe_int (nomark _))
        (pss_one (ps_ret pe_str))
        pss_nil)
      (pss_cons (ps_if (pt_cmpR op_gt (pv 1) (pe_callB call_len_str (by rfl) T.len PySem.boot_len (pa_cons (pv 0) pa_nil)) (nomark _))
        (pss_one (ps_ret pe_str))
        pss_nil)
      (pss_one (ps_ret (pe_ix ix_str (pv 0) (pe_op op_sub (pv 1) pe_int) fun _ _ => rfl))))), ?_⟩
    have szl : t.length ≤ sizeLine := Nat.le_trans sz (by decide)
    unfold signAt at k
    refine ⟨_, rfl, rfl, _, rfl, ite2 (fun c => ?_) (fun c => ?_)⟩
    · rw [if_pos (V.int.inj (of_decide_eq_true c))] at k
      exact k
    have pn : ¬ p = 0 := fun e => c (decide_eq_true (by rw [e]))
    rw [if_neg pn] at k
    refine ⟨_, rfl, _, rfl, t, rfl, szl, _, _, rfl, rfl, _, rfl, ite2 (fun c => ?_) (fun c => ?_)⟩
    · rw [if_pos (of_decide_eq_true c)] at k
      exact k
    have pl : ¬ p > (t.length : Int) := fun e => c (decide_eq_true e)
    rw [if_neg pl] at k
    exact ⟨_, rfl, _, rfl, _, _, rfl, rfl, t, _, _, rfl, rfl, szl, char_at (by omega) (by omega), k⟩
/-! _law_top -/
theorem scTopOf : FnScope ["stack"] ["stack"] (defScope sTopOf) := ⟨rfl, rfl, rfl, by decide +kernel, rfl, by decide +kernel, by decide +kernel⟩
def spTopOf (K : PySem.W.Frag) : Sp := fun vs H Q _ => ∃ (q : Addr) (st : List PySem.Str), vs = [.ref q] ∧ SqT K H q (st.map V.str) ∧ Q (.str (topOf st)) H
theorem top_at {st : List PySem.Str} (h : st ≠ []) : atI (st.map V.str) (((st.map V.str).length : Int) - 1) = some (.str (topOf st)) := by
  have pos : 0 < st.length := List.length_pos_iff.mpr h
  rw [List.length_map]
  rw [show (st.length : Int) - 1 = ((st.length - 1 : Nat) : Int) by omega]
  refine atI_nat ?_
  rw [List.getElem?_map]
  have e : st[st.length - 1]? = some (topOf st) := by
    unfold topOf
    rw [List.getLastD_eq_getLast?, List.getLast?_eq_getElem?, List.getElem?_eq_getElem (by omega)] <;> rfl
  rw [e] <;> rfl
theorem ok_topOf {f : Addr} {fd : FuncData} (F : Fun K "_law_top" "_law_top" sTopOf f fd) (T : TM mg) : FnOk P w K mg base CX0 1 f fd ["stack"] (spTopOf K) := by
  refine F.ok scTopOf (fun vs H Q E h => ?_) (fun cdv A outer s H vs Q E hr h => ?_)
  · obtain ⟨q, st, rfl, _⟩ := h
    rfl
  · obtain ⟨q, st, rfl, hq, k⟩ := h
    refine ⟨_, (pss_cons (ps_if (pt_cmpR op_eq (pe_callB call_len_seq (by rfl) T.len PySem.boot_len (pa_cons (pv 0) pa_nil)) pe_int (nomark _))
        (pss_one (ps_ret pe_str))
        pss_nil)
      (pss_one (ps_ret (pe_ix ix_tup (pv 0) (pe_op op_sub (pe_callB call_len_seq (by rfl) T.len PySem.boot_len (pa_cons (pv 0) pa_nil)) pe_int) fun _ _ => rfl)))), ?_⟩
    refine ⟨_, rfl, q, _, rfl, .inr hq, rfl, _, rfl, ite2 (fun c => ?_) (fun c => ?_)⟩
    · have e := V.int.inj (of_decide_eq_true c)
      have e2 : st = [] := by
        rw [List.length_map] at e
        exact List.eq_nil_of_length_eq_zero (by omega)
      rw [e2] at k
      exact k
    · have ne : st ≠ [] := fun e => c (decide_eq_true (by rw [e] <;> rfl))
      exact ⟨_, rfl, _, rfl, q, _, rfl, .inr hq, _, _, rfl, rfl, q, _, _, _, rfl, rfl, hq, top_at ne, k⟩
/-! _law_table -/
abbrev nTable : List PySem.Str := ["rules", "table", "rule"]
theorem scTable : FnScope nTable ["rules"] (defScope sTable) := ⟨rfl, rfl, rfl, by decide +kernel, rfl, by decide +kernel, by decide +kernel⟩
def spTable (K : PySem.W.Frag) : Sp := fun vs H Q _ => ∃ (aR : Addr) (B : Kept), vs = [.ref aR] ∧ SqL K H aR (refsK B) ∧ KeptAt H B ∧ B.length ≤ 2000 ∧ (B.map fun p => p.2.k3).Nodup ∧
  ∀ (p : Addr) (H' : Hp), Same H H' → TabAt H' p (B.map (·.2)) → Q (.ref p) H'
theorem ok_table {f : Addr} {fd : FuncData} (F : Fun K "_law_table" "_law_table" sTable f fd) : FnOk P w K mg base CX0 1 f fd ["rules"] (spTable K) := by
  refine F.ok scTable (fun vs H Q E h => ?_) (fun cdv A outer s H vs Q E hr h => ?_)
  · obtain ⟨aR, B, rfl, _⟩ := h
    rfl
  · obtain ⟨aR, B, rfl, hR, kB, few, ndB, k⟩ := h
    have nd := scTable.nd
    have hu := hu_of hr
    refine ⟨_, (pss_cons (ps_set (i := 1) nd rfl (Or.inl rfl) pe_dnewT)
      (pss_cons (ps_for PassesOwn.never rfl (pi_list (pv 0)) (pg_name (i := 2) nd rfl (Or.inl rfl))
        (pss_one (ps_dput hu (pv 1) (pe_tup (pa_cons (pe_ix ix_tup (pv 2) pe_int fun _ _ => rfl) (pa_cons (pe_ix ix_tup (pv 2) pe_int fun _ _ => rfl) (pa_cons (pe_ix ix_tup (pv 2) pe_int fun _ _ => rfl) pa_nil)))) (pe_tup (pa_cons (pe_ix ix_tup (pv 2) pe_int fun _ _ => rfl) (pa_cons (pe_ix ix_tup (pv 2) pe_int fun _ _ => rfl) (pa_cons (pe_ix ix_tup (pv 2) pe_int fun _ _ => rfl) (pa_cons (pe_ix ix_tup (pv 2) pe_int fun _ _ => rfl) (pa_cons (pe_ix ix_tup (pv 2) pe_int fun _ _ => rfl) pa_nil)))))) rfl)))
      (pss_one (ps_ret (pv 1))))), ?_⟩
    intro D nD
    have s0 := same_new (o := HO.dT []) nD
    refine ⟨_, rfl, aR, rfl, ⟨_, s0.seq hR⟩, for_list (K := K) (a := aR) (xs := refsK B) (fun i σ H' => Same H H' ∧ ∃ (v : Option V) (kvs : List (List Key × V)), σ = [some (.ref aR), some (.ref D), v] ∧ H' D = some (.dT kvs) ∧ Paired (fun (p : List Key × V) (r : Rl) => p.1 = r.k3 ∧ ∃ t, p.2 = .ref t ∧ H' t = some (.tup (r.a5.map kV))) kvs ((B.take i).map (·.2)))
      ⟨s0, none, [], rfl, upd_same, .nil⟩ (fun i σ H2 _ h => h.1.seq hR) ?_ ?_⟩
    · rintro i v σ H2 hi ⟨s2, v', kvs, rfl, hD2, hE⟩
      obtain ⟨r, er, rfl⟩ := at_refs hi
      have mr := List.mem_of_getElem? er
      have hr2 := s2 _ _ (kB r mr)
      have Ht : ∀ {H' : Hp}, Same H2 H' → SqT K H' r.1 r.2.vs := fun s => .inl (.inl (s _ _ hr2))
      refine ⟨_, rfl, r.1, r.2.vs, 3, .int r.2.af, rfl, rfl, Ht (Same.refl _), rfl, _, rfl, r.1, r.2.vs, 4, .int r.2.mv, rfl, rfl, Ht (Same.refl _), rfl, _, rfl, r.1, r.2.vs, 5, .str r.2.de, rfl, rfl, Ht (Same.refl _), rfl, _, rfl, r.1, r.2.vs, 6, .str r.2.sy, rfl, rfl, Ht (Same.refl _), rfl, _, rfl, r.1, r.2.vs, 7, .str r.2.sa, rfl, rfl, Ht (Same.refl _), rfl, show 5 ≤ sizeLine by decide, fun a na => ?_⟩
      have t1 := same_new (o := HO.tup (r.2.a5.map kV)) na
      refine ⟨_, rfl, _, rfl, r.1, r.2.vs, 0, .int r.2.st, rfl, rfl, Ht t1, rfl, _, rfl, r.1, r.2.vs, 1, .str r.2.sg, rfl, rfl, Ht t1, rfl, _, rfl, r.1, r.2.vs, 2, .str r.2.tp, rfl, rfl, Ht t1, rfl, show 3 ≤ sizeLine by decide, fun b nb => ?_⟩
      have t2 := same_new (o := HO.tup (r.2.k3.map kV)) nb
      have t12 := t1.trans t2
      have hb : (upd (upd H2 a (.tup (r.2.a5.map kV))) b (.tup (r.2.k3.map kV))) b = some (.tup (r.2.k3.map kV)) := upd_same
      have ha : (upd (upd H2 a (.tup (r.2.a5.map kV))) b (.tup (r.2.k3.map kV))) a = some (.tup (r.2.a5.map kV)) := t2 _ _ upd_same
      have hD3 := t12 _ _ hD2
      have ek := paired_keys hE
      have lk : kvs.length ≤ 2000 := by
        have e := congrArg List.length ek
        rw [List.length_map, List.length_map, List.length_map, List.length_take] at e
        omega
      have new : ∀ p ∈ kvs, p.1 ≠ r.2.k3 := fun p m e => by
        have z : p.1 ∈ ((B.take i).map (·.2)).map Rl.k3 := by rw [← ek]; exact List.mem_map.mpr ⟨p, m, rfl⟩
        rw [e, List.map_map] at z
        have nd' : ((B.take (i + 1)).map fun p => p.2.k3).Nodup := ndB.sublist ((List.take_sublist _ _).map _)
        rw [take_at er, List.map_append, List.nodup_append] at nd'
        exact nd'.2.2 _ z r.2.k3 (List.mem_map.mpr ⟨r, List.mem_singleton.mpr rfl, rfl⟩) rfl
      refine ⟨D, _, rfl, DPut.t hD3 hb (Nat.lt_of_le_of_lt lk (by decide)), same_mut (s2.trans t12) nD, _, _, rfl, upd_same, ?_⟩
      rw [putK_new new, take_at er, List.map_append]
      have off : ∀ {z : Addr} {xs : List V} {o : HO}, (upd (upd H2 a (.tup (r.2.a5.map kV))) b (.tup (r.2.k3.map kV))) z = some (.tup xs) → (upd (upd (upd H2 a (.tup (r.2.a5.map kV))) b (.tup (r.2.k3.map kV))) D o) z = some (.tup xs) := fun {z xs o} h => by
        rw [upd_ne (ne_of h hD3 (by intro q; cases q))]
        exact h
      refine paired_snoc (Paired.mapP hE fun p r' z => ⟨z.1, z.2.choose, z.2.choose_spec.1, off (t12 _ _ z.2.choose_spec.2)⟩) ⟨rfl, a, rfl, off ha⟩
    · rintro σ H2 ⟨s2, v', kvs, rfl, hD2, hE⟩
      have lB : (refsK B).length = B.length := List.length_map ..
      rw [lB, List.take_of_length_le (Nat.le_refl _)] at hE
      exact ⟨_, rfl, k D H2 s2 ⟨kvs, hD2, hE⟩⟩
end
end Mk

set_option Elab.async false
set_option linter.unusedVariables false
set_option maxRecDepth 100000
set_option maxHeartbeats 16000000
namespace Mk
open PySem L2 Pk
section
variable {P : Program} {w : World} {K : PySem.W.Frag} {mg : PySem.Str → Option Value} {base : Heap}
/-! _law_known -/
abbrev nKnown : List PySem.Str := ["rules", "found", "rule", "symbol"]
theorem scKnown : FnScope nKnown ["rules"] (defScope sKnown) := ⟨rfl, rfl, rfl, by decide +kernel, rfl, by decide +kernel, by decide +kernel⟩
def spKnown (K : PySem.W.Frag) : Sp := fun vs H Q _ => ∃ (aR : Addr) (B : Kept), vs = [.ref aR] ∧ SqL K H aR (refsK B) ∧ KeptAt H B ∧ B.length ≤ 2000 ∧
  ∀ (p : Addr) (H' : Hp), Same H H' → H' p = some (.lst ((symsL (B.map (·.2))).map V.str)) → Q (.ref p) H'
theorem ok_known {f : Addr} {fd : FuncData} (F : Fun K "_law_known" "_law_known" sKnown f fd) (T : TM mg) (Gonce : Got P w K mg base "_law_each_once" 1 ["values"] (spOnceS K)) : FnOk P w K mg base CX0 2 f fd ["rules"] (spKnown K) := by
  refine F.ok scKnown (fun vs H Q E h => ?_) (fun cdv A outer s H vs Q E hr h => ?_)
  · obtain ⟨aR, B, rfl, _⟩ := h
    rfl
  · obtain ⟨aR, B, rfl, hR, kB, few, k⟩ := h
    have nd := scKnown.nd
    have h1 := hr
    refine ⟨_, (pss_cons (ps_set (i := 1) nd rfl (Or.inl rfl) (pe_op op_cat (pe_lc (own := [("rule", 2)]) (g := gName 2) (tt := tYes) (by rfl) nd (pi_list (pv 0)) (blkOk_by (own := [("rule", 2)]) (N := nKnown) (sc := defScope sKnown) (by decide +kernel)) (fun _ _ _ _ _ => pg_name (i := 2) nd rfl (Or.inl rfl)) (fun _ _ _ _ _ => pts_nil) (fun _ _ _ _ _ => (pe_ix (r := rIxT K) ix_tup (pv 2) pe_int fun _ _ => rfl))) (pe_lc (own := [("rule", 2)]) (g := gName 2) (tt := tYes) (by rfl) nd (pi_list (pv 0)) (blkOk_by (own := [("rule", 2)]) (N := nKnown) (sc := defScope sKnown) (by decide +kernel)) (fun _ _ _ _ _ => pg_name (i := 2) nd rfl (Or.inl rfl)) (fun _ _ _ _ _ => pts_nil) (fun _ _ _ _ _ => (pe_ix (r := rIxT K) ix_tup (pv 2) pe_int fun _ _ => rfl)))))
      (pss_one (ps_ret (pe_got Gonce h1 (by rfl) (pa_cons (pe_lc (own := [("symbol", 3)]) (g := gName 3) (by rfl) nd (pi_list (pv 1)) (blkOk_by (own := [("symbol", 3)]) (N := nKnown) (sc := defScope sKnown) (by decide +kernel)) (fun _ _ _ _ _ => pg_name (i := 3) nd rfl (Or.inl rfl)) (fun _ _ _ _ _ => pts_one (pt_cmpR op_ne (pv 3) pe_str (nomark _))) (fun _ _ _ _ _ => (pv 3))) pa_nil))))), ?_⟩
    have lB : (refsK B).length = B.length := List.length_map ..
    have small : ∀ {n : Nat}, n ≤ 5000 → n < sizeLine := fun h => Nat.lt_of_le_of_lt h (by decide)
    refine ⟨_, rfl, aR, rfl, ⟨_, hR⟩, fun D nD => lc_list (K := K) (a := aR) (xs := refsK B) (fun i H' => Same H H' ∧ H' D = some (.lst (((B.take i).map fun p => p.2.tp).map V.str))) ⟨same_new nD, upd_same⟩ (fun i H' _ h => h.1.seq hR) ?_ ?_⟩
    · rintro i v H2 hi ⟨s2, hD⟩
      obtain ⟨r, er, rfl⟩ := at_refs hi
      have hr2 := s2 _ _ (kB r (List.mem_of_getElem? er))
      refine ⟨rfl, ?_⟩
      refine ⟨_, rfl, r.1, r.2.vs, 2, .str r.2.tp, rfl, rfl, .inl (.inl hr2), rfl, _, hD, small ?_, same_mut s2 nD, ?_⟩
      · rw [List.length_map, List.length_map, List.length_take]; omega
      · rw [upd_same, take_at er, List.map_append, List.map_append] <;> rfl
    rintro H1 ⟨s1, hD⟩
    rw [lB, List.take_of_length_le (Nat.le_refl _)] at hD
    refine ⟨_, rfl, aR, rfl, ⟨_, s1.seq hR⟩, fun D2 nD2 => lc_list (K := K) (a := aR) (xs := refsK B) (fun i H' => Same H1 H' ∧ H' D2 = some (.lst (((B.take i).map fun p => p.2.sy).map V.str))) ⟨same_new nD2, upd_same⟩ (fun i H' _ h => (s1.trans h.1).seq hR) ?_ ?_⟩
    · rintro i v H2 hi ⟨s2, hD2⟩
      obtain ⟨r, er, rfl⟩ := at_refs hi
      have hr2 := s2 _ _ (s1 _ _ (kB r (List.mem_of_getElem? er)))
      refine ⟨rfl, ?_⟩
      refine ⟨_, rfl, r.1, r.2.vs, 6, .str r.2.sy, rfl, rfl, .inl (.inl hr2), rfl, _, hD2, small ?_, same_mut s2 nD2, ?_⟩
      · rw [List.length_map, List.length_map, List.length_take]; omega
      · rw [upd_same, take_at er, List.map_append, List.map_append] <;> rfl
    rintro H2 ⟨s2, hD2⟩
    rw [lB, List.take_of_length_le (Nat.le_refl _)] at hD2
    refine ⟨D, D2, _, _, rfl, rfl, s2 _ _ hD, hD2, ?_, fun a na => ?_⟩
    · rw [List.length_map, List.length_map, List.length_map, List.length_map]
      exact Nat.le_of_lt (small (by omega))
    have ta := same_new (o := HO.lst (((B.map fun p => p.2.tp) ++ (B.map fun p => p.2.sy)).map V.str)) na
    have ha : (upd H2 a (.lst (((B.map fun p => p.2.tp).map V.str) ++ ((B.map fun p => p.2.sy).map V.str)))) a = some (.lst (((B.map fun p => p.2.tp) ++ (B.map fun p => p.2.sy)).map V.str)) := by rw [upd_same, List.map_append]
    have ta' : Same H2 (upd H2 a (.lst (((B.map fun p => p.2.tp).map V.str) ++ ((B.map fun p => p.2.sy).map V.str)))) := same_new na
    dsimp only [gName]
    show (tRet _) _ _ (upd H2 a (.lst (((B.map fun p => p.2.tp).map V.str) ++ ((B.map fun p => p.2.sy).map V.str))))
    generalize upd H2 a (.lst (((B.map fun p => p.2.tp).map V.str) ++ ((B.map fun p => p.2.sy).map V.str))) = H3 at ta' ha ⊢
    have efo : ((B.map fun p => p.2.tp) ++ (B.map fun p => p.2.sy)) = (B.map (·.2)).map Rl.tp ++ (B.map (·.2)).map Rl.sy := by rw [List.map_map, List.map_map] <;> rfl
    have lfo : ((B.map fun p => p.2.tp) ++ (B.map fun p => p.2.sy)).length ≤ 4000 := by
      rw [List.length_append, List.length_map, List.length_map]
      omega
    rw [efo] at ha lfo
    generalize hfo : (B.map (·.2)).map Rl.tp ++ (B.map (·.2)).map Rl.sy = fo at ha lfo
    refine ⟨_, rfl, a, rfl, ⟨_, SqL.of ha⟩, fun D3 nD3 => lc_list (K := K) (a := a) (xs := fo.map V.str) (fun i H' => Same H3 H' ∧ H' D3 = some (.lst (((fo.take i).filter fun x => decide (x ≠ nil0)).map V.str))) ⟨same_new nD3, upd_same⟩ (fun i H' _ h => SqL.of (h.1 _ _ ha)) ?_ ?_⟩
    · rintro i v H4 hi ⟨s4, hD3⟩
      rw [List.getElem?_map] at hi
      obtain ⟨y, ey, rfl⟩ := Option.map_eq_some_iff.mp hi
      refine ⟨rfl, ?_⟩
      have hy : i < fo.length := (List.getElem?_eq_some_iff.mp ey).1
      refine ⟨_, rfl, rfl, _, rfl, ite2 (fun c => ?_) (fun c => ?_)⟩
      · have ne : y ≠ nil0 := fun e => by
          rw [e, decide_eq_true rfl] at c
          cases c
        refine ⟨_, rfl, _, hD3, small ?_, same_mut s4 nD3, ?_⟩
        · rw [List.length_map]
          refine Nat.le_trans (List.length_filter_le _ _) ?_
          rw [List.length_take]
          omega
        · rw [upd_same, take_at ey, List.filter_append, List.filter_cons_of_pos (p := fun x : PySem.Str => decide (x ≠ nil0)) (decide_eq_true ne), List.map_append] <;> rfl
      · have e : y = nil0 := by
          by_cases h : y = nil0
          · exact h
          · exact absurd (by rw [decide_eq_false (fun z => h (V.str.inj z))] <;> rfl) c
        refine ⟨s4, ?_⟩
        rw [take_at ey, List.filter_append, List.filter_cons_of_neg (p := fun x : PySem.Str => decide (x ≠ nil0)) (by rw [e, decide_eq_true_eq]; exact fun z => z rfl)]
        rw [List.filter_nil, List.append_nil]
        exact hD3
    rintro H4 ⟨s4, hD3⟩
    rw [List.length_map, List.take_of_length_le (Nat.le_refl _), ← hfo] at hD3
    refine ⟨D3, true, _, rfl, SqL.of hD3, ?_, fun p H5 s5 np hp => ?_⟩
    · refine Nat.le_trans (List.length_filter_le _ _) ?_
      rw [hfo]
      omega
    exact k p H5 ((((s1.trans s2).trans ta').trans s4).trans s5) hp
end
end Mk

set_option Elab.async false
set_option linter.unusedVariables false
set_option maxRecDepth 100000
set_option maxHeartbeats 8000000
namespace Mk
open PySem L2 Pk
/-! joined texts -/
def jn (ws : List PySem.Str) : PySem.Str := ⟨(ws.flatMap fun w => w.cps.toList).toArray⟩
theorem str_ext {a b : PySem.Str} (h : a.cps.toList = b.cps.toList) : a = b := by
  obtain ⟨⟨a⟩⟩ := a
  obtain ⟨⟨b⟩⟩ := b
  have h : a = b := h
  rw [h]
theorem str_app (a b : PySem.Str) : (a ++ b).cps.toList = a.cps.toList ++ b.cps.toList := by
  show (a.cps ++ b.cps).toList = _
  rw [Array.toList_append]
theorem join_nil_tl : ∀ ws : List PySem.Str, (Str.join nil0 ws).cps.toList = ws.flatMap fun w => w.cps.toList
  | [] => rfl
  | [x] => by
    show x.cps.toList = _
    rw [List.flatMap_cons, List.flatMap_nil, List.append_nil]
  | x :: y :: r => by
    show (x ++ nil0 ++ Str.join nil0 (y :: r)).cps.toList = _
    have e : nil0.cps.toList = [] := by decide +kernel
    rw [str_app, str_app, e, List.append_nil, join_nil_tl (y :: r)] <;> rfl
theorem join0 (ws : List PySem.Str) : Txt.join nil0 ws = jn ws := by
  have e : Txt.join nil0 ws = Str.join nil0 ws := TL.join_eq nil0 ws
  rw [e]
  exact str_ext (join_nil_tl ws)
theorem jn_app (a b : List PySem.Str) : jn (a ++ b) = jn a ++ jn b := str_ext (by
  rw [str_app]
  show (a ++ b).flatMap _ = a.flatMap _ ++ b.flatMap _
  rw [List.flatMap_append])
theorem jn_len (ws : List PySem.Str) : (jn ws).length = (ws.map (·.length)).sum := by
  show (ws.flatMap fun w => w.cps.toList).length = _
  rw [List.length_flatMap]
  congr 1
theorem rep_cps : ∀ (m : Nat) (a acc : Array Nat), ((List.replicate m a).foldl (· ++ ·) acc).toList = acc.toList ++ (List.replicate m a.toList).flatten
  | 0, _, _ => by simp
  | m + 1, a, acc => by
    rw [List.replicate_succ, List.foldl_cons, rep_cps m, Array.toList_append, List.replicate_succ, List.flatten_cons, List.append_assoc]
theorem mul_tl (x : PySem.Str) (q : Nat) : (Txt.mul x (q : Int)).cps.toList = (List.replicate q x.cps.toList).flatten := by
  unfold Txt.mul
  by_cases c : (q : Int) < 1
  · rw [if_pos c, show q = 0 by omega] <;> rfl
  · rw [if_neg c]
    by_cases d : ((q : Int) == 1 || x.length == 0) = true
    · rw [if_pos d]
      rw [Bool.or_eq_true, beq_iff_eq, beq_iff_eq] at d
      rcases d with d | d
      · rw [show q = 1 by omega, List.replicate_succ, List.replicate_zero, List.flatten_cons, List.flatten_nil, List.append_nil]
      · have e : x.cps.toList = [] := List.eq_nil_of_length_eq_zero (by rw [Array.length_toList]; exact d)
        rw [e]
        exact (List.flatten_replicate_nil).symm
    · rw [if_neg d]
      show ((List.replicate (q : Int).toNat x.cps).foldl (· ++ ·) #[]).toList = _
      rw [Int.toNat_natCast, rep_cps] <;> rfl
theorem jn_rep (ws : List PySem.Str) : ∀ q : Nat, (jn (List.replicate q ws).flatten).cps.toList = (List.replicate q (jn ws).cps.toList).flatten
  | 0 => rfl
  | q + 1 => by
    rw [List.replicate_succ, List.flatten_cons, jn_app, str_app, jn_rep ws q, List.replicate_succ, List.flatten_cons]
theorem mul_jn (ws : List PySem.Str) (q : Nat) : Txt.mul (jn ws) (q : Int) = jn (List.replicate q ws).flatten := str_ext (by rw [mul_tl, jn_rep])
theorem mulOk {x : PySem.Str} {q : Nat} (h : x.length * q ≤ 10000000) (hq : q ≤ 10000000) : MulOk x (q : Int) := by
  refine ⟨?_, fun h1 h2 => ?_, fun _ _ => ?_⟩
  · rw [decide_eq_false (by omega), decide_eq_false (by omega)] <;> rfl
  · have hx : x.length ≤ 10000000 := by
      have q1 : 1 ≤ q := by omega
      have := Nat.mul_le_mul_left x.length q1
      omega
    have z : (x.length : Int) ≤ (2 ^ 63 - 1) / (q : Int) := by
      refine Int.le_ediv_of_mul_le (by omega) ?_
      have e : (x.length : Int) * (q : Int) = ((x.length * q : Nat) : Int) := by rw [Int.natCast_mul]
      rw [e]
      omega
    omega
  · unfold Builtin.Str.tooLong
    refine decide_eq_false ?_
    have : (10000000 : Nat) ≤ sizeLine := by decide
    rw [Int.toNat_natCast]
    omega
/-! a run that comes back -/
section
variable {rs : List Rl} {t : PySem.Str} {s x : Std}
theorem nth_round {c : Nat} (h : nth rs t x c = some x) : ∀ (q r : Nat), nth rs t x (q * c + r) = nth rs t x r
  | 0, r => by rw [Nat.zero_mul, Nat.zero_add]
  | q + 1, r => by rw [show (q + 1) * c + r = c + (q * c + r) by rw [Nat.succ_mul]; omega, nth_add h, nth_round h q r]
theorem sd_round {c : Nat} (h : nth rs t x c = some x) : ∀ (q : Nat) {r : Nat} {y : Std}, nth rs t x r = some y → sd rs t x (q * c + r) = (List.replicate q (sd rs t x c)).flatten ++ sd rs t x r
  | 0, r, y, hy => by rw [Nat.zero_mul, Nat.zero_add] <;> rfl
  | q + 1, r, y, hy => by
    have e := nth_round h q r
    rw [hy] at e
    rw [show (q + 1) * c + r = c + (q * c + r) by rw [Nat.succ_mul]; omega, sd_add h e, sd_round h q hy, List.replicate_succ, List.flatten_cons, List.append_assoc]
/-- the run from s at L, by the round from k to m -/
theorem far_run {k m L : Nat} (hk : nth rs t s k = some x) (hm : nth rs t s m = some x) (km : k < m) (kL : k ≤ L) :
    ∃ y, nth rs t s L = some y ∧ nth rs t s (k + (L - k) % (m - k)) = some y ∧ fit rs t y ≠ none ∧
      sd rs t s L = (sd rs t s m).take k ++ (List.replicate ((L - k) / (m - k)) (((sd rs t s m).drop k).take (m - k))).flatten ++ ((sd rs t s m).drop k).take ((L - k) % (m - k)) := by
  have pos : 0 < m - k := by omega
  have hr := Nat.mod_lt (L - k) pos
  have hc : nth rs t x (m - k) = some x := by
    have := nth_add hk (m - k)
    rw [show k + (m - k) = m by omega] at this
    rw [← this, hm]
  have ediv : (L - k) / (m - k) * (m - k) + (L - k) % (m - k) = L - k := by
    have := Nat.div_add_mod (L - k) (m - k)
    rw [Nat.mul_comm] at this
    exact this
  obtain ⟨y, r, hy, hf⟩ := nth_fit hm (m := k + (L - k) % (m - k)) (by omega)
  have hyx : nth rs t x ((L - k) % (m - k)) = some y := by rw [← nth_add hk]; exact hy
  have hL : nth rs t s L = some y := by
    rw [show L = k + (L - k) by omega, nth_add hk, ← ediv, nth_round hc]
    exact hyx
  refine ⟨y, hL, hy, (fun z => by rw [hf] at z; cases z), ?_⟩
  have h1 : sd rs t s L = sd rs t s k ++ sd rs t x (L - k) := by
    have h2 : nth rs t x (L - k) = some y := by rw [← nth_add hk, show k + (L - k) = L by omega]; exact hL
    have := sd_add hk h2
    rw [show k + (L - k) = L by omega] at this
    exact this
  have h3 : sd rs t s m = sd rs t s k ++ sd rs t x (m - k) := by
    have := sd_add hk hc
    rw [show k + (m - k) = m by omega] at this
    exact this
  have lk : (sd rs t s k).length = k := sd_len hk
  have lc : (sd rs t x (m - k)).length = m - k := sd_len hc
  have d1 : (sd rs t s m).drop k = sd rs t x (m - k) := by
    rw [h3, List.drop_append_of_le_length (by omega), List.drop_of_length_le (by omega), List.nil_append]
  rw [d1, sd_take hm (Nat.le_of_lt km), List.take_of_length_le (l := sd rs t x (m - k)) (i := m - k) (by omega), sd_take hc (Nat.le_of_lt hr), h1]
  rw [show sd rs t x (L - k) = sd rs t x ((L - k) / (m - k) * (m - k) + (L - k) % (m - k)) by rw [ediv], sd_round hc _ hyx, List.append_assoc]
end
/-! equal standings -/
theorem sum_le {ws : List PySem.Str} {c : Nat} (h : ∀ w ∈ ws, w.length ≤ c) : (ws.map (·.length)).sum ≤ ws.length * c := by
  induction ws with
  | nil => simp
  | cons w ws ih =>
    rw [List.map_cons, List.sum_cons, List.length_cons, Nat.succ_mul]
    have := h w List.mem_cons_self
    have := ih fun v m => h v (List.mem_cons_of_mem _ m)
    omega
end Mk

set_option Elab.async false
set_option linter.unusedVariables false
set_option maxRecDepth 100000
set_option maxHeartbeats 16000000
namespace Mk
open PySem L2 Pk
abbrev sIsSurf : Stmt := top 27
abbrev sCheckSurf : Stmt := top 30
abbrev sIsText : Stmt := top 18
abbrev sCheckText : Stmt := top 28
abbrev sCheckPlain : Stmt := top 29
abbrev sSigns : Stmt := top 32
/-- a text of letters -/
def TxtOk (l t : PySem.Str) : Prop := (∀ c ∈ t.cps.toList, c ∈ l.cps.toList) ∧ t.length ≤ 400
structure Consts (mg : PySem.Str → Option Value) : Prop where
  ml : ∃ t, mg "MOST_LETTERS" = some (.int 400 t)
section
variable {P : Program} {w : World} {K : PySem.W.Frag} {mg : PySem.Str → Option Value} {base : Heap}
/-! is_text -/
abbrev nIsText : List PySem.Str := ["letters", "value", "letter"]
theorem scIsText : FnScope nIsText ["letters", "value"] (defScope sIsText) := ⟨rfl, rfl, rfl, by decide +kernel, rfl, by decide +kernel, by decide +kernel⟩
def spIsText : Sp := fun vs H Q _ => ∃ l t : PySem.Str, vs = [.str l, .str t] ∧ TxtOk l t ∧ ∀ H', Same H H' → Q (.bl true) H'
theorem ok_isText {f : Addr} {fd : FuncData} (F : Fun K "is_text" "is_text" sIsText f fd) (T : TM mg) (C : Consts mg) : FnOk P w K mg base CX0 1 f fd ["letters", "value"] spIsText := by
  refine F.ok scIsText (fun vs H Q E h => ?_) (fun cdv A outer s H vs Q E hr h => ?_)
  · obtain ⟨l, t, rfl, _⟩ := h
    rfl
  · obtain ⟨l, t, rfl, ⟨inl, sz⟩, k⟩ := h
    have nd := scIsText.nd
    obtain ⟨tL, gL⟩ := C.ml
    refine ⟨_, (pss_cons (ps_if (PW.pt (pw_or (pt_not (pt_val (pe_callB call_isi (by rfl) T.isi (by decide +kernel) (pa_cons (pv 1) (pa_cons (pe_bltn (v := .ty "str") (by rfl) T.str PyProof.Rows.Boot.str rfl) pa_nil))))) (pw_or1 (pt_cmpR op_gt (pe_callB call_len_str (by rfl) T.len PySem.boot_len (pa_cons (pv 1) pa_nil)) (pe_glob (v := .int 400) (by rfl) gL ⟨tL, rfl⟩) (nomark _)))))
        (pss_one ps_never)
        pss_nil)
      (pss_one (ps_ret (pe_callB (cr_all rfl) (by rfl) T.all (by decide +kernel) (pa_cons (pe_lc (own := [("letter", 2)]) (g := gName 2) (tt := tYes) (by rfl) nd (pi_str (pv 1)) (blkOk_by (own := [("letter", 2)]) (N := nIsText) (sc := defScope sIsText) (by decide +kernel)) (fun _ _ _ _ _ => pg_name (i := 2) nd rfl (Or.inl rfl)) (fun _ _ _ _ _ => pts_nil) (fun _ _ _ _ _ => (pe_cmpR op_in_sign (pv 2) (pv 0) rfl))) pa_nil))))), ?_⟩
    have szl : t.length ≤ sizeLine := Nat.le_trans sz (by decide)
    refine ⟨_, rfl, _, _, _, _, true, rfl, .ty _, .base (.str _), kit_ty (by decide +kernel), _, rfl, iteF ?_⟩
    refine ⟨_, rfl, t, rfl, szl, _, _, rfl, rfl, _, rfl, ?_⟩
    rw [decide_eq_false (p := ((t.length : Int) > 400)) (by omega)]
    refine iteF ?_
    refine ⟨_, rfl, t, rfl, fun D nD => lc_it walk_str (fun i H' => Same H H' ∧ H' D = some (.lst ((List.replicate i true).map V.bl))) ⟨same_new nD, upd_same⟩ (fun _ _ _ _ => trivial) ?_ ?_⟩
    · rintro i v _ H2 hi ⟨s2, hD⟩ ⟨rfl, c, hc, rfl⟩
      have mc : c ∈ l.cps.toList := inl c (List.mem_of_getElem? (by rw [Array.getElem?_toList]; exact hc))
      refine ⟨rfl, ?_⟩
      refine ⟨_, rfl, _, rfl, c, l, rfl, rfl, _, hD, ?_, same_mut s2 nD, ?_⟩
      · rw [List.length_map, List.length_replicate]
        exact Nat.lt_of_lt_of_le hi szl
      · rw [upd_same, decide_eq_true mc, List.replicate_succ', List.map_append] <;> rfl
    · rintro H2 ⟨s2, hD⟩
      refine ⟨D, _, rfl, SqL.of hD, ?_⟩
      rw [show (List.replicate t.cps.size true).all id = true by simp]
      exact k H2 s2
/-! check_text, check_plain -/
theorem scCheckText : FnScope ["machine", "text"] ["machine", "text"] (defScope sCheckText) := ⟨rfl, rfl, rfl, by decide +kernel, rfl, by decide +kernel, by decide +kernel⟩
def spCheckText (K : PySem.W.Frag) (C : Addr) : Sp := fun vs H Q _ => ∃ (x : Addr) (l t : PySem.Str) (n : Int) (rs : List Rl) (ys : List Int), vs = [.ref x, .str t] ∧ MachAt K H C x l n rs ys ∧ TxtOk l t ∧ ∀ H', Same H H' → Q .non H'
theorem ok_checkText {f C : Addr} {fd : FuncData} (F : Fun K "check_text" "check_text" sCheckText f fd) (M : MCls K C) (Gt : Got P w K mg base "is_text" 1 ["letters", "value"] spIsText) : FnOk P w K mg base CX0 2 f fd ["machine", "text"] (spCheckText K C) := by
  refine F.ok scCheckText (fun vs H Q E h => ?_) (fun cdv A outer s H vs Q E hr h => ?_)
  · obtain ⟨x, l, t, n, rs, ys, rfl, _⟩ := h
    rfl
  · obtain ⟨x, l, t, n, rs, ys, rfl, hm, ht, k⟩ := h
    obtain ⟨dx, aR, aY, aS, aA, g, R, hx, _⟩ := hm.ex
    refine ⟨_, pss_one (ps_if (pt_not (pt_val (pe_got Gt hr (by rfl) (pa_cons (pe_fld (pv 0) rfl) (pa_cons (pv 1) pa_nil))))) (pss_one ps_never) pss_nil), ?_⟩
    exact ⟨_, rfl, x, C, dx, _, .str l, rfl, hx, M.cls, M.letters, rfl, _, rfl, l, t, rfl, ht, fun H1 s1 => ⟨_, rfl, iteF (k H1 s1)⟩⟩
theorem scCheckPlain : FnScope ["machine", "text"] ["machine", "text"] (defScope sCheckPlain) := ⟨rfl, rfl, rfl, by decide +kernel, rfl, by decide +kernel, by decide +kernel⟩
def spCheckPlain (K : PySem.W.Frag) (C : Addr) : Sp := fun vs H Q _ => ∃ (x : Addr) (l t : PySem.Str) (n : Int) (rs : List Rl) (ys : List Int), vs = [.ref x, .str t] ∧ MachAt K H C x l n rs ys ∧ TxtOk l t ∧ (rs.map Rl.k3).Nodup ∧ ∀ H', Same H H' → Q .non H'
theorem MachAt.plain {K : PySem.W.Frag} {H : Hp} {C x : Addr} {l : PySem.Str} {n : Int} {rs : List Rl} {ys : List Int} (hm : MachAt K H C x l n rs ys) (nd : (rs.map Rl.k3).Nodup) :
    ∃ (dx aR aY aS aA : Addr) (R : Kept), H x = some (.ins C dx [("letters", .str l), ("states", .int n), ("rules", .ref aR), ("yes", .ref aY), ("symbols", .ref aS), ("_acts", .ref aA), ("guess", .non)]) ∧ H aS = some (.tup ((symsL rs).map V.str)) := by
  obtain ⟨dx, aR, aY, aS, aA, g, R, hx, hR, kR, eR, hY, hS, hA, hg⟩ := hm.ex
  rw [guess_none nd] at hg
  have eg : g = .non := hg
  subst eg
  rw [syms_same] at hS
  exact ⟨dx, aR, aY, aS, aA, R, hx, hS⟩
theorem ok_checkPlain {f C : Addr} {fd : FuncData} (F : Fun K "check_plain" "check_plain" sCheckPlain f fd) (M : MCls K C) (Gt : Got P w K mg base "check_text" 2 ["machine", "text"] (spCheckText K C)) : FnOk P w K mg base CX0 3 f fd ["machine", "text"] (spCheckPlain K C) := by
  refine F.ok scCheckPlain (fun vs H Q E h => ?_) (fun cdv A outer s H vs Q E hr h => ?_)
  · obtain ⟨x, l, t, n, rs, ys, rfl, _⟩ := h
    rfl
  · obtain ⟨x, l, t, n, rs, ys, rfl, hm, ht, ndk, k⟩ := h
    refine ⟨_, pss_cons (ps_expr (pe_got Gt hr (by rfl) (pa_cons (pv 0) (pa_cons (pv 1) pa_nil))))
      (pss_one (ps_if (pt_cmp (pc_notN (pe_fld (pv 0) rfl))) (pss_one ps_never) pss_nil)), ?_⟩
    refine ⟨_, rfl, _, rfl, x, l, t, n, rs, ys, rfl, hm, ht, fun H1 s1 => ?_⟩
    obtain ⟨dx, aR, aY, aS, aA, R, hx, _⟩ := (hm.lk (Lk.of s1)).plain ndk
    exact ⟨_, rfl, x, C, dx, _, .non, rfl, hx, M.cls, M.guess, rfl, _, rfl, iteF (k H1 s1)⟩
theorem val_some {kvs : List (Key × V)} {l : List PySem.Str} {y : PySem.Str} (hk : kvs.map (·.1) = (Sx.once l).map kT) (m : y ∈ l) : (valV kvs (kT y)).isSome = true := by
  have m2 : kT y ∈ kvs.map (·.1) := by
    rw [hk]
    exact List.mem_map.mpr ⟨y, (Sx.once_mem l y).mpr m, rfl⟩
  obtain ⟨p, mp, e⟩ := List.mem_map.mp m2
  unfold valV
  rw [Option.isSome_map]
  rw [List.find?_isSome]
  exact ⟨p, mp, decide_eq_true e⟩
theorem symsL_len (rs : List Rl) : (symsL rs).length ≤ 2 * rs.length := by
  have z := nodup_sub (l := symsL rs) (ks := rs.map Rl.tp ++ rs.map Rl.sy) (Sx.asc_nodup _ _) fun x m => (List.mem_filter.mp ((Sx.asc_mem _ _ x).mp m)).1
  rw [List.length_append, List.length_map, List.length_map] at z
  omega
end
end Mk

set_option Elab.async false
set_option linter.unusedVariables false
set_option maxRecDepth 100000
set_option maxHeartbeats 16000000
namespace Mk
open PySem L2 Pk
/-- what a machine is known by, for runs -/
structure Pl (K : PySem.W.Frag) (H : Hp) (C m : Addr) (l : PySem.Str) (n : Int) (rs : List Rl) (ys : List Int) : Prop where
  at_ : MachAt K H C m l n rs ys
  nd : (rs.map Rl.k3).Nodup
  few : rs.length ≤ 2000
  ok : ∀ r ∈ rs, RlOk l n r
theorem Pl.mono {K : PySem.W.Frag} {H H' : Hp} {C m : Addr} {l : PySem.Str} {n : Int} {rs : List Rl} {ys : List Int} (h : Pl K H C m l n rs ys) (s : Same H H') : Pl K H' C m l n rs ys := ⟨h.at_.lk (Lk.of s), h.nd, h.few, h.ok⟩
theorem sym_known {rs : List Rl} : ∀ r ∈ rs, r.sy ≠ nil0 → r.sy ∈ symsL rs := fun r m ne =>
  (Sx.asc_mem _ _ r.sy).mpr (List.mem_filter.mpr ⟨List.mem_append_right _ (List.mem_map.mpr ⟨r, m, rfl⟩), decide_eq_true ne⟩)
theorem known_sym {l : PySem.Str} {n : Int} {rs : List Rl} (ok : ∀ r ∈ rs, RlOk l n r) : ∀ y ∈ symsL rs, symB y = true := fun y m => by
  obtain ⟨m1, m2⟩ := List.mem_filter.mp ((Sx.asc_mem _ _ y).mp m)
  have ne := of_decide_eq_true m2
  rcases List.mem_append.mp m1 with m1 | m1
  · obtain ⟨r, mr, rfl⟩ := List.mem_map.mp m1
    rcases (ok r mr).tp with h | h
    · exact h
    · exact absurd h ne
  · obtain ⟨r, mr, rfl⟩ := List.mem_map.mp m1
    have d := (ok r mr).de
    rcases d.one with h | h | h | h
    · exact absurd (d.no (.inl h)) ne
    · exact absurd (d.no (.inr h)) ne
    · exact d.sym (.inl h)
    · exact d.sym (.inr h)
section
variable {P : Program} {w : World} {K : PySem.W.Frag} {mg : PySem.Str → Option Value} {base : Heap}
/-! signs_of -/
def signsOf (t : PySem.Str) : PySem.Str := lt0 ++ t ++ gt0
theorem scSigns : FnScope ["text"] ["text"] (defScope sSigns) := ⟨rfl, rfl, rfl, by decide +kernel, rfl, by decide +kernel, by decide +kernel⟩
def spSigns : Sp := fun vs H Q _ => ∃ t : PySem.Str, vs = [.str t] ∧ t.length ≤ 1000 ∧ Q (.str (signsOf t)) H
theorem len_app (a b : PySem.Str) : (a ++ b).length = a.length + b.length := by
  show (a.cps ++ b.cps).size = _
  rw [Array.size_append] <;> rfl
theorem ok_signs {f : Addr} {fd : FuncData} (F : Fun K "signs_of" "signs_of" sSigns f fd) : FnOk P w K mg base CX0 1 f fd ["text"] spSigns := by
  refine F.ok scSigns (fun vs H Q E h => ?_) (fun cdv A outer s H vs Q E hr h => ?_)
  · obtain ⟨t, rfl, _⟩ := h
    rfl
  · obtain ⟨t, rfl, sz, k⟩ := h
    refine ⟨_, (pss_one (ps_ret (pe_op op_add_str (pe_op op_add_str pe_str (pv 0)) pe_str))), ?_⟩
    have l1 : lt0.length = 1 := by decide +kernel
    have l2 : gt0.length = 1 := by decide +kernel
    refine ⟨_, rfl, _, _, rfl, rfl, ?_, _, _, rfl, rfl, ?_, k⟩
    · exact Nat.le_trans (show lt0.length + t.length ≤ 1001 by omega) (by decide)
    · exact Nat.le_trans (show (lt0 ++ t).length + gt0.length ≤ 1002 by rw [len_app]; omega) (by decide)
theorem signs_tl (t : PySem.Str) : (signsOf t).cps.toList = 60 :: (t.cps.toList ++ [62]) := by
  unfold signsOf
  rw [str_app, str_app]
  have e1 : lt0.cps.toList = [60] := by decide +kernel
  have e2 : gt0.cps.toList = [62] := by decide +kernel
  rw [e1, e2] <;> rfl
theorem signs_at {t : PySem.Str} {p : Int} (h0 : 0 ≤ p) (h1 : p ≤ (t.length : Int) + 1) : ∃ c, atI (signsOf t).cps.toList p = some c ∧ sgn1 c = signAt t p := by
  obtain ⟨j, rfl⟩ : ∃ j : Nat, p = (j : Int) := ⟨p.toNat, by omega⟩
  have lt : t.cps.toList.length = t.length := by rw [Array.length_toList] <;> rfl
  have e60 : sgn1 60 = lt0 := by decide +kernel
  have e62 : sgn1 62 = gt0 := by decide +kernel
  rw [signs_tl]
  unfold signAt
  cases j with
  | zero => exact ⟨60, atI_nat rfl, by rw [if_pos (show ((0 : Nat) : Int) = 0 from rfl)]; exact e60⟩
  | succ j =>
    rw [if_neg (by omega)]
    by_cases c : j < t.length
    · rw [if_neg (by omega)]
      refine ⟨t.cps.toList[j]'(by omega), atI_nat ?_, ?_⟩
      · rw [List.getElem?_cons_succ, List.getElem?_append_left (by omega), List.getElem?_eq_getElem]
      · rw [show ((((j + 1 : Nat) : Int) - 1).toNat) = j by omega, List.getD_eq_getElem?_getD, List.getElem?_eq_getElem (by omega)] <;> rfl
    · have ej : j = t.length := by omega
      rw [if_pos (by omega)]
      refine ⟨62, atI_nat ?_, e62⟩
      rw [List.getElem?_cons_succ, List.getElem?_append_right (by omega), ej, lt, Nat.sub_self] <;> rfl
end
end Mk

set_option Elab.async false
set_option linter.unusedVariables false
set_option maxRecDepth 100000
set_option maxHeartbeats 16000000
namespace Mk
open PySem L2 Pk
abbrev sRInit : Stmt := inClass (top 34) 0
abbrev sRTop : Stmt := inClass (top 34) 1
abbrev sRPresent : Stmt := inClass (top 34) 2
abbrev sRFit : Stmt := inClass (top 34) 3
abbrev sRApply : Stmt := inClass (top 34) 4
/-- the class Run -/
structure RCls (K : PySem.W.Frag) (C : Addr) : Prop where
  cls : Cls K C
  machine : NoAttr K C "machine"
  signs : NoAttr K C "signs"
  state : NoAttr K C "state"
  place : NoAttr K C "place"
  stack : NoAttr K C "stack"
abbrev rFs (m ls : Addr) (t : PySem.Str) (s : Std) : List (PySem.Str × V) := [("machine", .ref m), ("signs", .str (signsOf t)), ("state", .int s.q), ("place", .int s.p), ("stack", .ref ls)]
/-- a run at x -/
structure RunAt (H : Hp) (C x dx ls m : Addr) (t : PySem.Str) (s : Std) : Prop where
  hx : H x = some (.ins C dx (rFs m ls t s))
  hl : H ls = some (.lst (s.st.map V.str))
theorem RunAt.mono {H H' : Hp} {C x dx ls m : Addr} {t : PySem.Str} {s : Std} (h : RunAt H C x dx ls m t s) (e : Same H H') : RunAt H' C x dx ls m t s := ⟨e _ _ h.hx, e _ _ h.hl⟩
theorem RunAt.ne {H : Hp} {C x dx ls m : Addr} {t : PySem.Str} {s : Std} (h : RunAt H C x dx ls m t s) : x ≠ ls := ne_of h.hx h.hl (by intro q; cases q)
def Off2 (x y : Addr) (H H' : Hp) : Prop := ∀ b o, b ≠ x → b ≠ y → H b = some o → H' b = some o
section
variable {P : Program} {w : World} {K : PySem.W.Frag} {mg : PySem.Str → Option Value} {base : Heap}
/-! Run.__init__ -/
theorem scRInit : FnScope ["self", "machine", "text", "standing"] ["self", "machine", "text", "standing"] (defScope sRInit) := ⟨rfl, rfl, rfl, by decide +kernel, rfl, by decide +kernel, by decide +kernel⟩
def spRInit (K : PySem.W.Frag) (C : Addr) : Sp := fun vs H Q _ => ∃ (x dx m p : Addr) (b1 b2 : Bool) (t : PySem.Str) (s : Std), vs = [.ref x, .ref m, .str t, .ref p] ∧ H x = some (.ins C dx []) ∧ t.length ≤ 1000 ∧ StdB b1 b2 K H p s ∧
  ∀ (H' : Hp) (ls : Addr), Off x H H' → H ls = none → RunAt H' C x dx ls m t s → Q .non H'
theorem ok_rInit {f C : Addr} {fd : FuncData} (F : Fun K "__init__" "Run.__init__" sRInit f fd) (T : TM mg) (M : RCls K C) (Gs : Got P w K mg base "signs_of" 1 ["text"] spSigns) : FnOk P w K mg base CX0 2 f fd ["self", "machine", "text", "standing"] (spRInit K C) := by
  refine F.ok scRInit (fun vs H Q E h => ?_) (fun cdv A outer s H vs Q E hr h => ?_)
  · obtain ⟨x, dx, m, p, b1, b2, t, s, rfl, _⟩ := h
    rfl
  · obtain ⟨x, dx, m, p, b1, b2, t, s0, rfl, hx, lt, ⟨q, hp, hq⟩, k⟩ := h
    have small : ∀ {n : Nat}, n ≤ 10 → n < 1000 := fun h => by omega
    refine ⟨_, (pss_cons (ps_fld (pv 0) (pv 1) rfl)
      (pss_cons (ps_fld (pv 0) (pe_got Gs hr (by rfl) (pa_cons (pv 2) pa_nil)) rfl)
      (pss_cons (ps_fld (pv 0) (pe_ix ix_seq (pv 3) pe_int fun _ _ => rfl) rfl)
      (pss_cons (ps_fld (pv 0) (pe_ix ix_seq (pv 3) pe_int fun _ _ => rfl) rfl)
      (pss_one (ps_fld (pv 0) (pe_callTy (call_list_of) (by rfl) T.list PyProof.Rows.Boot.list (pa_cons (pe_ix ix_seq (pv 3) pe_int fun _ _ => rfl) pa_nil)) rfl)))))), ?_⟩
    refine ⟨_, rfl, _, rfl, x, C, dx, _, rfl, hx, M.cls, M.machine, by decide, ?_⟩
    refine ⟨_, rfl, t, rfl, lt, _, rfl, x, C, dx, _, rfl, upd_same, M.cls, M.signs, show 1 < 1000 by decide, ?_⟩
    have o2 : Off x H (upd (upd H x (.ins C dx [("machine", .ref m)])) x (.ins C dx [("machine", .ref m), ("signs", .str (signsOf t))])) := Off.put.trans Off.put
    have hx2 : (upd (upd H x (.ins C dx [("machine", .ref m)])) x (.ins C dx [("machine", .ref m), ("signs", .str (signsOf t))])) x = some (.ins C dx [("machine", .ref m), ("signs", .str (signsOf t))]) := upd_same
    show (tSeq _ _) _ _ (upd (upd H x (.ins C dx [("machine", .ref m)])) x (.ins C dx [("machine", .ref m), ("signs", .str (signsOf t))]))
    generalize upd (upd H x (.ins C dx [("machine", .ref m)])) x (.ins C dx [("machine", .ref m), ("signs", .str (signsOf t))]) = H2 at o2 hx2 ⊢
    refine ⟨_, rfl, ix_sq (hp.off hx o2) rfl ?_⟩
    refine ⟨_, rfl, x, C, dx, _, rfl, hx2, M.cls, M.state, show 2 < 1000 by decide, ?_⟩
    have o3 : Off x H (upd H2 x (.ins C dx [("machine", .ref m), ("signs", .str (signsOf t)), ("state", .int s0.q)])) := o2.trans Off.put
    have hx3 : (upd H2 x (.ins C dx [("machine", .ref m), ("signs", .str (signsOf t)), ("state", .int s0.q)])) x = some (.ins C dx [("machine", .ref m), ("signs", .str (signsOf t)), ("state", .int s0.q)]) := upd_same
    show (tSeq _ _) _ _ (upd H2 x (.ins C dx [("machine", .ref m), ("signs", .str (signsOf t)), ("state", .int s0.q)]))
    generalize upd H2 x (.ins C dx [("machine", .ref m), ("signs", .str (signsOf t)), ("state", .int s0.q)]) = H3 at o3 hx3 ⊢
    refine ⟨_, rfl, ix_sq (hp.off hx o3) rfl ?_⟩
    refine ⟨_, rfl, x, C, dx, _, rfl, hx3, M.cls, M.place, show 3 < 1000 by decide, ?_⟩
    have o4 : Off x H (upd H3 x (.ins C dx [("machine", .ref m), ("signs", .str (signsOf t)), ("state", .int s0.q), ("place", .int s0.p)])) := o3.trans Off.put
    have hx4 : (upd H3 x (.ins C dx [("machine", .ref m), ("signs", .str (signsOf t)), ("state", .int s0.q), ("place", .int s0.p)])) x = some (.ins C dx [("machine", .ref m), ("signs", .str (signsOf t)), ("state", .int s0.q), ("place", .int s0.p)]) := upd_same
    refine ⟨_, rfl, ix_sq (hp.off hx o4) rfl ?_⟩
    refine ⟨q, _, rfl, (hq.off hx o4).any, fun ls nls => ?_⟩
    have tl := same_new (o := HO.lst (s0.st.map V.str)) nls
    have nls2 : (upd H3 x (.ins C dx [("machine", .ref m), ("signs", .str (signsOf t)), ("state", .int s0.q), ("place", .int s0.p)])) ls = none := nls
    have lx : ls ≠ x := fun e => by rw [e, hx4] at nls2; cases nls2
    have nls' : H ls = none := by
      cases h : H ls with
      | none => rfl
      | some o => rw [o4 _ _ lx h] at nls2; cases nls2
    refine ⟨_, rfl, x, C, dx, _, rfl, tl _ _ hx4, M.cls, M.stack, show 4 < 1000 by decide, ?_⟩
    exact k _ ls ((o4.trans (Off.same tl)).trans Off.put) nls' ⟨upd_same, by rw [upd_ne lx]; exact upd_same⟩
/-! Run.top -/
theorem scRTop : FnScope ["self"] ["self"] (defScope sRTop) := ⟨rfl, rfl, rfl, by decide +kernel, rfl, by decide +kernel, by decide +kernel⟩
def spRTop (C : Addr) : Sp := fun vs H Q _ => ∃ (x dx ls m : Addr) (t : PySem.Str) (s : Std), vs = [.ref x] ∧ RunAt H C x dx ls m t s ∧ Q (.str (topOf s.st)) H
theorem last_at {st : List PySem.Str} (h : st ≠ []) : atI (st.map V.str) (-1) = some (.str (topOf st)) := by
  have z := top_at h
  unfold atI ixN at z ⊢
  have pos : 0 < st.length := List.length_pos_iff.mpr h
  rw [List.length_map] at z
  rw [if_neg (by omega), List.length_map, if_pos (by omega)]
  rw [if_pos (by omega), if_pos (by omega)] at z
  rw [show ((-1 : Int) + (st.length : Int)).toNat = ((st.length : Int) - 1).toNat by omega]
  exact z
theorem ok_rTop {f C : Addr} {fd : FuncData} (F : Fun K "top" "Run.top" sRTop f fd) (M : RCls K C) : FnOk P w K mg base CX0 1 f fd ["self"] (spRTop C) := by
  refine F.ok scRTop (fun vs H Q E h => ?_) (fun cdv A outer s H vs Q E hr h => ?_)
  · obtain ⟨x, dx, ls, m, t, s, rfl, _⟩ := h
    rfl
  · obtain ⟨x, dx, ls, m, t, s0, rfl, hR, k⟩ := h
    refine ⟨_, (pss_one (ps_ret (pe_ifExp (pt_truth (pe_fld (pv 0) rfl) (by intro _; rfl)) (pe_ix ix_list (pe_fld (pv 0) rfl) (pe_un un_neg pe_int) fun _ _ => rfl) pe_str))), ?_⟩
    refine ⟨_, rfl, x, C, dx, _, .ref ls, rfl, hR.hx, M.cls, M.stack, rfl, _, .inl ⟨_, SqL.of hR.hl, rfl⟩, ?_⟩
    by_cases c : s0.st = []
    · rw [c] at k ⊢
      exact iteF k
    · have e : (!(s0.st.map V.str).isEmpty) = true := by
        cases h : s0.st with
        | nil => exact absurd h c
        | cons _ _ => rfl
      rw [e]
      refine iteT ?_
      exact ⟨_, rfl, x, C, dx, _, .ref ls, rfl, hR.hx, M.cls, M.stack, rfl, _, rfl, ls, _, _, _, rfl, rfl, SqL.of hR.hl, last_at c, k⟩
/-! Run.present -/
theorem scRPresent : FnScope ["self"] ["self"] (defScope sRPresent) := ⟨rfl, rfl, rfl, by decide +kernel, rfl, by decide +kernel, by decide +kernel⟩
def spRPresent (K : PySem.W.Frag) (C : Addr) : Sp := fun vs H Q _ => ∃ (x dx ls m : Addr) (t : PySem.Str) (s : Std), vs = [.ref x] ∧ RunAt H C x dx ls m t s ∧ ∀ (p : Addr) (H' : Hp), Same H H' → StdB false false K H' p s → Q (.ref p) H'
theorem ok_rPresent {f C : Addr} {fd : FuncData} (F : Fun K "present" "Run.present" sRPresent f fd) (T : TM mg) (M : RCls K C) : FnOk P w K mg base CX0 1 f fd ["self"] (spRPresent K C) := by
  refine F.ok scRPresent (fun vs H Q E h => ?_) (fun cdv A outer s H vs Q E hr h => ?_)
  · obtain ⟨x, dx, ls, m, t, s, rfl, _⟩ := h
    rfl
  · obtain ⟨x, dx, ls, m, t, s0, rfl, hR, k⟩ := h
    refine ⟨_, (pss_one (ps_ret (pe_tup (pa_cons (pe_fld (pv 0) rfl) (pa_cons (pe_fld (pv 0) rfl) (pa_cons (pe_callTy (call_tuple_of) (by rfl) T.tuple PyProof.Rows.Boot.tuple (pa_cons (pe_fld (pv 0) rfl) pa_nil)) pa_nil)))))), ?_⟩
    refine ⟨_, rfl, x, C, dx, _, .int s0.q, rfl, hR.hx, M.cls, M.state, rfl, _, rfl, x, C, dx, _, .int s0.p, rfl, hR.hx, M.cls, M.place, rfl, _, rfl, x, C, dx, _, .ref ls, rfl, hR.hx, M.cls, M.stack, rfl, ls, _, rfl, .inl ⟨SqL.of hR.hl, fun q nq => ⟨show 3 ≤ sizeLine by decide, fun u nu => ?_⟩⟩⟩
    have tq := same_new (o := HO.tup (s0.st.map V.str)) nq
    have tu := same_new (o := HO.tup [V.int s0.q, V.int s0.p, V.ref q]) nu
    exact k u _ (tq.trans tu) ⟨q, .inl (.inl upd_same), .inl (.inl (tu _ _ upd_same))⟩
/-! Run.fitting -/
/-- what fits: None, or the act -/
def ActV (H : Hp) (v : V) : Option Rl → Prop
  | none => v = .non
  | some r => ∃ a, v = .ref a ∧ H a = some (.tup (r.a5.map kV))
theorem ActV.mono {H H' : Hp} {v : V} {o : Option Rl} (h : ActV H v o) (e : Same H H') : ActV H' v o := by
  cases o with
  | none => exact h
  | some r =>
    obtain ⟨a, h1, h2⟩ := h
    exact ⟨a, h1, e _ _ h2⟩
theorem scRFit : FnScope ["self", "acts"] ["self"] (defScope sRFit) := ⟨rfl, rfl, rfl, by decide +kernel, rfl, by decide +kernel, by decide +kernel⟩
def spRFit (K : PySem.W.Frag) (CM C : Addr) : Sp := fun vs H Q _ => ∃ (x dx ls m : Addr) (l t : PySem.Str) (n : Int) (rs : List Rl) (ys : List Int) (s : Std), vs = [.ref x] ∧ RunAt H C x dx ls m t s ∧ Pl K H CM m l n rs ys ∧ t.length ≤ 1000 ∧ 0 ≤ s.p ∧ s.p ≤ (t.length : Int) + 1 ∧
  ∀ (v : V) (H' : Hp), Same H H' → ActV H' v (fit rs t s) → Q v H'
theorem ok_rFit {f C CM fT fA : Addr} {fd fdT fdA : FuncData} (F : Fun K "fitting" "Run.fitting" sRFit f fd) (M : RCls K C) (MC : MCls K CM) (mT : Meth K C "top" fT) (okT : FnOk P w K mg base CX0 1 fT fdT ["self"] (spRTop C)) (bT : Binds K fdT ["self"] [])
    (mA : Meth K CM "acts" fA) (okA : FnOk P w K mg base CX0 1 fA fdA ["self", "state", "sign", "top"] (spActsM K CM)) (bA : Binds K fdA ["self", "state", "sign", "top"] []) : FnOk P w K mg base CX0 2 f fd ["self"] (spRFit K CM C) := by
  refine F.ok scRFit (fun vs H Q E h => ?_) (fun cdv A outer s H vs Q E hr h => ?_)
  · obtain ⟨x, dx, ls, m, l, t, n, rs, ys, s, rfl, _⟩ := h
    rfl
  · obtain ⟨x, dx, ls, m, l, t, n, rs, ys, s0, rfl, hR, hm, lt, p0, p1, k⟩ := h
    have nd := scRFit.nd
    refine ⟨_, (pss_cons (ps_set (i := 1) nd rfl (Or.inl rfl) (pe_meth (pe_fld (pv 0) rfl) MC.cls mA okA hr bA .nil pass0 (pa_cons (pe_fld (pv 0) rfl) (pa_cons (pe_ix ix_str (pe_fld (pv 0) rfl) (pe_fld (pv 0) rfl) fun _ _ => rfl) (pa_cons (pe_meth0 (pv 0) M.cls mT okT hr bT .nil pass0) pa_nil)))))
      (pss_one (ps_ret (pe_ifExp (pt_truth (pv 1) (by intro _; rfl)) (pe_ix ix_tup (pv 1) pe_int fun _ _ => rfl) pe_non)))), ?_⟩
    obtain ⟨dm, aR, aY, aS, aA, R, hmx, hS⟩ := hm.at_.plain hm.nd
    obtain ⟨c, hc, ec⟩ := signs_at p0 p1
    have szl : (signsOf t).length ≤ sizeLine := by
      have e : (signsOf t).length = t.length + 2 := by
        show (signsOf t).cps.size = _
        rw [← Array.length_toList, signs_tl, List.length_cons, List.length_append, Array.length_toList] <;> rfl
      rw [e]
      exact Nat.le_trans (show _ ≤ 1002 by omega) (by decide)
    refine ⟨_, rfl, x, C, dx, _, .ref m, rfl, hR.hx, M.cls, M.machine, rfl, m, dm, _, rfl, hmx, rfl, _, rfl, x, C, dx, _, .int s0.q, rfl, hR.hx, M.cls, M.state, rfl, _, rfl, x, C, dx, _, .str (signsOf t), rfl, hR.hx, M.cls, M.signs, rfl, _, rfl, x, C, dx, _, .int s0.p, rfl, hR.hx, M.cls, M.place, rfl, signsOf t, _, c, rfl, rfl, szl, hc, ?_⟩
    refine ⟨_, rfl, x, dx, _, rfl, hR.hx, rfl, x, dx, ls, m, t, s0, rfl, hR, ?_⟩
    refine ⟨m, l, n, rs, ys, s0.q, sgn1 c, topOf s0.st, rfl, hm.at_, fun p H1 s1 hp => ?_⟩
    rw [ec] at hp
    have hp : ActTup H1 p (actsOf (grps (rulesOf rs)) (keyOf t s0)) := hp
    rw [acts_find hm.nd] at hp
    obtain ⟨bs, h1, h2⟩ := hp
    cases hf : find rs (keyOf t s0) with
    | none =>
      rw [hf] at h2
      cases h2
      refine ⟨_, rfl, _, .inr (.inl ⟨_, SqT.of h1, rfl⟩), iteF ?_⟩
      exact k .non H1 s1 (by unfold fit; rw [hf] <;> rfl)
    | some r =>
      rw [hf] at h2
      cases h2 with
      | cons ha hn =>
        cases hn
        rename_i a
        refine ⟨_, rfl, _, .inr (.inl ⟨_, SqT.of h1, rfl⟩), iteT ?_⟩
        exact ⟨_, rfl, p, _, 0, .ref a, rfl, rfl, SqT.of h1, rfl, k (.ref a) H1 s1 (by unfold fit; rw [hf]; exact ⟨a, rfl, ha⟩)⟩
end
end Mk

set_option Elab.async false
set_option linter.unusedVariables false
set_option maxRecDepth 100000
set_option maxHeartbeats 16000000
namespace Mk
open PySem L2 Pk
theorem set_last : ∀ {st : List PySem.Str} (y : PySem.Str), st ≠ [] → (st.map V.str).set (st.length - 1) (.str y) = (st.dropLast ++ [y]).map V.str := by
  intro st y h
  rw [List.dropLast_eq_take, List.map_append, List.map_take]
  have pos : 0 < st.length := List.length_pos_iff.mpr h
  rw [List.set_eq_take_append_cons_drop, if_pos (by rw [List.length_map]; omega)]
  congr 1
  rw [List.drop_of_length_le (by rw [List.length_map]; omega)] <;> rfl
section
variable {P : Program} {w : World} {K : PySem.W.Frag} {mg : PySem.Str → Option Value} {base : Heap}
/-! Run.apply -/
abbrev nRApply : List PySem.Str := ["self", "act", "after", "move", "deed", "symbol", "said"]
theorem scRApply : FnScope nRApply ["self", "act"] (defScope sRApply) := ⟨rfl, rfl, rfl, by decide +kernel, rfl, by decide +kernel, by decide +kernel⟩
def spRApply (K : PySem.W.Frag) (C : Addr) : Sp := fun vs H Q _ => ∃ (x dx ls m a : Addr) (t l : PySem.Str) (n : Int) (s : Std) (r : Rl), vs = [.ref x, .ref a] ∧ RunAt H C x dx ls m t s ∧ H a = some (.tup (r.a5.map kV)) ∧ RlOk l n r ∧ (isPop r.de = true → s.st ≠ []) ∧ s.st.length ≤ 300000 ∧
  ∀ H', Off2 x ls H H' → RunAt H' C x dx ls m t (next s r) → Q (.str r.sa) H'
theorem ok_rApply {f C : Addr} {fd : FuncData} (F : Fun K "apply" "Run.apply" sRApply f fd) (M : RCls K C) : FnOk P w K mg base CX0 1 f fd ["self", "act"] (spRApply K C) := by
  refine F.ok scRApply (fun vs H Q E h => ?_) (fun cdv A outer s H vs Q E hr h => ?_)
  · obtain ⟨x, dx, ls, m, a, t, l, n, s, r, rfl, _⟩ := h
    rfl
  · obtain ⟨x, dx, ls, m, a, t, l, n, s0, r, rfl, hR, ha, ok, hpop, sz, k⟩ := h
    have nd := scRApply.nd
    refine ⟨_, (pss_cons (ps_asg (pv 1) (pg_tup (by rfl) (pgs_cons (pg_name (i := 2) nd rfl (Or.inl rfl)) (pgs_cons (pg_name (i := 3) nd rfl (Or.inl rfl)) (pgs_cons (pg_name (i := 4) nd rfl (Or.inl rfl)) (pgs_cons (pg_name (i := 5) nd rfl (Or.inl rfl)) (pgs_cons (pg_name (i := 6) nd rfl (Or.inl rfl)) pgs_nil)))))))
      (pss_cons (ps_fld (pv 0) (pv 2) rfl)
      (pss_cons (ps_fldaug (pv 0) (pv 3) in_add)
      (C8.pss_cut (ps_if (pt_cmpR op_eq (pv 4) pe_str (nomark _))
        (pss_one (ps_expr (pe_bm PySem.F.plainAttrs_list PySem.F.slot_list_append PySem.F.type_list_append mt_append (pe_fld (pv 0) rfl) (pa_cons (pv 5) pa_nil))))
        (pss_one (ps_if (pt_cmpR op_eq (pv 4) pe_str (nomark _))
          (pss_one (ps_expr (pe_bm0 PySem.F.plainAttrs_list PySem.F.slot_list_pop PySem.F.type_list_pop mt_pop (pe_fld (pv 0) rfl))))
          (pss_one (ps_if (pt_cmpR op_eq (pv 4) pe_str (nomark _))
            (pss_one (ps_asg (pv 5) (pg_sub (pe_fld (pv 0) rfl) (pe_un un_neg pe_int) set_list)))
            pss_nil)))))
      (pss_one (ps_ret (pv 6))))))), ?_⟩
    have ne := hR.ne
    refine ⟨_, rfl, a, _, rfl, SqT.of ha, rfl, _, _, rfl, _, _, rfl, _, _, rfl, _, _, rfl, _, _, rfl, rfl, ?_⟩
    refine ⟨_, rfl, _, rfl, x, C, dx, _, rfl, hR.hx, M.cls, M.state, show 5 < 1000 by decide, ?_⟩
    have hx1 : (upd H x (.ins C dx (rFs m ls t ⟨r.af, s0.p, s0.st⟩))) x = some (.ins C dx (rFs m ls t ⟨r.af, s0.p, s0.st⟩)) := upd_same
    refine ⟨_, rfl, x, C, dx, rFs m ls t ⟨r.af, s0.p, s0.st⟩, .int s0.p, rfl, hx1, M.cls, M.place, rfl, _, rfl, s0.p, r.mv, rfl, rfl, dx, rFs m ls t ⟨r.af, s0.p, s0.st⟩, hx1, show 5 < 1000 by decide, ?_⟩
    have hx2 : (upd (upd H x (.ins C dx (rFs m ls t ⟨r.af, s0.p, s0.st⟩))) x (.ins C dx (rFs m ls t (next s0 r)))) x = some (.ins C dx (rFs m ls t (next s0 r))) := upd_same
    have hl2 : (upd (upd H x (.ins C dx (rFs m ls t ⟨r.af, s0.p, s0.st⟩))) x (.ins C dx (rFs m ls t (next s0 r)))) ls = some (.lst (s0.st.map V.str)) := by rw [upd_ne (Ne.symm ne), upd_ne (Ne.symm ne)]; exact hR.hl
    have o2 : Off x H (upd (upd H x (.ins C dx (rFs m ls t ⟨r.af, s0.p, s0.st⟩))) x (.ins C dx (rFs m ls t (next s0 r)))) := Off.put.trans Off.put
    show (C8.tCut _ _) _ _ (upd (upd H x (.ins C dx (rFs m ls t ⟨r.af, s0.p, s0.st⟩))) x (.ins C dx (rFs m ls t (next s0 r))))
    generalize upd (upd H x (.ins C dx (rFs m ls t ⟨r.af, s0.p, s0.st⟩))) x (.ins C dx (rFs m ls t (next s0 r))) = H2 at hx2 hl2 o2 ⊢
    have fin : ∀ {st : List V}, st = (nextSt r s0.st).map V.str → Off2 x ls H (upd H2 ls (.lst st)) ∧ RunAt (upd H2 ls (.lst st)) C x dx ls m t (next s0 r) := fun {st} e => by
      refine ⟨fun b o n1 n2 h => by rw [upd_ne n2]; exact o2 b o n1 h, ?_, ?_⟩
      · rw [upd_ne ne]; exact hx2
      · rw [upd_same, e] <;> rfl
    have szs : (s0.st.map V.str).length < sizeLine := by rw [List.length_map]; exact Nat.lt_of_le_of_lt sz (by decide)
    refine ⟨fun σ' H' => σ' = [some (.ref x), some (.ref a), some (.int r.af), some (.int r.mv), some (.str r.de), some (.str r.sy), some (.str r.sa)] ∧ Off2 x ls H H' ∧ RunAt H' C x dx ls m t (next s0 r), ?_, ?_⟩
    rotate_left
    · rintro _ H3 ⟨rfl, o3, h3⟩
      exact ⟨_, rfl, k H3 o3 h3⟩
    refine ⟨_, rfl, rfl, _, rfl, ite2 (fun c => ?_) (fun c1 => ?_)⟩
    · have ed : r.de = push0 := V.str.inj (of_decide_eq_true c)
      have e : (s0.st.map V.str) ++ [V.str r.sy] = (nextSt r s0.st).map V.str := by
        unfold nextSt cutS1
        rw [ed, if_pos (show isPush push0 = true by decide +kernel), if_neg (show ¬ isPop push0 = true by decide +kernel), List.map_append] <;> rfl
      exact ⟨_, rfl, x, C, dx, _, .ref ls, rfl, hx2, M.cls, M.stack, rfl, .inl ⟨rfl, _, SqL.of hl2⟩, _, rfl, ls, _, _, rfl, rfl, hl2, szs, rfl, fin e⟩
    have n1 : r.de ≠ push0 := fun e => c1 (decide_eq_true (by rw [e] <;> rfl))
    refine ⟨_, rfl, rfl, _, rfl, ite2 (fun c => ?_) (fun c2 => ?_)⟩
    · have ed : r.de = pop0 := V.str.inj (of_decide_eq_true c)
      have nest := hpop (by unfold isPop; rw [ed]; decide +kernel)
      have pos : 0 < s0.st.length := List.length_pos_iff.mpr nest
      have e : (s0.st.map V.str).dropLast = (nextSt r s0.st).map V.str := by
        unfold nextSt cutS1
        rw [ed, if_neg (show ¬ isPush pop0 = true by decide +kernel), if_pos (show isPop pop0 = true by decide +kernel), List.map_dropLast]
      refine ⟨_, rfl, x, C, dx, _, .ref ls, rfl, hx2, M.cls, M.stack, rfl, .inl ⟨rfl, _, SqL.of hl2⟩, ls, _, _, rfl, rfl, hl2, List.getElem?_eq_getElem (by rw [List.length_map]; omega), rfl, fin e⟩
    have n2 : r.de ≠ pop0 := fun e => c2 (decide_eq_true (by rw [e] <;> rfl))
    refine ⟨_, rfl, rfl, _, rfl, ite2 (fun c => ?_) (fun c3 => ?_)⟩
    · have ed : r.de = swap0 := V.str.inj (of_decide_eq_true c)
      have nest := hpop (by unfold isPop; rw [ed]; decide +kernel)
      have pos : 0 < s0.st.length := List.length_pos_iff.mpr nest
      have e : (s0.st.map V.str).set (s0.st.length - 1) (.str r.sy) = (nextSt r s0.st).map V.str := by
        rw [set_last _ nest]
        unfold nextSt cutS1
        rw [ed, if_pos (show isPush swap0 = true by decide +kernel), if_pos (show isPop swap0 = true by decide +kernel)]
      refine ⟨_, rfl, _, rfl, x, C, dx, _, .ref ls, rfl, hx2, M.cls, M.stack, rfl, _, rfl, ls, _, _, s0.st.length - 1, rfl, rfl, hl2, ?_, rfl, fin e⟩
      unfold ixN
      rw [if_neg (by omega), List.length_map, if_pos (by omega)]
      congr 1
      omega
    · have n3 : r.de ≠ swap0 := fun e => c3 (decide_eq_true (by rw [e] <;> rfl))
      have e : nextSt r s0.st = s0.st := by
        unfold nextSt cutS1 isPush isPop
        rw [decide_eq_false n1, decide_eq_false n2, decide_eq_false n3] <;> rfl
      refine ⟨rfl, fun b o h1 h2 h => o2 b o h1 h, hx2, ?_⟩
      rw [show (next s0 r).st = nextSt r s0.st from rfl, e]
      exact hl2
end
end Mk

set_option Elab.async false
set_option linter.unusedVariables false
set_option maxRecDepth 100000
set_option maxHeartbeats 4000000
namespace Mk
open PySem L2 Pk
/-! a run that comes to a surface again and was not lower in between goes on for ever -/
theorem top_app {b u : List PySem.Str} (h : u ≠ []) : topOf (b ++ u) = topOf u := by
  unfold topOf
  rw [List.getLastD_eq_getLast?, List.getLastD_eq_getLast?, List.getLast?_append]
  cases e : u.getLast? with
  | none => exact absurd (List.getLast?_eq_none_iff.mp e) h
  | some c => rfl
theorem next_app {b u : List PySem.Str} (r : Rl) (h : u ≠ []) : nextSt r (b ++ u) = b ++ nextSt r u := by
  have e : cutS1 r (b ++ u) = b ++ cutS1 r u := by
    unfold cutS1
    split
    · exact List.dropLast_append_of_ne_nil h
    · rfl
  unfold nextSt
  rw [e]
  split
  · exact List.append_assoc ..
  · rfl
/-- y over b as y' over b' -/
def Ov (b b' : List PySem.Str) (y y' : Std) : Prop := y.q = y'.q ∧ y.p = y'.p ∧ ∃ u, u ≠ [] ∧ y.st = b ++ u ∧ y'.st = b' ++ u
theorem Ov.fit {b b' : List PySem.Str} {y y' : Std} {rs : List Rl} {t : PySem.Str} (h : Ov b b' y y') : fit rs t y = fit rs t y' := by
  obtain ⟨h1, h2, u, hu, e1, e2⟩ := h
  unfold Mk.fit keyOf
  rw [h1, h2, e1, e2, top_app hu, top_app hu]
theorem Ov.next {b b' : List PySem.Str} {y y' : Std} {r : Rl} (h : Ov b b' y y') (l : b.length < (next y r).st.length) : Ov b b' (next y r) (next y' r) := by
  obtain ⟨h1, h2, u, hu, e1, e2⟩ := h
  have n1 : (Mk.next y r).st = b ++ nextSt r u := by
    show nextSt r y.st = _
    rw [e1, next_app r hu]
  have n2 : (Mk.next y' r).st = b' ++ nextSt r u := by
    show nextSt r y'.st = _
    rw [e2, next_app r hu]
  refine ⟨rfl, by show y.p + r.mv = y'.p + r.mv; rw [h2], nextSt r u, fun z => ?_, n1, n2⟩
  rw [n1, z, List.append_nil] at l
  exact Nat.lt_irrefl _ l
theorem last_split {st : List PySem.Str} (h : st ≠ []) : st = st.dropLast ++ [topOf st] := by
  have e : topOf st = st.getLast h := by
    unfold topOf
    rw [List.getLastD_eq_getLast?, List.getLast?_eq_some_getLast h] <;> rfl
  rw [e]
  exact (List.dropLast_concat_getLast h).symm
theorem endless {rs : List Rl} {t : PySem.Str} {s x y : Std} {i j : Nat} (hi : nth rs t s i = some x) (hj : nth rs t s j = some y) (ij : i < j) (hq : x.q = y.q) (hp : x.p = y.p) (ht : topOf x.st = topOf y.st) (hx : x.st ≠ [])
    (low : ∀ k z, i ≤ k → k ≤ j → nth rs t s k = some z → x.st.length ≤ z.st.length) : ∀ n, ∃ z, nth rs t s (i + n) = some z ∧ x.st.length ≤ z.st.length := by
  have ly := low j y (Nat.le_of_lt ij) (Nat.le_refl _) hj
  have hy : y.st ≠ [] := fun e => by
    rw [e] at ly
    exact hx (List.eq_nil_of_length_eq_zero (Nat.le_zero.mp ly))
  have ex := last_split hx
  have ey := last_split hy
  rw [← ht] at ey
  have lx1 : x.st.length = x.st.dropLast.length + 1 := by
    have z := congrArg List.length ex
    rw [List.length_append] at z
    exact z
  have ly1 : y.st.length = y.st.dropLast.length + 1 := by
    have z := congrArg List.length ey
    rw [List.length_append] at z
    exact z
  have C : ∀ n m, m ≤ n → ∃ z z', nth rs t s (i + m) = some z ∧ nth rs t s (j + m) = some z' ∧ Ov x.st.dropLast y.st.dropLast z z' ∧ x.st.length ≤ z.st.length := by
    intro n
    induction n with
    | zero =>
      intro m hm
      have e : m = 0 := Nat.le_zero.mp hm
      subst e
      exact ⟨x, y, hi, hj, ⟨hq, hp, [topOf x.st], List.cons_ne_nil _ _, ex, ey⟩, Nat.le_refl _⟩
    | succ n ih =>
      intro m hm
      rcases Nat.lt_or_ge m (n + 1) with c | c
      · exact ih m (Nat.le_of_lt_succ c)
      have e : m = n + 1 := Nat.le_antisymm hm c
      subst e
      obtain ⟨z, z', hz, hz', ov, lz⟩ := ih n (Nat.le_refl _)
      have h2 : ∃ z2, nth rs t s (i + (n + 1)) = some z2 ∧ x.st.length ≤ z2.st.length := by
        rcases Nat.lt_or_ge j (i + (n + 1)) with c | c
        · obtain ⟨w, w', hw, hw', ovw, _⟩ := ih (i + (n + 1) - j) (by omega)
          obtain ⟨_, _, u, hu, _, e2⟩ := ovw
          refine ⟨w', by rw [← hw']; congr 1; omega, ?_⟩
          have lu : 0 < u.length := List.length_pos_iff.mpr hu
          have e3 := congrArg List.length e2
          rw [List.length_append] at e3
          omega
        · obtain ⟨z2, hz2⟩ := nth_some hj c
          exact ⟨z2, hz2, low _ _ (by omega) c hz2⟩
      obtain ⟨z2, hz2, lz2⟩ := h2
      have hz2' : nth rs t s ((i + n) + 1) = some z2 := hz2
      rw [nth_succ hz] at hz2'
      cases hf : fit rs t z with
      | none => rw [hf] at hz2'; cases hz2'
      | some r =>
        rw [hf] at hz2'
        have e2 : Mk.next z r = z2 := Option.some.inj hz2'
        have hf' : fit rs t z' = some r := by rw [← ov.fit]; exact hf
        refine ⟨z2, Mk.next z' r, hz2, nth_step hz' hf', ?_, lz2⟩
        rw [← e2]
        exact ov.next (by rw [e2]; omega)
  intro n
  obtain ⟨z, _, hz, _, _, lz⟩ := C n n (Nat.le_refl _)
  exact ⟨z, hz, lz⟩
theorem endless0 {rs : List Rl} {t : PySem.Str} {s x : Std} {i j : Nat} (hi : nth rs t s i = some x) (hj : nth rs t s j = some x) (ij : i < j) (n : Nat) : ∃ z, nth rs t s (i + n) = some z := by
  have hc : nth rs t x (j - i) = some x := by
    rw [← nth_add hi, show i + (j - i) = j by omega]
    exact hj
  have pos : 0 < j - i := by omega
  have hlt := Nat.mod_lt n pos
  obtain ⟨z, hz⟩ := nth_some hj (show i + n % (j - i) ≤ j by omega)
  refine ⟨z, ?_⟩
  rw [nth_add hi]
  have e := nth_round hc (n / (j - i)) (n % (j - i))
  have en : n / (j - i) * (j - i) + n % (j - i) = n := by
    rw [Nat.mul_comm]
    exact Nat.div_add_mod n (j - i)
  rw [en] at e
  rw [e, ← nth_add hi]
  exact hz
end Mk

set_option Elab.async false
set_option linter.unusedVariables false
set_option maxRecDepth 100000
set_option maxHeartbeats 16000000
namespace Mk
open PySem L2 Pk
/-- the stack of a surface -/
def stackOf (tp : PySem.Str) : List PySem.Str := if tp = nil0 then [] else [tp]
theorem stackOf_nil : stackOf nil0 = [] := if_pos rfl
theorem stackOf_ne {tp : PySem.Str} (h : tp ≠ nil0) : stackOf tp = [tp] := if_neg h
theorem top_stackOf (tp : PySem.Str) : topOf (stackOf tp) = tp := by
  unfold stackOf
  split
  · rename_i h
    rw [h] <;> rfl
  · rfl
section
variable {P : Program} {w : World} {K : PySem.W.Frag} {mg : PySem.Str → Option Value} {base : Heap}
structure SurfDefs (P : Program) (w : World) (K : PySem.W.Frag) (mg : PySem.Str → Option Value) (base : Heap) : Prop where
  row : Got P w K mg base "is_row" 2 ["value", "length"] (spRow K)
  between : Got P w K mg base "is_between" 2 ["value", "least", "most"] spBetween
  state : Got P w K mg base "is_state" 3 ["states", "value"] spState
/-! is_surface, check_surface -/
abbrev nIsSurf : List PySem.Str := ["machine", "text", "value", "state", "place", "top"]
theorem scIsSurf : FnScope nIsSurf ["machine", "text", "value"] (defScope sIsSurf) := ⟨rfl, rfl, rfl, by decide +kernel, rfl, by decide +kernel, by decide +kernel⟩
def spIsSurf (K : PySem.W.Frag) (C : Addr) : Sp := fun vs H Q _ => ∃ (m p : Addr) (b : Bool) (l t : PySem.Str) (n : Int) (rs : List Rl) (ys : List Int) (q0 p0 : Int) (tp : PySem.Str), vs = [.ref m, .str t, .ref p] ∧ Pl K H C m l n rs ys ∧ TxtOk l t ∧ SqB b K H p [.int q0, .int p0, .str tp] ∧ StdOk l n t (symsL rs) ⟨q0, p0, stackOf tp⟩ ∧ ∀ H', Same H H' → Q (.bl true) H'
theorem ok_isSurf {f C : Addr} {fd : FuncData} (F : Fun K "is_surface" "is_surface" sIsSurf f fd) (T : TM mg) (M : MCls K C) (G : SurfDefs P w K mg base) : FnOk P w K mg base CX0 4 f fd ["machine", "text", "value"] (spIsSurf K C) := by
  refine F.ok scIsSurf (fun vs H Q E h => ?_) (fun cdv A outer s H vs Q E hr h => ?_)
  · obtain ⟨m, p, b, l, t, n, rs, ys, q0, p0, tp, rfl, _⟩ := h
    rfl
  · obtain ⟨m, p, b, l, t, n, rs, ys, q0, p0, tp, rfl, hm, ht, hp, ok, k⟩ := h
    have nd := scIsSurf.nd
    have h2 := hr.mono (show 2 ≤ 3 by decide)
    refine ⟨_, (pss_cons (ps_if (pt_not (pt_val (pe_got G.row h2 (by rfl) (pa_cons (pv 2) (pa_cons pe_int pa_nil)))))
        (pss_one ps_never)
        pss_nil)
      (pss_cons (ps_asg (pv 2) (pg_sq b (by rfl) (pgs_cons (pg_name (i := 3) nd rfl (Or.inl rfl)) (pgs_cons (pg_name (i := 4) nd rfl (Or.inl rfl)) (pgs_cons (pg_name (i := 5) nd rfl (Or.inl rfl)) pgs_nil)))))
      (pss_cons (ps_if (pt_not (PW.pt (pw_and (pt_val (pe_got G.state hr (by rfl) (pa_cons (pe_fld (pv 0) rfl) (pa_cons (pv 3) pa_nil)))) (pw_and1 (pt_val (pe_got G.between h2 (by rfl) (pa_cons (pv 4) (pa_cons pe_int (pa_cons (pe_op op_add (pe_callB call_len_str (by rfl) T.len PySem.boot_len (pa_cons (pv 1) pa_nil)) pe_int) pa_nil)))))))))
        (pss_one ps_never)
        pss_nil)
      (pss_one (ps_ret (pe_and (pe_callB call_isi (by rfl) T.isi (by decide +kernel) (pa_cons (pv 5) (pa_cons (pe_bltn (v := .ty "str") (by rfl) T.str PyProof.Rows.Boot.str rfl) pa_nil))) (pe_one (pe_or (pe_cmpR op_eq (pv 5) pe_str (nomark _)) (pe_one (pe_cmpR op_in_seq (pv 5) (pe_fld (pv 0) rfl) rfl)))))))))), ?_⟩
    have szl : t.length ≤ sizeLine := Nat.le_trans ht.2 (by decide)
    refine ⟨_, rfl, p, b, _, 3, rfl, hp, fun H1 s1 => ⟨_, rfl, iteF ?_⟩⟩
    have hm1 := hm.mono s1
    obtain ⟨dx, aR, aY, aS, aA, R, hx, hS⟩ := hm1.at_.plain hm.nd
    refine ⟨_, rfl, gsq_of ⟨p, _, rfl, hp.mono s1, rfl, _, _, rfl, _, _, rfl, _, _, rfl, rfl, ?_⟩⟩
    refine ⟨_, rfl, m, C, dx, _, .int n, rfl, hx, M.cls, M.states, rfl, _, rfl, n, q0, rfl, _, rfl, ?_⟩
    rw [decide_eq_true ok.q.1, decide_eq_true ok.q.2]
    refine iteT ⟨_, rfl, _, rfl, t, rfl, szl, _, _, rfl, rfl, p0, 0, _, rfl, _, rfl, ?_⟩
    rw [decide_eq_true ok.p.1, decide_eq_true ok.p.2]
    refine iteF ?_
    refine ⟨_, rfl, _, _, _, _, true, rfl, .ty _, .base (.str _), kit_ty (by decide +kernel), _, rfl, iteT ?_⟩
    by_cases c : tp = nil0
    · refine ⟨_, rfl, rfl, ?_⟩
      rw [decide_eq_true (p := V.str tp = V.str (PySem.Str.ofString "")) (by rw [c] <;> rfl)]
      exact ⟨_, rfl, iteT (k H1 s1)⟩
    · refine ⟨_, rfl, rfl, ?_⟩
      rw [decide_eq_false (p := V.str tp = V.str (PySem.Str.ofString "")) (fun e => c (V.str.inj e))]
      have mem : tp ∈ symsL rs := ok.st tp (by rw [stackOf_ne c]; exact List.mem_singleton.mpr rfl)
      have inS : inV (.str tp) ((symsL rs).map V.str) = true := by
        unfold inV
        rw [List.any_map, List.any_eq_true]
        exact ⟨tp, mem, by show (tp == tp) = true; exact beq_self_eq_true tp⟩
      have flatS : ((symsL rs).map V.str).all flatV = true := by
        rw [List.all_map, List.all_eq_true]
        exact fun _ _ => rfl
      refine ⟨_, rfl, iteF ⟨_, rfl, _, rfl, m, C, dx, _, .ref aS, rfl, hx, M.cls, M.symbols, rfl, aS, _, rfl, .inr (SqT.of hS), rfl, flatS, ?_⟩⟩
      rw [inS]
      exact k H1 s1
theorem scCheckSurf : FnScope ["machine", "text", "surface"] ["machine", "text", "surface"] (defScope sCheckSurf) := ⟨rfl, rfl, rfl, by decide +kernel, rfl, by decide +kernel, by decide +kernel⟩
def spCheckSurf (K : PySem.W.Frag) (C : Addr) : Sp := fun vs H Q _ => ∃ (m p : Addr) (b : Bool) (l t : PySem.Str) (n : Int) (rs : List Rl) (ys : List Int) (q0 p0 : Int) (tp : PySem.Str), vs = [.ref m, .str t, .ref p] ∧ Pl K H C m l n rs ys ∧ TxtOk l t ∧ SqB b K H p [.int q0, .int p0, .str tp] ∧ StdOk l n t (symsL rs) ⟨q0, p0, stackOf tp⟩ ∧ ∀ H', Same H H' → Q .non H'
theorem ok_checkSurf {f C : Addr} {fd : FuncData} (F : Fun K "check_surface" "check_surface" sCheckSurf f fd) (Gs : Got P w K mg base "is_surface" 4 ["machine", "text", "value"] (spIsSurf K C)) : FnOk P w K mg base CX0 5 f fd ["machine", "text", "surface"] (spCheckSurf K C) := by
  refine F.ok scCheckSurf (fun vs H Q E h => ?_) (fun cdv A outer s H vs Q E hr h => ?_)
  · obtain ⟨m, p, b, l, t, n, rs, ys, q0, p0, tp, rfl, _⟩ := h
    rfl
  · obtain ⟨m, p, b, l, t, n, rs, ys, q0, p0, tp, rfl, hm, ht, hp, ok, k⟩ := h
    refine ⟨_, pss_one (ps_if (pt_not (pt_val (pe_got Gs hr (by rfl) (pa_cons (pv 0) (pa_cons (pv 1) (pa_cons (pv 2) pa_nil)))))) (pss_one ps_never) pss_nil), ?_⟩
    exact ⟨_, rfl, _, rfl, _, rfl, m, p, b, l, t, n, rs, ys, q0, p0, tp, rfl, hm, ht, hp, ok, fun H1 s1 => ⟨_, rfl, iteF (k H1 s1)⟩⟩
end
end Mk

set_option Elab.async false
set_option linter.unusedVariables false
set_option maxRecDepth 100000
set_option maxHeartbeats 8000000
namespace Mk
open PySem L2 Pk
abbrev sHInit : Stmt := inClass (top 35) 0
abbrev sHNote : Stmt := inClass (top 35) 1
structure HCls (K : PySem.W.Frag) (C : Addr) : Prop where
  cls : Cls K C
  first : NoAttr K C "first"
  rise : NoAttr K C "rise"
  low : NoAttr K C "low"
  high : NoAttr K C "high"
abbrev hFs (f r lo hi : Int) : List (PySem.Str × V) := [("first", .int f), ("rise", .int r), ("low", .int lo), ("high", .int hi)]
def mx (i j : Int) : Int := if j > i then j else i
def mn (i j : Int) : Int := if j < i then j else i
section
variable {P : Program} {w : World} {K : PySem.W.Frag} {mg : PySem.Str → Option Value} {base : Heap}
/-! Heights.__init__, note -/
theorem scHInit : FnScope ["self", "run"] ["self", "run"] (defScope sHInit) := ⟨rfl, rfl, rfl, by decide +kernel, rfl, by decide +kernel, by decide +kernel⟩
def spHInit (C CR : Addr) : Sp := fun vs H Q _ => ∃ (y dy x dx ls m : Addr) (t : PySem.Str) (s : Std), vs = [.ref y, .ref x] ∧ H y = some (.ins C dy []) ∧ RunAt H CR x dx ls m t s ∧
  ∀ H' : Hp, Off y H H' → H' y = some (.ins C dy (hFs (s.st.length : Int) 0 s.p s.p)) → Q .non H'
theorem ok_hInit {f C CR : Addr} {fd : FuncData} (F : Fun K "__init__" "Heights.__init__" sHInit f fd) (T : TM mg) (M : HCls K C) (MR : RCls K CR) : FnOk P w K mg base CX0 1 f fd ["self", "run"] (spHInit C CR) := by
  refine F.ok scHInit (fun vs H Q E h => ?_) (fun cdv A outer s H vs Q E hr h => ?_)
  · obtain ⟨y, dy, x, dx, ls, m, t, s, rfl, _⟩ := h
    rfl
  · obtain ⟨y, dy, x, dx, ls, m, t, s0, rfl, hy, hR, k⟩ := h
    refine ⟨_, (pss_cons (ps_fld (pv 0) (pe_callB call_len_seq (by rfl) T.len PySem.boot_len (pa_cons (pe_fld (pv 1) rfl) pa_nil)) rfl)
      (pss_cons (ps_fld (pv 0) pe_int rfl)
      (pss_cons (ps_fld (pv 0) (pe_fld (pv 1) rfl) rfl)
      (pss_one (ps_fld (pv 0) (pe_fld (pv 1) rfl) rfl))))), ?_⟩
    have xy : x ≠ y := ne_of hR.hx hy (by intro q; cases q)
    have ly : ls ≠ y := ne_of hR.hl hy (by intro q; cases q)
    refine ⟨_, rfl, x, CR, dx, _, .ref ls, rfl, hR.hx, MR.cls, MR.stack, rfl, ls, _, rfl, .inl (SqL.of hR.hl), ?_⟩
    rw [List.length_map]
    refine ⟨_, rfl, y, C, dy, _, rfl, hy, M.cls, M.first, by decide, ?_⟩
    have hy1 : (upd H y (.ins C dy [("first", .int (s0.st.length : Int))])) y = some (.ins C dy [("first", .int (s0.st.length : Int))]) := upd_same
    refine ⟨_, rfl, y, C, dy, _, rfl, hy1, M.cls, M.rise, show 1 < 1000 by decide, ?_⟩
    have hy2 : (upd (upd H y (.ins C dy [("first", .int (s0.st.length : Int))])) y (.ins C dy [("first", .int (s0.st.length : Int)), ("rise", .int 0)])) y = some (.ins C dy [("first", .int (s0.st.length : Int)), ("rise", .int 0)]) := upd_same
    have o2 : Off y H (upd (upd H y (.ins C dy [("first", .int (s0.st.length : Int))])) y (.ins C dy [("first", .int (s0.st.length : Int)), ("rise", .int 0)])) := Off.put.trans Off.put
    show (tSeq _ _) _ _ (upd (upd H y (.ins C dy [("first", .int (s0.st.length : Int))])) y (.ins C dy [("first", .int (s0.st.length : Int)), ("rise", .int 0)]))
    generalize upd (upd H y (.ins C dy [("first", .int (s0.st.length : Int))])) y (.ins C dy [("first", .int (s0.st.length : Int)), ("rise", .int 0)]) = H2 at hy2 o2 ⊢
    have hx2 := o2 _ _ xy hR.hx
    refine ⟨_, rfl, x, CR, dx, _, .int s0.p, rfl, hx2, MR.cls, MR.place, rfl, _, rfl, y, C, dy, _, rfl, hy2, M.cls, M.low, show 2 < 1000 by decide, ?_⟩
    have hy3 : (upd H2 y (.ins C dy [("first", .int (s0.st.length : Int)), ("rise", .int 0), ("low", .int s0.p)])) y = some (.ins C dy [("first", .int (s0.st.length : Int)), ("rise", .int 0), ("low", .int s0.p)]) := upd_same
    have o3 : Off y H2 (upd H2 y (.ins C dy [("first", .int (s0.st.length : Int)), ("rise", .int 0), ("low", .int s0.p)])) := Off.put
    refine ⟨_, rfl, x, CR, dx, _, .int s0.p, rfl, o3 _ _ xy hx2, MR.cls, MR.place, rfl, _, rfl, y, C, dy, _, rfl, hy3, M.cls, M.high, show 3 < 1000 by decide, ?_⟩
    exact k _ ((o2.trans o3).trans Off.put) upd_same
theorem scHNote : FnScope ["self", "run"] ["self", "run"] (defScope sHNote) := ⟨rfl, rfl, rfl, by decide +kernel, rfl, by decide +kernel, by decide +kernel⟩
def spHNote (C CR : Addr) : Sp := fun vs H Q _ => ∃ (y dy x dx ls m : Addr) (t : PySem.Str) (s : Std) (f r lo hi : Int), vs = [.ref y, .ref x] ∧ H y = some (.ins C dy (hFs f r lo hi)) ∧ RunAt H CR x dx ls m t s ∧
  ∀ H' : Hp, Off y H H' → H' y = some (.ins C dy (hFs f (mx r ((s.st.length : Int) - f)) (mn lo s.p) (mx hi s.p))) → Q .non H'
theorem ok_hNote {f C CR : Addr} {fd : FuncData} (F : Fun K "note" "Heights.note" sHNote f fd) (T : TM mg) (TX : mg "max" = none) (TN : mg "min" = none) (M : HCls K C) (MR : RCls K CR) : FnOk P w K mg base CX0 1 f fd ["self", "run"] (spHNote C CR) := by
  refine F.ok scHNote (fun vs H Q E h => ?_) (fun cdv A outer s H vs Q E hr h => ?_)
  · obtain ⟨y, dy, x, dx, ls, m, t, s, f, r, lo, hi, rfl, _⟩ := h
    rfl
  · obtain ⟨y, dy, x, dx, ls, m, t, s0, f0, r0, lo, hi, rfl, hy, hR, k⟩ := h
    refine ⟨_, (pss_cons (ps_fld (pv 0) (pe_callB (call_max2 (by rfl)) (by rfl) TX (by decide +kernel) (pa_cons (pe_fld (pv 0) rfl) (pa_cons (pe_op op_sub (pe_callB call_len_seq (by rfl) T.len PySem.boot_len (pa_cons (pe_fld (pv 1) rfl) pa_nil)) (pe_fld (pv 0) rfl)) pa_nil))) rfl)
      (pss_cons (ps_fld (pv 0) (pe_callB (call_min2 (by rfl)) (by rfl) TN (by decide +kernel) (pa_cons (pe_fld (pv 0) rfl) (pa_cons (pe_fld (pv 1) rfl) pa_nil))) rfl)
      (pss_one (ps_fld (pv 0) (pe_callB (call_max2 (by rfl)) (by rfl) TX (by decide +kernel) (pa_cons (pe_fld (pv 0) rfl) (pa_cons (pe_fld (pv 1) rfl) pa_nil))) rfl)))), ?_⟩
    have xy : x ≠ y := fun e => by
      have z := hR.hx
      rw [e, hy] at z
      cases z
    have ly : ls ≠ y := ne_of hR.hl hy (by intro q; cases q)
    refine ⟨_, rfl, y, C, dy, _, .int r0, rfl, hy, M.cls, M.rise, rfl, _, rfl, x, CR, dx, _, .ref ls, rfl, hR.hx, MR.cls, MR.stack, rfl, ls, _, rfl, .inl (SqL.of hR.hl), ?_⟩
    rw [List.length_map]
    refine ⟨_, rfl, y, C, dy, _, .int f0, rfl, hy, M.cls, M.first, rfl, _, _, rfl, rfl, _, _, rfl, _, rfl, y, C, dy, _, rfl, hy, M.cls, M.rise, show 4 < 1000 by decide, ?_⟩
    have hy1 : (upd H y (.ins C dy (hFs f0 (mx r0 ((s0.st.length : Int) - f0)) lo hi))) y = some (.ins C dy (hFs f0 (mx r0 ((s0.st.length : Int) - f0)) lo hi)) := upd_same
    have o1 : Off y H (upd H y (.ins C dy (hFs f0 (mx r0 ((s0.st.length : Int) - f0)) lo hi))) := Off.put
    show (tSeq _ _) _ _ (upd H y (.ins C dy (hFs f0 (mx r0 ((s0.st.length : Int) - f0)) lo hi)))
    generalize upd H y (.ins C dy (hFs f0 (mx r0 ((s0.st.length : Int) - f0)) lo hi)) = H2 at hy1 o1 ⊢
    have hx2 := o1 _ _ xy hR.hx
    refine ⟨_, rfl, y, C, dy, _, .int lo, rfl, hy1, M.cls, M.low, rfl, _, rfl, x, CR, dx, _, .int s0.p, rfl, hx2, MR.cls, MR.place, rfl, _, _, rfl, _, rfl, y, C, dy, _, rfl, hy1, M.cls, M.low, show 4 < 1000 by decide, ?_⟩
    have hy2 : (upd H2 y (.ins C dy (hFs f0 (mx r0 ((s0.st.length : Int) - f0)) (mn lo s0.p) hi))) y = some (.ins C dy (hFs f0 (mx r0 ((s0.st.length : Int) - f0)) (mn lo s0.p) hi)) := upd_same
    have o2 : Off y H2 (upd H2 y (.ins C dy (hFs f0 (mx r0 ((s0.st.length : Int) - f0)) (mn lo s0.p) hi))) := Off.put
    refine ⟨_, rfl, y, C, dy, _, .int hi, rfl, hy2, M.cls, M.high, rfl, _, rfl, x, CR, dx, _, .int s0.p, rfl, o2 _ _ xy hx2, MR.cls, MR.place, rfl, _, _, rfl, _, rfl, y, C, dy, _, rfl, hy2, M.cls, M.high, show 4 < 1000 by decide, ?_⟩
    exact k _ ((o1.trans o2).trans Off.put) upd_same
end
end Mk

set_option Elab.async false
set_option linter.unusedVariables false
set_option maxRecDepth 100000
set_option maxHeartbeats 4000000
namespace Mk
open PySem L2 Pk
theorem PE_to {X : Cx} {e : Expr} {t t' : TE} (h : PE X e t) (c : ∀ σ H Q, t' σ H Q → t σ H Q) : PE X e t' := ⟨fun pins s σ H Q I hw => h.run pins s σ H Q I (c σ H Q hw)⟩
theorem len0 {tp : PySem.Str} (h : tp.length = 0) : tp = nil0 := str_ext (by
  have e : tp.cps.toList.length = 0 := by rw [Array.length_toList]; exact h
  have z := List.eq_nil_of_length_eq_zero e
  rw [z] <;> rfl)
/-- (top,) if top else () -/
def tStk (i : Nat) : TE := fun σ H Q => ∃ tp : PySem.Str, σ[i]? = some (some (.str tp)) ∧ tp.length ≤ 1000 ∧ ∀ q, H q = none → Q (.ref q) (upd H q (.tup ((stackOf tp).map V.str)))
theorem tru_str {tp : PySem.Str} : ((tp.length : Int) != 0) = !decide (tp = nil0) := by
  by_cases c : tp = nil0
  · rw [c] <;> rfl
  · rw [decide_eq_false c]
    have : tp.length ≠ 0 := fun e => c (len0 e)
    exact bne_iff_ne.mpr (by omega)
theorem stk_conv {K : PySem.W.Frag} {i : Nat} : ∀ (σ : L2.St) (H : Hp) (Q : VK), tStk i σ H Q → tIf (fun σ H Q => tVar i σ H fun x H' => ∃ k, TruV K x H' k ∧ Q k H') (tTup (tCons (tVar i) tNil)) (tTup tNil) σ H Q := by
  intro σ H Q ⟨tp, e, l, q⟩
  refine ⟨_, e, _, ⟨Nat.le_trans l (by decide), tru_str.symm⟩, ?_⟩
  by_cases c : tp = nil0
  · rw [decide_eq_true c]
    refine iteF ⟨Nat.zero_le _, fun p np => ?_⟩
    have z := q p np
    rw [c, stackOf_nil] at z
    exact z
  · rw [decide_eq_false c]
    refine iteT ⟨_, e, show 1 ≤ sizeLine by decide, fun p np => ?_⟩
    have z := q p np
    rw [stackOf_ne c] at z
    exact z
theorem sym_short {l t : PySem.Str} {n : Int} {rs : List Rl} {q0 p0 : Int} {tp : PySem.Str} (ok : ∀ r ∈ rs, RlOk l n r) (h : StdOk l n t (symsL rs) ⟨q0, p0, stackOf tp⟩) : tp.length ≤ 8 := by
  by_cases c : tp = nil0
  · rw [c]
    exact Nat.zero_le _
  · have z := known_sym ok tp (h.st tp (by rw [stackOf_ne c]; exact List.mem_singleton.mpr rfl))
    unfold symB at z
    rw [Bool.and_eq_true, Bool.and_eq_true, decide_eq_true_eq, decide_eq_true_eq] at z
    exact z.1.2
end Mk

set_option Elab.async false
set_option linter.unusedVariables false
set_option maxRecDepth 100000
set_option maxHeartbeats 16000000
namespace Mk
open PySem L2 Pk
abbrev sExcur : Stmt := top 36
abbrev falls0 : PySem.Str := PySem.Str.ofString "falls"
abbrev stops0 : PySem.Str := PySem.Str.ofString "stops"
def riseN (rs : List Rl) (t : PySem.Str) (s : Std) : Nat → Int
  | 0 => 0
  | n + 1 => match nth rs t s (n + 1) with
    | some z => mx (riseN rs t s n) ((z.st.length : Int) - (s.st.length : Int))
    | none => riseN rs t s n
def lowN (rs : List Rl) (t : PySem.Str) (s : Std) : Nat → Int
  | 0 => s.p
  | n + 1 => match nth rs t s (n + 1) with
    | some z => mn (lowN rs t s n) z.p
    | none => lowN rs t s n
def highN (rs : List Rl) (t : PySem.Str) (s : Std) : Nat → Int
  | 0 => s.p
  | n + 1 => match nth rs t s (n + 1) with
    | some z => mx (highN rs t s n) z.p
    | none => highN rs t s n
/-- up to n the run goes on and its stack is not emptied, if it began with a symbol -/
def NoFall (rs : List Rl) (t : PySem.Str) (s : Std) (tp : PySem.Str) (n : Nat) : Prop := ∀ j, j ≤ n → ∃ z, nth rs t s j = some z ∧ (tp ≠ nil0 → z.st ≠ [])
/-- what an excursion comes to -/
def ExcT (K : PySem.W.Frag) (H : Hp) (u : Addr) (rs : List Rl) (t : PySem.Str) (s : Std) (tp : PySem.Str) (L : Nat) : Prop := ∃ (e : Addr) (k : Nat) (z : Std), k ≤ L ∧ nth rs t s k = some z ∧
  ((NoFall rs t s tp k ∧ fit rs t z = none ∧ SqT K H e [.str stops0, .int z.q, .int z.p, .str (topOf z.st)] ∧ SqT K H u [.ref e, .int (k : Int), .int (riseN rs t s k), .int (lowN rs t s k), .int (highN rs t s k), .str (Txt.join nil0 (sd rs t s k))]) ∨
   (∃ k', k = k' + 1 ∧ NoFall rs t s tp k' ∧ tp ≠ nil0 ∧ z.st = [] ∧ SqT K H e [.str falls0, .int z.q, .int z.p] ∧ SqT K H u [.ref e, .int (k : Int), .int (riseN rs t s k'), .int (lowN rs t s k'), .int (highN rs t s k'), .str (Txt.join nil0 (sd rs t s k))]))
theorem riseN_succ {rs : List Rl} {t : PySem.Str} {s z : Std} {n : Nat} (h : nth rs t s (n + 1) = some z) : riseN rs t s (n + 1) = mx (riseN rs t s n) ((z.st.length : Int) - (s.st.length : Int)) := by
  show (match nth rs t s (n + 1) with | some z => mx (riseN rs t s n) ((z.st.length : Int) - (s.st.length : Int)) | none => riseN rs t s n) = _
  rw [h]
theorem lowN_succ {rs : List Rl} {t : PySem.Str} {s z : Std} {n : Nat} (h : nth rs t s (n + 1) = some z) : lowN rs t s (n + 1) = mn (lowN rs t s n) z.p := by
  show (match nth rs t s (n + 1) with | some z => mn (lowN rs t s n) z.p | none => lowN rs t s n) = _
  rw [h]
theorem highN_succ {rs : List Rl} {t : PySem.Str} {s z : Std} {n : Nat} (h : nth rs t s (n + 1) = some z) : highN rs t s (n + 1) = mx (highN rs t s n) z.p := by
  show (match nth rs t s (n + 1) with | some z => mx (highN rs t s n) z.p | none => highN rs t s n) = _
  rw [h]
theorem NoFall.succ {rs : List Rl} {t : PySem.Str} {s z : Std} {tp : PySem.Str} {n : Nat} (nf : NoFall rs t s tp n) (h : nth rs t s (n + 1) = some z) (c : tp ≠ nil0 → z.st ≠ []) : NoFall rs t s tp (n + 1) := fun j hj => by
  rcases Nat.lt_or_ge j (n + 1) with l | l
  · exact nf j (Nat.le_of_lt_succ l)
  · have e : j = n + 1 := Nat.le_antisymm hj l
    subst e
    exact ⟨z, h, c⟩
section
variable {P : Program} {w : World} {K : PySem.W.Frag} {mg : PySem.Str → Option Value} {base : Heap}
/-- the classes Run and Heights and their methods -/
structure XDef (P : Program) (w : World) (K : PySem.W.Frag) (mg : PySem.Str → Option Value) (base : Heap) (CM C CH : Addr) : Prop where
  cls : RCls K C
  hcls : HCls K CH
  name : mg "Run" = some (.ref C)
  hname : mg "Heights" = some (.ref CH)
  init : ∃ f fd, L2.Mk K C f ∧ FnOk P w K mg base CX0 2 f fd ["self", "machine", "text", "standing"] (spRInit K C) ∧ Binds K fd ["self", "machine", "text", "standing"] []
  hinit : ∃ f fd, L2.Mk K CH f ∧ FnOk P w K mg base CX0 1 f fd ["self", "run"] (spHInit CH C) ∧ Binds K fd ["self", "run"] []
  top : ∃ f fd, Meth K C "top" f ∧ FnOk P w K mg base CX0 1 f fd ["self"] (spRTop C) ∧ Binds K fd ["self"] []
  fitting : ∃ f fd, Meth K C "fitting" f ∧ FnOk P w K mg base CX0 2 f fd ["self"] (spRFit K CM C) ∧ Binds K fd ["self"] []
  apply : ∃ f fd, Meth K C "apply" f ∧ FnOk P w K mg base CX0 1 f fd ["self", "act"] (spRApply K C) ∧ Binds K fd ["self", "act"] []
  note : ∃ f fd, Meth K CH "note" f ∧ FnOk P w K mg base CX0 1 f fd ["self", "run"] (spHNote CH C) ∧ Binds K fd ["self", "run"] []
abbrev nExcur : List PySem.Str := ["machine", "text", "surface", "limit", "state", "place", "top", "run", "heights", "said", "end", "act"]
theorem scExcur : FnScope nExcur ["machine", "text", "surface", "limit"] (defScope sExcur) := ⟨rfl, rfl, rfl, by decide +kernel, rfl, by decide +kernel, by decide +kernel⟩
def spExcur (K : PySem.W.Frag) (CM : Addr) : Sp := fun vs H Q _ => ∃ (m p : Addr) (b : Bool) (l t : PySem.Str) (n : Int) (rs : List Rl) (ys : List Int) (q0 p0 : Int) (tp : PySem.Str) (L : Nat), vs = [.ref m, .str t, .ref p, .int (L : Int)] ∧ Pl K H CM m l n rs ys ∧ TxtOk l t ∧ SqB b K H p [.int q0, .int p0, .str tp] ∧ StdOk l n t (symsL rs) ⟨q0, p0, stackOf tp⟩ ∧ L ≤ 200000 ∧
  (∀ H', Same H H' → NoFall rs t ⟨q0, p0, stackOf tp⟩ tp L → (∃ z, nth rs t ⟨q0, p0, stackOf tp⟩ L = some z ∧ fit rs t z ≠ none) → Q .non H') ∧
  (∀ (u : Addr) (H' : Hp), Same H H' → ExcT K H' u rs t ⟨q0, p0, stackOf tp⟩ tp L → Q (.ref u) H')
theorem ok_excur {f CM C CH : Addr} {fd : FuncData} (F : Fun K "excursion" "excursion" sExcur f fd) (T : TM mg) (R : XDef P w K mg base CM C CH)
    (Gp : Got P w K mg base "check_plain" 3 ["machine", "text"] (spCheckPlain K CM)) (Gs : Got P w K mg base "check_surface" 5 ["machine", "text", "surface"] (spCheckSurf K CM)) : FnOk P w K mg base CX0 6 f fd ["machine", "text", "surface", "limit"] (spExcur K CM) := by
  refine F.ok scExcur (fun vs H Q E h => ?_) (fun cdv A outer s H vs Q E hr h => ?_)
  · obtain ⟨m, p, b, l, t, n, rs, ys, q0, p0, tp, L, rfl, _⟩ := h
    rfl
  · obtain ⟨m, p, bb, l, t, n, rs, ys, q0, p0, tp, L, rfl, hm, ht, hp, ok0, lL, kN, kR⟩ := h
    have nd := scExcur.nd
    have h1 := hr.mono (show 1 ≤ 5 by decide)
    have h2 := hr.mono (show 2 ≤ 5 by decide)
    have h3 := hr.mono (show 3 ≤ 5 by decide)
    obtain ⟨fI, fdI, mkI, okI, bI⟩ := R.init
    obtain ⟨fH, fdH, mkH, okH, bH⟩ := R.hinit
    obtain ⟨fT, fdT, mT, okT, bT⟩ := R.top
    obtain ⟨fF, fdF, mF, okF, bF⟩ := R.fitting
    obtain ⟨fA, fdA, mA, okA, bA⟩ := R.apply
    obtain ⟨fN, fdN, mN, okN, bN⟩ := R.note
    refine ⟨_, (pss_cons (ps_expr (pe_got Gp h3 (by rfl) (pa_cons (pv 0) (pa_cons (pv 1) pa_nil))))
      (pss_cons (ps_expr (pe_got Gs hr (by rfl) (pa_cons (pv 0) (pa_cons (pv 1) (pa_cons (pv 2) pa_nil)))))
      (pss_cons (ps_asg (pv 2) (pg_sq bb (by rfl) (pgs_cons (pg_name (i := 4) nd rfl (Or.inl rfl)) (pgs_cons (pg_name (i := 5) nd rfl (Or.inl rfl)) (pgs_cons (pg_name (i := 6) nd rfl (Or.inl rfl)) pgs_nil)))))
      (pss_cons (ps_set (i := 7) nd rfl (Or.inl rfl) (pe_make mkI okI h3 (by rfl) R.name bI .nil pass0 (pa_cons (pv 0) (pa_cons (pv 1) (pa_cons (pe_tup (pa_cons (pv 4) (pa_cons (pv 5) (pa_cons (PE_to (pe_ifExp (pt_truth (pv 6) fun _ => rfl) (pe_tup (pa_cons (pv 6) pa_nil)) (pe_tup pa_nil)) stk_conv) pa_nil)))) pa_nil)))))
      (pss_cons (ps_set (i := 8) nd rfl (Or.inl rfl) (pe_make mkH okH h2 (by rfl) R.hname bH .nil pass0 (pa_cons (pv 7) pa_nil)))
      (pss_cons (ps_set (i := 9) nd rfl (Or.inl rfl) (pe_lst pa_nil))
      (pss_cons (ps_set (i := 10) nd rfl (Or.inl rfl) pe_non)
      (pss_cons (ps_while PassesOwn.never (pt_cmp (pc_isN (pv 10)))
        (pss_cons (ps_set (i := 11) nd rfl (Or.inl rfl) (pe_meth0 (pv 7) R.cls.cls mF okF h2 bF .nil pass0))
        (pss_one (ps_if (pt_cmp (pc_isN (pv 11)))
          (pss_one (ps_set (i := 10) nd rfl (Or.inl rfl) (pe_tup (pa_cons pe_str (pa_cons (pe_fld (pv 7) rfl) (pa_cons (pe_fld (pv 7) rfl) (pa_cons (pe_meth0 (pv 7) R.cls.cls mT okT h1 bT .nil pass0) pa_nil)))))))
          (pss_one (ps_if (pt_cmpR op_eq (pe_callB call_len_seq (by rfl) T.len PySem.boot_len (pa_cons (pv 9) pa_nil)) (pv 3) (nomark _))
            (pss_one (ps_ret pe_non))
            (pss_cons (ps_expr (pe_bm PySem.F.plainAttrs_list PySem.F.slot_list_append PySem.F.type_list_append mt_append (pv 9) (pa_cons (pe_meth (pv 7) R.cls.cls mA okA h1 bA .nil pass0 (pa_cons (pv 11) pa_nil)) pa_nil)))
            (pss_one (ps_if (PW.pt (pw_and (pt_truth (pv 6) fun _ => rfl) (pw_and1 (pt_not (pt_truth (pe_fld (pv 7) rfl) (by intro _; rfl))))))
              (pss_one (ps_set (i := 10) nd rfl (Or.inl rfl) (pe_tup (pa_cons pe_str (pa_cons (pe_fld (pv 7) rfl) (pa_cons (pe_fld (pv 7) rfl) pa_nil))))))
              (pss_one (ps_expr (pe_meth (pv 8) R.hcls.cls mN okN h1 bN .nil pass0 (pa_cons (pv 7) pa_nil)))))))))))))
      (pss_one (ps_ret (pe_tup (pa_cons (pv 10) (pa_cons (pe_callB call_len_seq (by rfl) T.len PySem.boot_len (pa_cons (pv 9) pa_nil)) (pa_cons (pe_fld (pv 8) rfl) (pa_cons (pe_fld (pv 8) rfl) (pa_cons (pe_fld (pv 8) rfl) (pa_cons (pe_join pe_str (pv 9)) pa_nil))))))))))))))))), ?_⟩
    have lt : t.length ≤ 1000 := Nat.le_trans ht.2 (by decide)
    have symS : ∀ r ∈ rs, r.sy ≠ nil0 → r.sy ∈ symsL rs := sym_known
    refine ⟨_, rfl, _, rfl, m, l, t, n, rs, ys, rfl, hm.at_, ht, hm.nd, fun H1 s1 => ?_⟩
    refine ⟨_, rfl, _, rfl, _, rfl, m, p, bb, l, t, n, rs, ys, q0, p0, tp, rfl, hm.mono s1, ht, hp.mono s1, ok0, fun H2 s2 => ?_⟩
    have s12 := s1.trans s2
    refine ⟨_, rfl, gsq_of ⟨p, _, rfl, hp.mono s12, rfl, _, _, rfl, _, _, rfl, _, _, rfl, rfl, ?_⟩⟩
    have okk := ok0
    generalize hs0 : (⟨q0, p0, stackOf tp⟩ : Std) = s0 at okk kN kR
    have lst : s0.st.length ≤ 1 := by
      rw [← hs0]
      unfold stackOf
      split
      · exact Nat.zero_le _
      · exact Nat.le_refl _
    refine ⟨_, rfl, _, rfl, _, rfl, _, rfl, tp, rfl, Nat.le_trans (sym_short hm.ok ok0) (by decide), fun q1 n1 => ⟨show 3 ≤ sizeLine by decide, fun q2 n2 x dx nx ndx nex => ?_⟩⟩
    have t1 := same_new (o := HO.tup ((stackOf tp).map V.str)) n1
    have t2 := same_new (o := HO.tup [V.int q0, V.int p0, V.ref q1]) n2
    have t12 := t1.trans t2
    have tx := made_new (C := C) nx ndx
    have hstd : StdB false false K (upd (upd H2 q1 (.tup ((stackOf tp).map V.str))) q2 (.tup [V.int q0, V.int p0, V.ref q1])) q2 s0 := by
      rw [← hs0]
      exact ⟨q1, .inl (.inl upd_same), .inl (.inl (t2 _ _ upd_same))⟩
    refine ⟨x, dx, m, q2, false, false, t, s0, rfl, upd_same, lt, hstd.mono tx, fun H3 ls o3 nls hR => ⟨rfl, ?_⟩⟩
    have s23 : Same H2 H3 := t12.trans (made_same nx ndx o3)
    have s13 := s12.trans s23
    have nxH : H x = none := s12.free (t12.free nx)
    have nlsH : H ls = none := s12.free (t12.free (tx.free nls))
    clear t1 t2 tx hstd o3 nls
    dsimp only [gName]
    refine ⟨_, rfl, fun y dy ny ndy ney => ⟨y, dy, x, dx, ls, m, t, s0, rfl, upd_same, hR.mono (made_new ny ndy), fun H4 o4 hy4 => ⟨rfl, ?_⟩⟩⟩
    have s34 : Same H3 H4 := made_same ny ndy o4
    have s14 := s13.trans s34
    have nyH : H y = none := s13.free ny
    have hR4 := hR.mono s34
    refine ⟨Nat.zero_le _, fun b nb => ?_⟩
    have tb := same_new (o := HO.lst []) nb
    have nbH : H b = none := s14.free nb
    have hR5 := hR4.mono tb
    have hy5 := tb _ _ hy4
    have hb5 : (upd H4 b (.lst [])) b = some (.lst []) := upd_same
    have s15 := s14.trans tb
    have bx : b ≠ x := fun e => by rw [e, hR4.hx] at nb; cases nb
    have bl : b ≠ ls := fun e => by rw [e, hR4.hl] at nb; cases nb
    have bY : b ≠ y := fun e => by rw [e, hy4] at nb; cases nb
    have yx : y ≠ x := fun e => by rw [e, hR.hx] at ny; cases ny
    have yl : y ≠ ls := fun e => by rw [e, hR.hl] at ny; cases ny
    dsimp only [gName]
    show (tSeq _ _) _ _ (upd H4 b (.lst []))
    generalize upd H4 b (.lst []) = H5 at hR5 hy5 hb5 s15 ⊢
    clear tb nb hR4 hy4 s14 s34 o4 hR s13 s23 t12
    have nf0 : NoFall rs t s0 tp 0 := fun j hj => by
      have e : j = 0 := Nat.le_zero.mp hj
      subst e
      refine ⟨s0, rfl, fun c => ?_⟩
      rw [← hs0]
      show stackOf tp ≠ []
      rw [stackOf_ne c]
      exact List.cons_ne_nil _ _
    refine ⟨fun qq σ H' => ∃ (k : Nat) (z : Std) (e11 : Option V), nth rs t s0 k = some z ∧ k ≤ L ∧ Same H H' ∧ RunAt H' C x dx ls m t z ∧ H' b = some (.lst ((sd rs t s0 k).map V.str)) ∧
        ((qq = L + 1 - k ∧ σ = [some (.ref m), some (.str t), some (.ref p), some (.int (L : Int)), some (.int q0), some (.int p0), some (.str tp), some (.ref x), some (.ref y), some (.ref b), some .non, e11] ∧ NoFall rs t s0 tp k ∧ H' y = some (.ins CH dy (hFs (s0.st.length : Int) (riseN rs t s0 k) (lowN rs t s0 k) (highN rs t s0 k)))) ∨
         (∃ e, qq = 0 ∧ σ = [some (.ref m), some (.str t), some (.ref p), some (.int (L : Int)), some (.int q0), some (.int p0), some (.str tp), some (.ref x), some (.ref y), some (.ref b), some (.ref e), e11] ∧
           ((NoFall rs t s0 tp k ∧ fit rs t z = none ∧ H' e = some (.tup [.str stops0, .int z.q, .int z.p, .str (topOf z.st)]) ∧ H' y = some (.ins CH dy (hFs (s0.st.length : Int) (riseN rs t s0 k) (lowN rs t s0 k) (highN rs t s0 k)))) ∨
            (∃ k', k = k' + 1 ∧ NoFall rs t s0 tp k' ∧ tp ≠ nil0 ∧ z.st = [] ∧ H' e = some (.tup [.str falls0, .int z.q, .int z.p]) ∧ H' y = some (.ins CH dy (hFs (s0.st.length : Int) (riseN rs t s0 k') (lowN rs t s0 k') (highN rs t s0 k'))))))),
      ⟨L + 1, 0, s0, none, rfl, Nat.zero_le _, s15, hR5, hb5, .inl ⟨rfl, rfl, nf0, hy5⟩⟩, ?_⟩
    rintro qq σ H6 ⟨kk, z, e11, hz, kL, s6, hR6, hb6, hcase⟩
    have lsd := sd_len hz
    have okz := nth_ok okk hm.ok symS hz
    have lz := nth_len hz
    have sum3 : (((sd rs t s0 kk).map (·.length)).sum + (sd rs t s0 kk).length * 0) ≤ 16777216 := by
      have := sum_le (sd_low hm.ok (t := t) (s := s0) kk)
      omega
    rcases hcase with ⟨rfl, rfl, nf, hy6⟩ | ⟨e, rfl, rfl, hend⟩
    rotate_left
    · obtain ⟨r, lo, hi, hy6, fin⟩ : ∃ r lo hi, H6 y = some (.ins CH dy (hFs (s0.st.length : Int) r lo hi)) ∧ ∀ u H', Same H6 H' → H' u = some (.tup [.ref e, .int (kk : Int), .int r, .int lo, .int hi, .str (Txt.join nil0 (sd rs t s0 kk))]) → ExcT K H' u rs t s0 tp L := by
        rcases hend with ⟨nf, hf, he, hy⟩ | ⟨k', ek, nf, tn, zn, he, hy⟩
        · exact ⟨_, _, _, hy, fun u H' s' hu => ⟨e, kk, z, kL, hz, .inl ⟨nf, hf, .inl (.inl (s' _ _ he)), .inl (.inl hu)⟩⟩⟩
        · exact ⟨_, _, _, hy, fun u H' s' hu => ⟨e, kk, z, kL, hz, .inr ⟨k', ek, nf, tn, zn, .inl (.inl (s' _ _ he)), .inl (.inl hu)⟩⟩⟩
      refine ⟨_, rfl, _, rfl, iteF ?_⟩
      refine ⟨_, rfl, _, rfl, b, _, rfl, .inl (SqL.of hb6), ?_⟩
      rw [List.length_map, lsd]
      refine ⟨_, rfl, y, CH, dy, _, .int r, rfl, hy6, R.hcls.cls, R.hcls.rise, rfl, _, rfl, y, CH, dy, _, .int lo, rfl, hy6, R.hcls.cls, R.hcls.low, rfl, _, rfl, y, CH, dy, _, .int hi, rfl, hy6, R.hcls.cls, R.hcls.high, rfl, ⟨_, rfl⟩, _, rfl, _, b, sd rs t s0 kk, rfl, rfl, .inl (SqL.of hb6), sum3, show 6 ≤ sizeLine by decide, fun u nu => ?_⟩
      have tu := same_new (o := HO.tup [V.ref e, V.int (kk : Int), V.int r, V.int lo, V.int hi, V.str (Txt.join nil0 (sd rs t s0 kk))]) nu
      exact kR u _ (s6.trans tu) (fin u _ tu upd_same)
    -- in the loop
    refine ⟨_, rfl, _, rfl, iteT ?_⟩
    refine ⟨fun σ' H' => ∃ m', m' < L + 1 - kk ∧ _, fun σ' H' h => h, ?_⟩
    dsimp only
    refine ⟨_, rfl, x, dx, _, rfl, hR6.hx, rfl, x, dx, ls, m, l, t, n, rs, ys, z, rfl, hR6, hm.mono s6, lt, okz.p.1, okz.p.2, fun v H7 s7 hv => ?_⟩
    have hR7 := hR6.mono s7
    have hb7 := s7 _ _ hb6
    have hy7 := s7 _ _ hy6
    have s07 := s6.trans s7
    dsimp only [gName]
    cases hf : fit rs t z with
    | none =>
      have ev : v = .non := by rw [hf] at hv; exact hv
      subst ev
      refine ⟨_, rfl, _, rfl, iteT ?_⟩
      refine ⟨_, rfl, x, C, dx, _, .int z.q, rfl, hR7.hx, R.cls.cls, R.cls.state, rfl, _, rfl, x, C, dx, _, .int z.p, rfl, hR7.hx, R.cls.cls, R.cls.place, rfl, _, rfl, x, dx, _, rfl, hR7.hx, rfl, x, dx, ls, m, t, z, rfl, hR7, show 4 ≤ sizeLine by decide, fun u nu => ?_⟩
      have tu := same_new (o := HO.tup [V.str stops0, V.int z.q, V.int z.p, V.str (topOf z.st)]) nu
      exact ⟨0, by omega, kk, z, _, hz, kL, s07.trans tu, hR7.mono tu, tu _ _ hb7, .inr ⟨u, rfl, rfl, .inl ⟨nf, hf, upd_same, tu _ _ hy7⟩⟩⟩
    | some r =>
      rw [hf] at hv
      obtain ⟨a, rfl, ha⟩ := hv
      refine ⟨_, rfl, _, rfl, iteF ?_⟩
      refine ⟨_, rfl, b, _, rfl, .inl (SqL.of hb7), ?_⟩
      rw [List.length_map, lsd]
      refine ⟨_, rfl, rfl, _, rfl, ite2 (fun c => ?_) (fun c => ?_)⟩
      · have ek : kk = L := by
          have z := V.int.inj (of_decide_eq_true c)
          omega
        subst ek
        exact kN H7 s07 nf ⟨z, hz, fun h => by rw [hf] at h; cases h⟩
      · have kl : kk < L := by
          have : kk ≠ L := fun e => c (decide_eq_true (by rw [e]))
          omega
        have hz1 := nth_step hz hf
        refine ⟨_, rfl, .inl ⟨rfl, _, SqL.of hb7⟩, _, rfl, x, dx, _, rfl, hR7.hx, rfl, _, rfl, x, dx, ls, m, a, t, l, n, z, r, rfl, hR7, ha, hm.ok r (find_some hf).1, fun h => pop_ne hm.ok hf h, by omega, fun H8 o8 hR8 => ?_⟩
        have hb8 := o8 _ _ bx bl hb7
        refine ⟨b, _, _, rfl, rfl, hb8, by rw [List.length_map, lsd]; exact Nat.lt_of_le_of_lt (show kk ≤ 200000 by omega) (by decide), ?_⟩
        have s08 : Same H H8 := fun c o h => o8 c o (fun e => by rw [e, nxH] at h; cases h) (fun e => by rw [e, nlsH] at h; cases h) (s07 _ _ h)
        have s09 : Same H (upd H8 b (.lst ((sd rs t s0 kk).map V.str ++ [V.str r.sa]))) := same_mut s08 nbH
        have hR9 : RunAt (upd H8 b (.lst ((sd rs t s0 kk).map V.str ++ [V.str r.sa]))) C x dx ls m t (next z r) := ⟨by rw [upd_ne (Ne.symm bx)]; exact hR8.hx, by rw [upd_ne (Ne.symm bl)]; exact hR8.hl⟩
        have hb9 : (upd H8 b (.lst ((sd rs t s0 kk).map V.str ++ [V.str r.sa]))) b = some (.lst ((sd rs t s0 (kk + 1)).map V.str)) := by rw [upd_same, sd_step hz hf, List.map_append] <;> rfl
        have hy9 : (upd H8 b (.lst ((sd rs t s0 kk).map V.str ++ [V.str r.sa]))) y = some (.ins CH dy (hFs (s0.st.length : Int) (riseN rs t s0 kk) (lowN rs t s0 kk) (highN rs t s0 kk))) := by rw [upd_ne (Ne.symm bY)]; exact o8 _ _ yx yl hy7
        refine ⟨_, rfl, _, ⟨Nat.le_trans (sym_short hm.ok ok0) (by decide), tru_str.symm⟩, ?_⟩
        by_cases ct : tp = nil0
        · rw [decide_eq_true ct]
          refine iteF (iteF ?_)
          refine ⟨_, rfl, y, dy, _, rfl, hy9, rfl, _, rfl, y, dy, x, dx, ls, m, t, next z r, _, _, _, _, rfl, hy9, hR9, fun H10 o10 hy10 => ?_⟩
          refine ⟨L + 1 - (kk + 1), by omega, kk + 1, next z r, _, hz1, by omega, fun c o h => o10 c o (fun e => by rw [e, nyH] at h; cases h) (s09 _ _ h), ⟨o10 _ _ (Ne.symm yx) hR9.hx, o10 _ _ (Ne.symm yl) hR9.hl⟩, o10 _ _ bY hb9, .inl ⟨rfl, rfl, nf.succ hz1 (fun h => absurd ct h), ?_⟩⟩
          rw [hy10, riseN_succ hz1, lowN_succ hz1, highN_succ hz1]
        · rw [decide_eq_false ct]
          refine iteT ⟨_, rfl, x, C, dx, _, .ref ls, rfl, hR9.hx, R.cls.cls, R.cls.stack, rfl, _, .inl ⟨_, SqL.of hR9.hl, rfl⟩, ?_⟩
          by_cases ce : (next z r).st = []
          · have e : (!(!((next z r).st.map V.str).isEmpty)) = true := by rw [ce] <;> rfl
            refine ite2 (fun _ => ?_) (fun c2 => absurd e c2)
            refine ⟨_, rfl, x, C, dx, _, .int (next z r).q, rfl, hR9.hx, R.cls.cls, R.cls.state, rfl, _, rfl, x, C, dx, _, .int (next z r).p, rfl, hR9.hx, R.cls.cls, R.cls.place, rfl, show 3 ≤ sizeLine by decide, fun u nu => ?_⟩
            have tu := same_new (o := HO.tup [V.str falls0, V.int (next z r).q, V.int (next z r).p]) nu
            exact ⟨0, by omega, kk + 1, next z r, _, hz1, by omega, s09.trans tu, hR9.mono tu, tu _ _ hb9, .inr ⟨u, rfl, rfl, .inr ⟨kk, rfl, nf, ct, ce, upd_same, tu _ _ hy9⟩⟩⟩
          · have e : ¬ (!(!((next z r).st.map V.str).isEmpty)) = true := fun h => by
              cases hh : (next z r).st with
              | nil => exact ce hh
              | cons _ _ => rw [hh] at h; cases h
            refine ite2 (fun c2 => absurd c2 e) (fun _ => ?_)
            refine ⟨_, rfl, y, dy, _, rfl, hy9, rfl, _, rfl, y, dy, x, dx, ls, m, t, next z r, _, _, _, _, rfl, hy9, hR9, fun H10 o10 hy10 => ?_⟩
            refine ⟨L + 1 - (kk + 1), by omega, kk + 1, next z r, _, hz1, by omega, fun c o h => o10 c o (fun e => by rw [e, nyH] at h; cases h) (s09 _ _ h), ⟨o10 _ _ (Ne.symm yx) hR9.hx, o10 _ _ (Ne.symm yl) hR9.hl⟩, o10 _ _ bY hb9, .inl ⟨rfl, rfl, nf.succ hz1 (fun _ => ce), ?_⟩⟩
            rw [hy10, riseN_succ hz1, lowN_succ hz1, highN_succ hz1]
end
end Mk

set_option Elab.async false
set_option linter.unusedVariables false
set_option maxRecDepth 100000
set_option maxHeartbeats 16000000
namespace Mk
open PySem L2 Pk
/-! the walk of the law -/
abbrev long0 : PySem.Str := PySem.Str.ofString "long"
abbrev ends0 : PySem.Str := PySem.Str.ofString "endless"
/-- how high the run is after j steps, where it is -/
def htN (rs : List Rl) (t : PySem.Str) (s : Std) (j : Nat) : Int := match nth rs t s j with
  | some z => (z.st.length : Int) - (s.st.length : Int)
  | none => 0
def plN (rs : List Rl) (t : PySem.Str) (s : Std) (j : Nat) : Int := match nth rs t s j with
  | some z => z.p
  | none => 0
theorem htN_of {rs : List Rl} {t : PySem.Str} {s z : Std} {j : Nat} (h : nth rs t s j = some z) : htN rs t s j = (z.st.length : Int) - (s.st.length : Int) := by
  unfold htN
  rw [h]
theorem plN_of {rs : List Rl} {t : PySem.Str} {s z : Std} {j : Nat} (h : nth rs t s j = some z) : plN rs t s j = z.p := by
  unfold plN
  rw [h]
theorem mx_le (i j : Int) : i ≤ mx i j ∧ j ≤ mx i j ∧ (mx i j = i ∨ mx i j = j) := by
  unfold mx
  split <;> refine ⟨?_, ?_, ?_⟩ <;> first | omega | exact .inr rfl | exact .inl rfl
theorem mn_le (i j : Int) : mn i j ≤ i ∧ mn i j ≤ j ∧ (mn i j = i ∨ mn i j = j) := by
  unfold mn
  split <;> refine ⟨?_, ?_, ?_⟩ <;> first | omega | exact .inr rfl | exact .inl rfl
theorem riseN_max {rs : List Rl} {t : PySem.Str} {s : Std} : ∀ {n : Nat} {z : Std}, nth rs t s n = some z → (∃ j, j ≤ n ∧ riseN rs t s n = htN rs t s j) ∧ ∀ j, j ≤ n → htN rs t s j ≤ riseN rs t s n
  | 0, z, h => by
    have e : htN rs t s 0 = 0 := by
      rw [htN_of (z := s) rfl]
      omega
    refine ⟨⟨0, Nat.le_refl _, e.symm⟩, fun j hj => ?_⟩
    rw [Nat.le_zero.mp hj, e]
    exact Int.le_refl _
  | n + 1, z, h => by
    obtain ⟨y, hy⟩ := nth_some h (Nat.le_succ n)
    obtain ⟨⟨j0, l0, e0⟩, m0⟩ := riseN_max hy
    rw [riseN_succ h, ← htN_of h]
    obtain ⟨a1, a2, a3⟩ := mx_le (riseN rs t s n) (htN rs t s (n + 1))
    refine ⟨?_, fun j hj => ?_⟩
    · rcases a3 with a3 | a3
      · exact ⟨j0, Nat.le_succ_of_le l0, by rw [a3, e0]⟩
      · exact ⟨n + 1, Nat.le_refl _, a3⟩
    · rcases Nat.lt_or_ge j (n + 1) with c | c
      · exact Int.le_trans (m0 j (Nat.le_of_lt_succ c)) a1
      · rw [Nat.le_antisymm hj c]
        exact a2
theorem highN_max {rs : List Rl} {t : PySem.Str} {s : Std} : ∀ {n : Nat} {z : Std}, nth rs t s n = some z → (∃ j, j ≤ n ∧ highN rs t s n = plN rs t s j) ∧ ∀ j, j ≤ n → plN rs t s j ≤ highN rs t s n
  | 0, z, h => by
    refine ⟨⟨0, Nat.le_refl _, rfl⟩, fun j hj => ?_⟩
    rw [Nat.le_zero.mp hj]
    exact Int.le_refl _
  | n + 1, z, h => by
    obtain ⟨y, hy⟩ := nth_some h (Nat.le_succ n)
    obtain ⟨⟨j0, l0, e0⟩, m0⟩ := highN_max hy
    rw [highN_succ h, ← plN_of h]
    obtain ⟨a1, a2, a3⟩ := mx_le (highN rs t s n) (plN rs t s (n + 1))
    refine ⟨?_, fun j hj => ?_⟩
    · rcases a3 with a3 | a3
      · exact ⟨j0, Nat.le_succ_of_le l0, by rw [a3, e0]⟩
      · exact ⟨n + 1, Nat.le_refl _, a3⟩
    · rcases Nat.lt_or_ge j (n + 1) with c | c
      · exact Int.le_trans (m0 j (Nat.le_of_lt_succ c)) a1
      · rw [Nat.le_antisymm hj c]
        exact a2
theorem lowN_min {rs : List Rl} {t : PySem.Str} {s : Std} : ∀ {n : Nat} {z : Std}, nth rs t s n = some z → (∃ j, j ≤ n ∧ lowN rs t s n = plN rs t s j) ∧ ∀ j, j ≤ n → lowN rs t s n ≤ plN rs t s j
  | 0, z, h => by
    refine ⟨⟨0, Nat.le_refl _, rfl⟩, fun j hj => ?_⟩
    rw [Nat.le_zero.mp hj]
    exact Int.le_refl _
  | n + 1, z, h => by
    obtain ⟨y, hy⟩ := nth_some h (Nat.le_succ n)
    obtain ⟨⟨j0, l0, e0⟩, m0⟩ := lowN_min hy
    rw [lowN_succ h, ← plN_of h]
    obtain ⟨a1, a2, a3⟩ := mn_le (lowN rs t s n) (plN rs t s (n + 1))
    refine ⟨?_, fun j hj => ?_⟩
    · rcases a3 with a3 | a3
      · exact ⟨j0, Nat.le_succ_of_le l0, by rw [a3, e0]⟩
      · exact ⟨n + 1, Nat.le_refl _, a3⟩
    · rcases Nat.lt_or_ge j (n + 1) with c | c
      · exact Int.le_trans a1 (m0 j (Nat.le_of_lt_succ c))
      · rw [Nat.le_antisymm hj c]
        exact a2
/-- the greatest, the least of the first n + 1 -/
theorem range_max {f : Nat → Int} {n : Nat} {m M : Int} (h1 : m ∈ (List.range (n + 1)).map f) (h2 : ∀ y ∈ (List.range (n + 1)).map f, y ≤ m) (e : (∃ j, j ≤ n ∧ M = f j) ∧ ∀ j, j ≤ n → f j ≤ M) : m = M := by
  obtain ⟨⟨j, lj, ej⟩, hm⟩ := e
  obtain ⟨i, mi, ei⟩ := List.mem_map.mp h1
  have a := hm i (Nat.le_of_lt_succ (List.mem_range.mp mi))
  have b := h2 (f j) (List.mem_map.mpr ⟨j, List.mem_range.mpr (Nat.lt_succ_of_le lj), rfl⟩)
  omega
theorem range_min {f : Nat → Int} {n : Nat} {m M : Int} (h1 : m ∈ (List.range (n + 1)).map f) (h2 : ∀ y ∈ (List.range (n + 1)).map f, m ≤ y) (e : (∃ j, j ≤ n ∧ M = f j) ∧ ∀ j, j ≤ n → M ≤ f j) : m = M := by
  obtain ⟨⟨j, lj, ej⟩, hm⟩ := e
  obtain ⟨i, mi, ei⟩ := List.mem_map.mp h1
  have a := hm i (Nat.le_of_lt_succ (List.mem_range.mp mi))
  have b := h2 (f j) (List.mem_map.mpr ⟨j, List.mem_range.mpr (Nat.lt_succ_of_le lj), rfl⟩)
  omega
/-- the surfaces of a walk -/
def MetS (K : PySem.W.Frag) (H : Hp) (as : List Addr) (rs : List Rl) (t : PySem.Str) (s : Std) (m : Nat) : Prop := as.length = m + 1 ∧ ∀ j, j ≤ m → ∃ q x, as[j]? = some q ∧ nth rs t s j = some x ∧ SqT K H q [.int x.q, .int x.p, .str (topOf x.st)]
theorem MetS.mono {K : PySem.W.Frag} {H H' : Hp} {as : List Addr} {rs : List Rl} {t : PySem.Str} {s : Std} {m : Nat} (h : MetS K H as rs t s m) (e : Same H H') : MetS K H' as rs t s m :=
  ⟨h.1, fun j hj => let ⟨q, x, a, b, c⟩ := h.2 j hj; ⟨q, x, a, b, Pk.Same.tup e c⟩⟩
/-- what a walk tells: its word, m steps noted, k letters printed, where the ring closes, where it lands -/
structure WalkAt (K : PySem.W.Frag) (H : Hp) (p : Addr) (rs : List Rl) (t : PySem.Str) (s : Std) (wd : PySem.Str) (m k : Nat) (f : Int) (ld : V) : Prop where
  ex : ∃ (aM aH aS : Addr) (as : List Addr), H p = some (.lst [.str wd, .ref aM, .ref aH, .ref aS, .int f, ld]) ∧ H aM = some (.lst (as.map V.ref)) ∧ MetS K H as rs t s m ∧ H aH = some (.lst (((List.range (m + 1)).map (htN rs t s)).map V.int)) ∧ H aS = some (.lst ((sd rs t s k).map V.str))
theorem WalkAt.mono {K : PySem.W.Frag} {H H' : Hp} {p : Addr} {rs : List Rl} {t : PySem.Str} {s : Std} {wd : PySem.Str} {m k : Nat} {f : Int} {ld : V} (h : WalkAt K H p rs t s wd m k f ld) (e : Same H H') : WalkAt K H' p rs t s wd m k f ld := by
  obtain ⟨aM, aH, aS, as, h1, h2, h3, h4, h5⟩ := h
  exact ⟨aM, aH, aS, as, e _ _ h1, e _ _ h2, h3.mono e, e _ _ h4, e _ _ h5⟩
end Mk

set_option Elab.async false
set_option linter.unusedVariables false
set_option maxRecDepth 100000
set_option maxHeartbeats 16000000
namespace Mk
open PySem L2 Pk
abbrev nExc : List PySem.Str := ["walk", "places", "steps", "end", "surface"]
theorem scExc : FnScope nExc ["walk"] (defScope sExc) := ⟨rfl, rfl, rfl, by decide +kernel, rfl, by decide +kernel, by decide +kernel⟩
section
variable {P : Program} {w : World} {K : PySem.W.Frag} {mg : PySem.Str → Option Value} {base : Heap}
/-! _law_excursion -/
def spExc (K : PySem.W.Frag) : Sp := fun vs H Q _ => ∃ (p : Addr) (rs : List Rl) (t : PySem.Str) (s : Std) (wd : PySem.Str) (m k : Nat) (ld : V) (z : Std) (es : List V), vs = [.ref p] ∧ WalkAt K H p rs t s wd m k (-1) ld ∧ m ≤ 30000 ∧ (∀ w ∈ sd rs t s k, w.length ≤ 3) ∧ nth rs t s k = some z ∧
  ((wd = stops0 ∧ k = m ∧ es = [.str stops0, .int z.q, .int z.p, .str (topOf z.st)]) ∨ (wd = falls0 ∧ k = m + 1 ∧ (∃ lz, ld = .ref lz ∧ SqT K H lz [.int z.q, .int z.p]) ∧ es = [.str falls0, .int z.q, .int z.p])) ∧
  ∀ (u e : Addr) (H' : Hp), Same H H' → SqT K H' e es → SqT K H' u [.ref e, .int (k : Int), .int (riseN rs t s m), .int (lowN rs t s m), .int (highN rs t s m), .str (Txt.join nil0 (sd rs t s k))] → Q (.ref u) H'
theorem ok_exc {f : Addr} {fd : FuncData} (F : Fun K "_law_excursion" "_law_excursion" sExc f fd) (T : TM mg) (TX : mg "max" = none) (TN : mg "min" = none) : FnOk P w K mg base CX0 1 f fd ["walk"] (spExc K) := by
  refine F.ok scExc (fun vs H Q E h => ?_) (fun cdv A outer s H vs Q E hr h => ?_)
  · obtain ⟨p, rs, t, s, wd, m, k, ld, z, es, rfl, _⟩ := h
    rfl
  · obtain ⟨p, rs, t, s0, wd, m, k, ld, z, es, rfl, hW, lm, l3, hz, hc, kk⟩ := h
    have nd := scExc.nd
    refine ⟨_, (pss_cons (ps_setLc (i := 1) (own := [("surface", 4)]) (g := gName 4) (tt := tYes) (by rfl) nd rfl rfl (sw_true rfl rfl rfl (by decide +kernel)) (pi_list (pe_ix ix_list (pv 0) pe_int fun _ _ => rfl)) (blkOk_by (own := [("surface", 4)]) (N := nExc) (sc := defScope sExc) (by decide +kernel)) (fun _ _ _ _ _ => pg_name (i := 4) nd rfl (Or.inl rfl)) (fun _ _ _ _ _ => pts_nil) (fun _ _ _ _ _ => (pe_ix (r := rIxT K) ix_tup (pv 4) pe_int fun _ _ => rfl)))
      (pss_cons (ps_set (i := 2) nd rfl (Or.inl rfl) (pe_callB call_len_seq (by rfl) T.len PySem.boot_len (pa_cons (pe_ix ix_list (pv 0) pe_int fun _ _ => rfl) pa_nil)))
      (pss_cons (ps_set (i := 3) nd rfl (Or.inl rfl) (pe_op op_catT (pe_tup (pa_cons pe_str pa_nil)) (pe_ix ix_list (pe_ix ix_list (pv 0) pe_int fun _ _ => rfl) (pe_op op_sub (pe_callB call_len_seq (by rfl) T.len PySem.boot_len (pa_cons (pe_ix ix_list (pv 0) pe_int fun _ _ => rfl) pa_nil)) pe_int) fun _ _ => rfl)))
      (C8.pss_cut (ps_if (pt_cmpR op_eq (pe_ix ix_list (pv 0) pe_int fun _ _ => rfl) pe_str (nomark _))
        (pss_one (ps_set (i := 3) nd rfl (Or.inl rfl) (pe_op op_catT (pe_tup (pa_cons pe_str pa_nil)) (pe_ix ix_list (pv 0) pe_int fun _ _ => rfl))))
        pss_nil)
      (pss_one (ps_ret (pe_tup (pa_cons (pv 3) (pa_cons (pv 2) (pa_cons (pe_callB (cr_max (by rfl)) (by rfl) TX (by decide +kernel) (pa_cons (pe_ix ix_list (pv 0) pe_int fun _ _ => rfl) pa_nil)) (pa_cons (pe_callB (cr_min (by rfl)) (by rfl) TN (by decide +kernel) (pa_cons (pv 1) pa_nil)) (pa_cons (pe_callB (cr_max (by rfl)) (by rfl) TX (by decide +kernel) (pa_cons (pv 1) pa_nil)) (pa_cons (pe_join pe_str (pe_ix ix_list (pv 0) pe_int fun _ _ => rfl)) pa_nil))))))))))))), ?_⟩
    obtain ⟨aM, aH, aS, as, hp, hM, hMet, hH, hS⟩ := hW
    have lk : k ≤ m + 1 := by rcases hc with ⟨_, e, _⟩ | ⟨_, e, _⟩ <;> omega
    obtain ⟨zm, hzm⟩ : ∃ zm, nth rs t s0 m = some zm := nth_some hz (by rcases hc with ⟨_, e, _⟩ | ⟨_, e, _⟩ <;> omega)
    have lsd := sd_len hz
    have lA : as.length = m + 1 := hMet.1
    -- the places
    refine ⟨_, rfl, p, _, 1, .ref aM, rfl, rfl, SqL.of hp, rfl, aM, rfl, ⟨_, SqL.of hM⟩, fun D nD => lc_list (K := K) (a := aM) (xs := as.map V.ref) (fun i H' => Same H H' ∧ H' D = some (.lst (((List.range i).map (plN rs t s0)).map V.int))) ⟨same_new nD, upd_same⟩ (fun i H' _ h => SqL.of (h.1 _ _ hM)) ?_ ?_⟩
    · rintro i v H2 hi ⟨s2, hD2⟩
      rw [List.getElem?_map] at hi
      obtain ⟨q, eq, rfl⟩ := Option.map_eq_some_iff.mp hi
      have il : i < m + 1 := by
        have := (List.getElem?_eq_some_iff.mp eq).1
        omega
      obtain ⟨q', x, eq', hx, hq⟩ := hMet.2 i (Nat.le_of_lt_succ il)
      rw [eq] at eq'
      cases eq'
      refine ⟨rfl, ?_⟩
      refine ⟨_, rfl, q, _, 1, .int x.p, rfl, rfl, Pk.Same.tup s2 hq, rfl, _, hD2, ?_, same_mut s2 nD, ?_⟩
      · rw [List.length_map, List.length_map, List.length_range]
        exact Nat.lt_of_le_of_lt (show i ≤ 30000 by omega) (by decide)
      · rw [upd_same, List.range_succ, List.map_append, List.map_append, List.map_singleton, List.map_singleton, plN_of hx]
    rintro H2 ⟨s2, hD2⟩
    rw [List.length_map, lA] at hD2
    dsimp only [gName]
    have hp2 := s2 _ _ hp
    have hM2 := s2 _ _ hM
    refine ⟨_, rfl, p, _, 3, .ref aS, rfl, rfl, SqL.of hp2, rfl, aS, _, rfl, .inl (SqL.of (s2 _ _ hS)), ?_⟩
    rw [List.length_map, lsd]
    refine ⟨show 1 ≤ sizeLine by decide, fun u1 n1 => ?_⟩
    have t1 := same_new (o := HO.tup [V.str stops0]) n1
    have s3 := s2.trans t1
    obtain ⟨qm, xm, aqm, hxm, hqm⟩ := hMet.2 m (Nat.le_refl _)
    rw [hzm] at hxm
    cases hxm
    refine ⟨_, rfl, p, _, 1, .ref aM, rfl, rfl, SqL.of (s3 _ _ hp), rfl, _, rfl, p, _, 1, .ref aM, rfl, rfl, SqL.of (s3 _ _ hp), rfl, aM, _, rfl, .inl (SqL.of (s3 _ _ hM)), ?_⟩
    rw [List.length_map, lA]
    have em1 : ((m + 1 : Nat) : Int) - 1 = (m : Int) := by omega
    refine ⟨_, _, rfl, rfl, ?_⟩
    dsimp only
    rw [em1]
    have atm : atI (as.map V.ref) (m : Int) = some (.ref qm) := atI_nat (by rw [List.getElem?_map, aqm] <;> rfl)
    refine ⟨aM, _, _, .ref qm, rfl, rfl, SqL.of (s3 _ _ hM), atm, u1, qm, [V.str stops0], _, rfl, rfl, .inl (.inl upd_same), Pk.Same.tup s3 hqm, (fun e => by cases e), show 4 ≤ sizeLine by decide, (fun e => by cases e), fun _ u2 n2 => ?_⟩
    have t2 := same_new (o := HO.tup ([V.str stops0] ++ [V.int zm.q, V.int zm.p, V.str (topOf zm.st)])) n2
    have s4 := s3.trans t2
    have hu2 : (upd (upd H2 u1 (.tup [V.str stops0])) u2 (.tup ([V.str stops0] ++ [V.int zm.q, V.int zm.p, V.str (topOf zm.st)]))) u2 = some (.tup [V.str stops0, V.int zm.q, V.int zm.p, V.str (topOf zm.st)]) := upd_same
    dsimp only [gName]
    have hD4 := t2 _ _ (t1 _ _ hD2)
    show (C8.tCut _ _) _ _ (upd (upd H2 u1 (.tup [V.str stops0])) u2 (.tup ([V.str stops0] ++ [V.int zm.q, V.int zm.p, V.str (topOf zm.st)])))
    generalize upd (upd H2 u1 (.tup [V.str stops0])) u2 (.tup ([V.str stops0] ++ [V.int zm.q, V.int zm.p, V.str (topOf zm.st)])) = H4 at s4 hu2 hD4 ⊢
    refine ⟨fun σ' H' => ∃ e : Addr, σ' = [some (.ref p), some (.ref D), some (.int (k : Int)), some (.ref e), none] ∧ Same H4 H' ∧ SqT K H' e es, ?_, ?_⟩
    · refine ⟨_, rfl, p, _, 0, .str wd, rfl, rfl, SqL.of (s4 _ _ hp), rfl, rfl, _, rfl, ite2 (fun c => ?_) (fun c => ?_)⟩
      · have ew : wd = falls0 := V.str.inj (of_decide_eq_true c)
        rcases hc with ⟨e, _⟩ | ⟨_, _, ⟨lz, rfl, hlz⟩, rfl⟩
        · rw [e] at ew
          exact absurd ew (by decide +kernel)
        · refine ⟨show 1 ≤ sizeLine by decide, fun u3 n3 => ?_⟩
          have t3 := same_new (o := HO.tup [V.str falls0]) n3
          refine ⟨_, rfl, p, _, 5, .ref lz, rfl, rfl, SqL.of (t3 _ _ (s4 _ _ hp)), rfl, u3, lz, [V.str falls0], _, rfl, rfl, .inl (.inl upd_same), Pk.Same.tup (s4.trans t3) hlz, (fun e => by cases e), show 3 ≤ sizeLine by decide, (fun e => by cases e), fun _ u4 n4 => ?_⟩
          exact ⟨u4, rfl, t3.trans (same_new n4), .inl (.inl upd_same)⟩
      · rcases hc with ⟨_, rfl, rfl⟩ | ⟨e, _⟩
        · rw [hzm] at hz
          cases hz
          exact ⟨u2, rfl, Same.refl _, .inl (.inl hu2)⟩
        · exact absurd (decide_eq_true (by rw [e])) c
    rintro σ' H5 ⟨e, rfl, s45, he⟩
    have s5 := s4.trans s45
    have hD5 := s45 _ _ hD4
    have len1 : 0 < ((List.range (m + 1)).map (htN rs t s0)).length := by rw [List.length_map, List.length_range]; omega
    have len2 : 0 < ((List.range (m + 1)).map (plN rs t s0)).length := by rw [List.length_map, List.length_range]; omega
    refine ⟨_, rfl, _, rfl, _, rfl, p, _, 2, .ref aH, rfl, rfl, SqL.of (s5 _ _ hp), rfl, aH, _, rfl, SqL.of (s5 _ _ hH), len1, fun a ma ha => ?_⟩
    rw [range_max ma ha (riseN_max hzm)]
    refine ⟨_, rfl, D, _, rfl, SqL.of hD5, len2, fun b mb hb => ?_⟩
    rw [range_min mb hb (lowN_min hzm)]
    refine ⟨_, rfl, D, _, rfl, SqL.of hD5, len2, fun c mc hc => ?_⟩
    rw [range_max mc hc (highN_max hzm)]
    have sum3 : (((sd rs t s0 k).map (·.length)).sum + (sd rs t s0 k).length * 0) ≤ 16777216 := by
      have := sum_le l3
      omega
    refine ⟨⟨_, rfl⟩, _, rfl, p, _, 3, .ref aS, rfl, rfl, SqL.of (s5 _ _ hp), rfl, _, aS, sd rs t s0 k, rfl, rfl, .inl (SqL.of (s5 _ _ hS)), sum3, show 6 ≤ sizeLine by decide, fun u nu => ?_⟩
    have tu := same_new (o := HO.tup [V.ref e, V.int (k : Int), V.int (riseN rs t s0 m), V.int (lowN rs t s0 m), V.int (highN rs t s0 m), V.str (Txt.join nil0 (sd rs t s0 k))]) nu
    exact kk u e _ (s5.trans tu) (Pk.Same.tup tu he) (.inl (.inl upd_same))
end
end Mk

set_option Elab.async false
set_option linter.unusedVariables false
set_option maxRecDepth 100000
set_option maxHeartbeats 4000000
namespace L2
open PySem PySem.Spec PyProof.Rows
/-! {(..): v}: a display with one key, a tuple -/
def tDispT (tk tv : TE) : TE := fun σ H Q => ∀ p, H p = none → tk σ (upd H p (.dT [])) fun x H1 => tv σ H1 fun y H2 => ∃ (b : Addr) (k : List Key), x = .ref b ∧ H2 b = some (.tup (k.map kV)) ∧ H2 p = some (.dT []) ∧ Q (.ref p) (upd H2 p (.dT [(k, y)]))
theorem pe_dispT {X : Cx} {pos : Pos} {k v : Expr} {tk tv : TE} (hu : X.A.units + 1 < cLine) (hk : PE X k tk) (hv : PE X v tv) : PE X (.Dict [some k] [v] pos) (tDispT tk tv) := by
  refine ⟨fun pins s σ H Q I q => ?_⟩
  have hn := I.hok.fresh (Nat.le_refl s.heap.objs.size)
  have I1 := I.laid (a := s.heap.objs.size) (o := .dT []) (h' := s.heap.push { cls := .type "dict", data := .dict #[] }) (t' := s.toks) (fun _ _ q => Heap.get?_push_of_some _ q) (Nat.le_refl _) (dt_empty s.heap I.big)
  rw [arm_eval_Dict, zip_pairTrees [some k] [v] X.env pos rfl rfl, dictDisplay_pairs (pairTrees [some k] [v] X.env pos) (List.cons_ne_nil _ _) (show 1 < 17 by decide)]
  refine wpAny_bind (wpAny_standAt (wpAny_bind ?_))
  unfold subDict
  refine wpAny_bind (wpAny_alloc ?_)
  refine wpAny_bind (wpAny_holding ?_)
  rw [if_pos (show (pairTrees [some k] [v] X.env pos).length ≤ 15 from by show 1 ≤ 15; decide)]
  refine wpAny_bind (pairTrees_cons_walk (thn (hk.run pins _ σ _ _ I1 (q _ hn)) fun u s1 ⟨x, H1, I2, rx, q1⟩ => thn (hv.run pins s1 σ H1 _ I2 q1) fun w2 s2 ⟨y, H2, I3, ry, b, kk, ex, eb, ed, q2⟩ => pairTrees_nil_walk ?_))
  subst ex
  cases (show u = Value.ref b from rx)
  obtain ⟨z, hd, xs, rel, dd⟩ := dt_of I3.hok ed
  have hz : xs.length ≤ sizeLine := by rw [← Paired.length rel]; exact z
  refine wpAny_holding ?_
  rw [List.forIn_cons]
  refine wpAny_bind (wpAny_bind (wpAny_bind (wpAny_dictSet_heap (hsz := hz) (knd := tupleKind (mixKind X.prog X.w)) (show X.A.units < cLine by omega) (key_of I3.hok eb) dd fun h' dd' hs => wpAny_pure ?_)))
  show wpAny (model X.prog X.w) X.A (forIn ([] : List (Value × Value)) PUnit.unit _) _ _ _
  rw [List.forIn_nil]
  refine wpAny_pure (wpAny_pure (wpAny_pure (wpAny_pure ?_)))
  obtain ⟨q', es, ep, hq, h2, h3, h4, _, h5⟩ := dd'
  refine ⟨.ref s.heap.objs.size, upd H2 s.heap.objs.size (.dT [(kk, y)]), ?_, rfl, q2⟩
  refine d_write I3 (by rw [ed]; exact True.intro) hs ⟨q', hq⟩ ⟨show 1 ≤ sizeLine by decide, hd, _, (rel.put kk eb ry).keeps fun c ys ec => ?_, q', es, ep, hq, h2, h3, h4, h5⟩
  rw [upd_ne (ne_of ec ed (fun z => nomatch z))]
  exact ec
end L2

set_option Elab.async false
set_option linter.unusedVariables false
set_option maxRecDepth 100000
set_option maxHeartbeats 4000000
namespace Mk
open PySem L2 Pk
/-! what the walk keeps: the open surfaces, and since when each is open -/
def surfK (x : Std) : List Key := [.inl x.q, .inl x.p, .inr (topOf x.st)]
def keyN (rs : List Rl) (t : PySem.Str) (s : Std) (j : Nat) : List Key := match nth rs t s j with
  | some z => surfK z
  | none => []
theorem keyN_of {rs : List Rl} {t : PySem.Str} {s z : Std} {j : Nat} (h : nth rs t s j = some z) : keyN rs t s j = surfK z := by
  unfold keyN
  rw [h]
theorem surfK_inj {x y : Std} (h : surfK x = surfK y) : x.q = y.q ∧ x.p = y.p ∧ topOf x.st = topOf y.st := by
  injection h with h1 h2
  injection h2 with h2 h3
  injection h3 with h3 h4
  exact ⟨Sum.inl.inj h1, Sum.inl.inj h2, Sum.inr.inj h3⟩
theorem forever {l t : PySem.Str} {n0 : Int} {rs : List Rl} {s x y : Std} {tp : PySem.Str} {i j : Nat} (okR : ∀ r ∈ rs, RlOk l n0 r) (ok0 : StdOk l n0 t (symsL rs) s) (hi : nth rs t s i = some x) (hj : nth rs t s j = some y) (ij : i < j) (hk : surfK x = surfK y)
    (low : ∀ k, i ≤ k → k ≤ j → htN rs t s i ≤ htN rs t s k) (nf : NoFall rs t s tp j) : ∀ n, NoFall rs t s tp n := by
  obtain ⟨hq, hp, ht⟩ := surfK_inj hk
  have low' : ∀ k z, i ≤ k → k ≤ j → nth rs t s k = some z → x.st.length ≤ z.st.length := fun k z h1 h2 hz => by
    have a := low k h1 h2
    rw [htN_of hi, htN_of hz] at a
    omega
  have okx := nth_ok ok0 okR sym_known hj
  by_cases hx : x.st = []
  · have hy : y.st = [] := by
      cases e : y.st with
      | nil => rfl
      | cons a r =>
        have ne : y.st ≠ [] := by rw [e]; exact List.cons_ne_nil _ _
        have tn : topOf y.st = nil0 := by rw [← ht, hx] <;> rfl
        have mem : topOf y.st ∈ y.st := by
          rw [last_split ne]
          rw [top_app (List.cons_ne_nil _ _)]
          exact List.mem_append_right _ (List.mem_singleton.mpr rfl)
        have sy := known_sym okR _ (okx.st _ mem)
        rw [tn] at sy
        exact absurd sy (by decide +kernel)
    have exy : x = y := by
      obtain ⟨xq, xp, xs⟩ := x
      obtain ⟨yq, yp, ys⟩ := y
      have hq : xq = yq := hq
      have hp : xp = yp := hp
      have hx : xs = [] := hx
      have hy : ys = [] := hy
      subst hq hp hx hy
      rfl
    subst exy
    have tpn : tp = nil0 := by
      by_cases c : tp = nil0
      · exact c
      · obtain ⟨z, hz, hn⟩ := nf i (Nat.le_of_lt ij)
        rw [hi] at hz
        cases hz
        exact absurd hx (hn c)
    intro n k hkn
    rcases Nat.lt_or_ge k i with c | c
    · obtain ⟨z, hz⟩ := nth_some hi (Nat.le_of_lt c)
      exact ⟨z, hz, fun h => absurd tpn h⟩
    · obtain ⟨z, hz⟩ := endless0 hi hj ij (k - i)
      rw [show i + (k - i) = k by omega] at hz
      exact ⟨z, hz, fun h => absurd tpn h⟩
  · have E := endless hi hj ij hq hp ht hx low'
    have pos : 0 < x.st.length := List.length_pos_iff.mpr hx
    intro n k hkn
    rcases Nat.lt_or_ge k i with c | c
    · exact nf k (by omega)
    · obtain ⟨z, hz, lz⟩ := E (k - i)
      rw [show i + (k - i) = k by omega] at hz
      exact ⟨z, hz, fun _ e => by rw [e] at lz; exact absurd lz (by rw [List.length_nil]; omega)⟩
/-- the times of the open surfaces, at time i: lower ones first, none was undercut -/
structure OpenOk (rs : List Rl) (t : PySem.Str) (s : Std) (ts : List Nat) (i : Nat) : Prop where
  asc : ts.Pairwise fun a b => htN rs t s a ≤ htN rs t s b
  low : ∀ a ∈ ts, a ≤ i ∧ ∀ j, a ≤ j → j ≤ i → htN rs t s a ≤ htN rs t s j
/-- since when each surface is open -/
def SinceOk (rs : List Rl) (t : PySem.Str) (s : Std) (ts : List Nat) (kvs : List (List Key × V)) : Prop := ∀ k v, valV kvs k = some v → ∃ n : Int, v = .int n ∧ (0 ≤ n → ∃ a ∈ ts, n = (a : Int) ∧ k = keyN rs t s a)
theorem OpenOk.drop {rs : List Rl} {t : PySem.Str} {s : Std} {ts : List Nat} {i : Nat} (h : OpenOk rs t s ts i) : OpenOk rs t s ts.dropLast i :=
  ⟨h.asc.sublist (List.dropLast_sublist _), fun a m => h.low a (List.dropLast_subset _ m)⟩
theorem SinceOk.drop {rs : List Rl} {t : PySem.Str} {s : Std} {ts : List Nat} {a : Nat} {kvs : List (List Key × V)} (h : SinceOk rs t s (ts ++ [a]) kvs) : SinceOk rs t s ts (putK kvs (keyN rs t s a) (.int (-1))) := fun k v e => by
  rw [valV_put] at e
  by_cases c : k = keyN rs t s a
  · rw [if_pos c] at e
    cases e
    exact ⟨-1, rfl, fun z => absurd z (by decide)⟩
  · rw [if_neg c] at e
    obtain ⟨n, rfl, hn⟩ := h k v e
    refine ⟨n, rfl, fun z => ?_⟩
    obtain ⟨b, mb, e1, e2⟩ := hn z
    rcases List.mem_append.mp mb with mb | mb
    · exact ⟨b, mb, e1, e2⟩
    · rw [List.mem_singleton.mp mb] at e2
      exact absurd e2 c
theorem OpenOk.next {rs : List Rl} {t : PySem.Str} {s : Std} {ts : List Nat} {i : Nat} (h : OpenOk rs t s ts i) (le : ∀ a ∈ ts, htN rs t s a ≤ htN rs t s (i + 1)) : OpenOk rs t s ts (i + 1) :=
  ⟨h.asc, fun a m => ⟨Nat.le_succ_of_le (h.low a m).1, fun j h1 h2 => by
    rcases Nat.lt_or_ge j (i + 1) with c | c
    · exact (h.low a m).2 j h1 (Nat.le_of_lt_succ c)
    · rw [Nat.le_antisymm h2 c]
      exact le a m⟩⟩
theorem OpenOk.push {rs : List Rl} {t : PySem.Str} {s : Std} {ts : List Nat} {i : Nat} (h : OpenOk rs t s ts i) (le : ∀ a ∈ ts, htN rs t s a ≤ htN rs t s i) : OpenOk rs t s (ts ++ [i]) i := by
  refine ⟨List.pairwise_append.mpr ⟨h.asc, List.pairwise_singleton _ _, fun a ma b mb => ?_⟩, fun a m => ?_⟩
  · rw [List.mem_singleton.mp mb]
    exact le a ma
  · rcases List.mem_append.mp m with m | m
    · exact h.low a m
    · rw [List.mem_singleton.mp m]
      exact ⟨Nat.le_refl _, fun j h1 h2 => by rw [Nat.le_antisymm h1 h2]; exact Int.le_refl _⟩
theorem SinceOk.push {rs : List Rl} {t : PySem.Str} {s : Std} {ts : List Nat} {i : Nat} {kvs : List (List Key × V)} (h : SinceOk rs t s ts kvs) : SinceOk rs t s (ts ++ [i]) (putK kvs (keyN rs t s i) (.int (i : Int))) := fun k v e => by
  rw [valV_put] at e
  by_cases c : k = keyN rs t s i
  · rw [if_pos c] at e
    cases e
    exact ⟨i, rfl, fun _ => ⟨i, List.mem_append_right _ (List.mem_singleton.mpr rfl), rfl, c⟩⟩
  · rw [if_neg c] at e
    obtain ⟨n, rfl, hn⟩ := h k v e
    refine ⟨n, rfl, fun z => ?_⟩
    obtain ⟨b, mb, e1, e2⟩ := hn z
    exact ⟨b, List.mem_append_left _ mb, e1, e2⟩
/-- the last one is the highest -/
theorem OpenOk.all_le {rs : List Rl} {t : PySem.Str} {s : Std} {ts : List Nat} {i a : Nat} {h : Int} (o : OpenOk rs t s (ts ++ [a]) i) (le : htN rs t s a ≤ h) : ∀ b ∈ ts ++ [a], htN rs t s b ≤ h := fun b mb => by
  rcases List.mem_append.mp mb with mb | mb
  · exact Int.le_trans ((List.pairwise_append.mp o.asc).2.2 b mb a (List.mem_singleton.mpr rfl)) le
  · rw [List.mem_singleton.mp mb]
    exact le
end Mk

set_option Elab.async false
set_option linter.unusedVariables false
set_option maxRecDepth 100000
set_option maxHeartbeats 4000000
namespace Mk
open PySem L2 Pk
/-- what a walk comes to -/
def WalkR (K : PySem.W.Frag) (H : Hp) (p : Addr) (rs : List Rl) (t : PySem.Str) (s : Std) (tp : PySem.Str) (lim : Nat) : Prop :=
  (∃ m z, WalkAt K H p rs t s stops0 m m (-1) .non ∧ m ≤ lim ∧ nth rs t s m = some z ∧ fit rs t z = none ∧ NoFall rs t s tp m) ∨
  (∃ m z lz, WalkAt K H p rs t s falls0 m (m + 1) (-1) (.ref lz) ∧ m + 1 ≤ lim ∧ nth rs t s (m + 1) = some z ∧ z.st = [] ∧ tp ≠ nil0 ∧ NoFall rs t s tp m ∧ SqT K H lz [.int z.q, .int z.p]) ∨
  (WalkAt K H p rs t s long0 lim lim (-1) .non ∧ NoFall rs t s tp lim ∧ ∃ z, nth rs t s lim = some z ∧ fit rs t z ≠ none) ∨
  (∃ m f : Nat, WalkAt K H p rs t s ends0 m m (f : Int) .non ∧ f < m ∧ m ≤ lim ∧ ∀ n, NoFall rs t s tp n)
/-- the excursion as data -/
def excD (rs : List Rl) (t : PySem.Str) (s : Std) (es : List PyData) (m k : Nat) : PyData := .tuple [.tuple es, .int (k : Int), .int (riseN rs t s m), .int (lowN rs t s m), .int (highN rs t s m), .str (Txt.join nil0 (sd rs t s k))]
def stopD (z : Std) : List PyData := [.str stops0, .int z.q, .int z.p, .str (topOf z.st)]
def fallD (z : Std) : List PyData := [.str falls0, .int z.q, .int z.p]
section
variable {K : PySem.W.Frag} {H : Hp} {rs : List Rl} {t : PySem.Str} {s z : Std} {tp : PySem.Str} {u e : Addr} {m k L : Nat}
theorem stop_dp (he : SqT K H e [.str stops0, .int z.q, .int z.p, .str (topOf z.st)]) (hu : SqT K H u [.ref e, .int (k : Int), .int (riseN rs t s m), .int (lowN rs t s m), .int (highN rs t s m), .str (Txt.join nil0 (sd rs t s k))]) : Dp K H (.ref u) (excD rs t s (stopD z) m k) :=
  .tup hu (.cons (.tup he (.cons (.str _) (.cons (.int _) (.cons (.int _) (.cons (.str _) .nil))))) (.cons (.int _) (.cons (.int _) (.cons (.int _) (.cons (.int _) (.cons (.str _) .nil))))))
theorem fall_dp (he : SqT K H e [.str falls0, .int z.q, .int z.p]) (hu : SqT K H u [.ref e, .int (k : Int), .int (riseN rs t s m), .int (lowN rs t s m), .int (highN rs t s m), .str (Txt.join nil0 (sd rs t s k))]) : Dp K H (.ref u) (excD rs t s (fallD z) m k) :=
  .tup hu (.cons (.tup he (.cons (.str _) (.cons (.int _) (.cons (.int _) .nil)))) (.cons (.int _) (.cons (.int _) (.cons (.int _) (.cons (.int _) (.cons (.str _) .nil))))))
theorem exc_depth {es : List PyData} (h : es.length ≤ 10) (f : ∀ d ∈ es, depthOk 1 d) : depthOk 3 (excD rs t s es m k) := by
  refine ⟨by show 6 ≤ 100000; decide, fun d md => ?_⟩
  simp only [List.mem_cons, List.not_mem_nil, or_false] at md
  rcases md with rfl | rfl | rfl | rfl | rfl | rfl
  · exact ⟨by omega, f⟩
  · trivial
  · trivial
  · trivial
  · trivial
  · trivial
theorem stop_depth : depthOk 3 (excD rs t s (stopD z) m k) := exc_depth (by show 4 ≤ 10; decide) fun d md => by
  unfold stopD at md
  simp only [List.mem_cons, List.not_mem_nil, or_false] at md
  rcases md with rfl | rfl | rfl | rfl <;> trivial
theorem fall_depth : depthOk 3 (excD rs t s (fallD z) m k) := exc_depth (by show 3 ≤ 10; decide) fun d md => by
  unfold fallD at md
  simp only [List.mem_cons, List.not_mem_nil, or_false] at md
  rcases md with rfl | rfl | rfl <;> trivial
/-- a run that goes on to L, and no longer: no excursion ends -/
theorem exc_none (nf : NoFall rs t s tp L) (on : ∃ z, nth rs t s L = some z ∧ fit rs t z ≠ none) : ¬ ExcT K H u rs t s tp L := by
  rintro ⟨e, k, z, kL, hz, ⟨_, hf, _⟩ | ⟨k', ek, _, tn, zn, _⟩⟩
  · obtain ⟨y, hy, hyf⟩ := on
    rcases Nat.lt_or_ge k L with c | c
    · obtain ⟨y', r, hy', hr⟩ := nth_fit hy c
      rw [hz] at hy'
      cases hy'
      rw [hf] at hr
      cases hr
    · rw [Nat.le_antisymm kL c, hy] at hz
      cases hz
      exact hyf hf
  · obtain ⟨y, hy, hn⟩ := nf k kL
    rw [hz] at hy
    cases hy
    exact hn tn zn
theorem NoFall.less (h : NoFall rs t s tp m) (l : k ≤ m) : NoFall rs t s tp k := fun j hj => h j (Nat.le_trans hj l)
theorem goes_of (h : NoFall rs t s tp m) (l : k < m) : ∃ z, nth rs t s k = some z ∧ fit rs t z ≠ none := by
  obtain ⟨y, hy, _⟩ := h m (Nat.le_refl _)
  obtain ⟨x, r, hx, hr⟩ := nth_fit hy l
  exact ⟨x, hx, fun e => by rw [e] at hr; cases hr⟩
/-- a run that stops at m -/
theorem exc_stop (hm : nth rs t s m = some z) (hf : fit rs t z = none) (nf : NoFall rs t s tp m) (h : ExcT K H u rs t s tp L) : Dp K H (.ref u) (excD rs t s (stopD z) m m) := by
  obtain ⟨e, k, y, kL, hy, ⟨_, hyf, he, hu⟩ | ⟨k', ek, _, tn, yn, _⟩⟩ := h
  · have ek : k = m := by
      rcases Nat.lt_trichotomy k m with c | c | c
      · obtain ⟨y', r, hy', hr⟩ := nth_fit hm c
        rw [hy] at hy'
        cases hy'
        rw [hyf] at hr
        cases hr
      · exact c
      · obtain ⟨y', r, hy', hr⟩ := nth_fit hy c
        rw [hm] at hy'
        cases hy'
        rw [hf] at hr
        cases hr
    subst ek
    rw [hm] at hy
    cases hy
    exact stop_dp he hu
  · exfalso
    rcases Nat.lt_or_ge m k with c | c
    · obtain ⟨y', r, hy', hr⟩ := nth_fit hy c
      rw [hm] at hy'
      cases hy'
      rw [hf] at hr
      cases hr
    · obtain ⟨y', hy', hn⟩ := nf k c
      rw [hy] at hy'
      cases hy'
      exact hn tn yn
theorem stop_goes (hm : nth rs t s m = some z) (hf : fit rs t z = none) (mL : m ≤ L) (nf : NoFall rs t s tp L) (on : ∃ z, nth rs t s L = some z ∧ fit rs t z ≠ none) : False := by
  obtain ⟨y, hy, hyf⟩ := on
  rcases Nat.lt_or_ge m L with c | c
  · obtain ⟨y', r, hy', hr⟩ := nth_fit hy c
    rw [hm] at hy'
    cases hy'
    rw [hf] at hr
    cases hr
  · rw [Nat.le_antisymm c mL, hm] at hy
    cases hy
    exact hyf hf
/-- a run that falls at m + 1 -/
theorem exc_fall (hm : nth rs t s (m + 1) = some z) (hz : z.st = []) (tn : tp ≠ nil0) (nf : NoFall rs t s tp m) (h : ExcT K H u rs t s tp L) : Dp K H (.ref u) (excD rs t s (fallD z) m (m + 1)) := by
  obtain ⟨e, k, y, kL, hy, ⟨nk, hyf, _⟩ | ⟨k', ek, nk, _, yn, he, hu⟩⟩ := h
  · exfalso
    rcases Nat.lt_or_ge k (m + 1) with c | c
    · obtain ⟨y', r, hy', hr⟩ := nth_fit hm c
      rw [hy] at hy'
      cases hy'
      rw [hyf] at hr
      cases hr
    · obtain ⟨y', hy', hn⟩ := nk (m + 1) c
      rw [hm] at hy'
      cases hy'
      exact hn tn hz
  · have e1 : k' = m := by
      rcases Nat.lt_trichotomy k' m with c | c | c
      · obtain ⟨y', hy', hn⟩ := nf k (by omega)
        rw [hy] at hy'
        cases hy'
        exact absurd yn (hn tn)
      · exact c
      · obtain ⟨y', hy', hn⟩ := nk (m + 1) (by omega)
        rw [hm] at hy'
        cases hy'
        exact absurd hz (hn tn)
    subst e1
    subst ek
    rw [hm] at hy
    cases hy
    exact fall_dp he hu
theorem fall_goes (hm : nth rs t s (m + 1) = some z) (hz : z.st = []) (tn : tp ≠ nil0) (mL : m + 1 ≤ L) (nf : NoFall rs t s tp L) : False := by
  obtain ⟨y', hy', hn⟩ := nf (m + 1) mL
  rw [hm] at hy'
  cases hy'
  exact hn tn hz
end
end Mk

set_option Elab.async false
set_option linter.unusedVariables false
set_option maxRecDepth 100000
set_option maxHeartbeats 16000000
namespace Mk
open PySem L2 Pk
abbrev nRight : List PySem.Str := ["machine", "table", "text", "surface", "digit", "limit", "most", "far", "walk", "handed", "asked", "told", "due"]
theorem scRight : FnScope nRight ["machine", "table", "text", "surface", "digit", "limit", "most", "far"] (defScope sRight) := ⟨rfl, rfl, rfl, by decide +kernel, rfl, by decide +kernel, by decide +kernel⟩
theorem WalkR.mono {K : PySem.W.Frag} {H H' : Hp} {p : Addr} {rs : List Rl} {t : PySem.Str} {s : Std} {tp : PySem.Str} {lim : Nat} (h : WalkR K H p rs t s tp lim) (e : Same H H') : WalkR K H' p rs t s tp lim := by
  rcases h with ⟨m, z, h1, h2, h3, h4, h5⟩ | ⟨m, z, lz, h1, h2, h3, h4, h5, h6, h7⟩ | ⟨h1, h2, h3⟩ | ⟨m, f, h1, h2, h3, h4⟩
  · exact .inl ⟨m, z, h1.mono e, h2, h3, h4, h5⟩
  · exact .inr (.inl ⟨m, z, lz, h1.mono e, h2, h3, h4, h5, h6, Pk.Same.tup e h7⟩)
  · exact .inr (.inr (.inl ⟨h1.mono e, h2, h3⟩))
  · exact .inr (.inr (.inr ⟨m, f, h1.mono e, h2, h3, h4⟩))
/-- a walk that ends: what is due, what excursion tells -/
structure Ended (K : PySem.W.Frag) (H : Hp) (p : Addr) (rs : List Rl) (t : PySem.Str) (s : Std) (tp : PySem.Str) (wd : PySem.Str) (mw kk : Nat) (ld : V) (z : Std) (es : List V) (D : PyData) : Prop where
  at_ : WalkAt K H p rs t s wd mw kk (-1) ld
  ne : wd ≠ ends0 ∧ wd ≠ long0
  few : mw ≤ 20000 ∧ kk ≤ 20001
  last : nth rs t s kk = some z
  case_ : (wd = stops0 ∧ kk = mw ∧ es = [.str stops0, .int z.q, .int z.p, .str (topOf z.st)]) ∨ (wd = falls0 ∧ kk = mw + 1 ∧ (∃ lz, ld = .ref lz ∧ SqT K H lz [.int z.q, .int z.p]) ∧ es = [.str falls0, .int z.q, .int z.p])
  dp : ∀ (H' : Hp) (e u : Addr), SqT K H' e es → SqT K H' u [.ref e, .int (kk : Int), .int (riseN rs t s mw), .int (lowN rs t s mw), .int (highN rs t s mw), .str (Txt.join nil0 (sd rs t s kk))] → Dp K H' (.ref u) D
  deep : depthOk 3 D
  told : ∀ (L : Nat) (u : Addr) (H' : Hp), ExcT K H' u rs t s tp L → Dp K H' (.ref u) D
  ends : ∀ L : Nat, kk ≤ L → NoFall rs t s tp L → (∃ z, nth rs t s L = some z ∧ fit rs t z ≠ none) → False
  less : ∀ (L : Nat) (u : Addr) (H' : Hp), L + 1 = kk → ¬ ExcT K H' u rs t s tp L
theorem ended {K : PySem.W.Frag} {H : Hp} {p : Addr} {rs : List Rl} {t : PySem.Str} {s : Std} {tp : PySem.Str} {lim : Nat} (h : WalkR K H p rs t s tp lim) (ll : lim ≤ 20000) :
    (∃ wd mw kk ld z es D, Ended K H p rs t s tp wd mw kk ld z es D) ∨ (WalkAt K H p rs t s long0 lim lim (-1) .non ∧ NoFall rs t s tp lim ∧ ∃ z, nth rs t s lim = some z ∧ fit rs t z ≠ none) ∨ (∃ m f : Nat, WalkAt K H p rs t s ends0 m m (f : Int) .non ∧ f < m ∧ m ≤ lim ∧ ∀ n, NoFall rs t s tp n) := by
  rcases h with ⟨m, z, h1, h2, h3, h4, h5⟩ | ⟨m, z, lz, h1, h2, h3, h4, h5, h6, h7⟩ | h | h
  · refine .inl ⟨_, m, m, _, z, _, _, ⟨h1, ⟨by decide +kernel, by decide +kernel⟩, ⟨by omega, by omega⟩, h3, .inl ⟨rfl, rfl, rfl⟩, fun H' e u he hu => stop_dp he hu, stop_depth, fun L u H' he => exc_stop h3 h4 h5 he, fun L mL nf on => stop_goes h3 h4 mL nf on, fun L u H' e => ?_⟩⟩
    exact exc_none (h5.less (by omega)) (goes_of h5 (by omega))
  · refine .inl ⟨_, m, m + 1, _, z, _, _, ⟨h1, ⟨by decide +kernel, by decide +kernel⟩, ⟨by omega, by omega⟩, h3, .inr ⟨rfl, rfl, ⟨lz, rfl, h7⟩, rfl⟩, fun H' e u he hu => fall_dp he hu, fall_depth, fun L u H' he => exc_fall h3 h4 h5 h6 he, fun L mL nf on => fall_goes h3 h4 h5 mL nf, fun L u H' e => ?_⟩⟩
    have eL : L = m := by omega
    subst eL
    obtain ⟨y, r, hy, hr⟩ := nth_fit h3 (Nat.lt_succ_self L)
    exact exc_none h6 ⟨y, hy, fun e => by rw [e] at hr; cases hr⟩
  · exact .inr (.inl h)
  · exact .inr (.inr h)
def surfD (q p : Int) (tp : PySem.Str) : PyData := .tuple (([.inl q, .inl p, .inr tp] : List Key).map keyD)
theorem surf_dp {K : PySem.W.Frag} {H : Hp} {a : Addr} {q p : Int} {tp : PySem.Str} (h : SqT K H a [.int q, .int p, .str tp]) : Dp K H (.ref a) (surfD q p tp) := .tup h (.cons (.int _) (.cons (.int _) (.cons (.str _) .nil)))
theorem surf_shaped {l t : PySem.Str} {n : Int} {rs : List Rl} {q p : Int} {tp : PySem.Str} (ok : ∀ r ∈ rs, RlOk l n r) (h : StdOk l n t (symsL rs) ⟨q, p, stackOf tp⟩) : SeqAt.shaped (surfD q p tp) = true := by
  refine shaped_keys fun x m => ?_
  simp only [List.mem_cons, List.not_mem_nil, or_false] at m
  rcases m with rfl | rfl | rfl
  · exact True.intro
  · exact True.intro
  · show ∀ c ∈ tp.cps.toList, c < 1114112
    by_cases c : tp = nil0
    · rw [c]
      intro x m
      exact absurd m List.not_mem_nil
    · exact sym_ok (known_sym ok tp (h.st tp (by rw [stackOf_ne c]; exact List.mem_singleton.mpr rfl)))
theorem surf_eqv {q p : Int} {tp : PySem.Str} : PyData.eqv (surfD q p tp) (surfD q p tp) = true := by
  unfold surfD
  rw [eqv_keys]
  exact decide_eq_true rfl
section
variable {P : Program} {w : World} {K : PySem.W.Frag} {mg : PySem.Str → Option Value} {base : Heap}
/-! _law_excursions_right -/
def spWalk (K : PySem.W.Frag) : Sp := fun vs H Q _ => ∃ (d p : Addr) (t l : PySem.Str) (n : Int) (lim : Nat) (rs : List Rl) (q0 p0 : Int) (tp : PySem.Str), vs = [.ref d, .str t, .ref p, .int (lim : Int)] ∧ TabAt H d rs ∧ (∀ r ∈ rs, RlOk l n r) ∧ t.length ≤ 1000 ∧ lim ≤ 20000 ∧ H p = some (.tup [.int q0, .int p0, .str tp]) ∧ StdOk l n t (symsL rs) ⟨q0, p0, stackOf tp⟩ ∧
  ∀ (p' : Addr) (H' : Hp), Same H H' → WalkR K H' p' rs t ⟨q0, p0, stackOf tp⟩ tp lim → Q (.ref p') H'
def spRight (K : PySem.W.Frag) (CM : Addr) : Sp := fun vs H Q _ => ∃ (m d p : Addr) (l t : PySem.Str) (n : Int) (rs : List Rl) (ys : List Int) (q0 p0 : Int) (tp : PySem.Str) (dg lim most far : Nat), vs = [.ref m, .ref d, .str t, .ref p, .int (dg : Int), .int (lim : Int), .int (most : Int), .int (far : Int)] ∧
  Pl K H CM m l n rs ys ∧ TxtOk l t ∧ TabAt H d rs ∧ H p = some (.tup [.int q0, .int p0, .str tp]) ∧ StdOk l n t (symsL rs) ⟨q0, p0, stackOf tp⟩ ∧ lim ≤ most ∧ most ≤ 20000 ∧ far ≤ 100000 ∧ ∀ H', Same H H' → Q (.bl true) H'
theorem ok_right {f CM : Addr} {fd : FuncData} (F : Fun K "_law_excursions_right" "_law_excursions_right" sRight f fd) (T : TM mg) (Gw : Got P w K mg base "_law_walk" 2 ["table", "text", "surface", "limit"] (spWalk K)) (Ge : Got P w K mg base "_law_excursion" 1 ["walk"] (spExc K))
    (Gx : Got P w K mg base "excursion" 6 ["machine", "text", "surface", "limit"] (spExcur K CM)) (Gs : Got P w K mg base "_law_same" 5 ["told", "due"] (spSame K 3)) : FnOk P w K mg base CX0 7 f fd ["machine", "table", "text", "surface", "digit", "limit", "most", "far"] (spRight K CM) := by
  refine F.ok scRight (fun vs H Q E h => ?_) (fun cdv A outer s H vs Q E hr h => ?_)
  · obtain ⟨m, d, p, l, t, n, rs, ys, q0, p0, tp, dg, lim, most, far, rfl, _⟩ := h
    rfl
  · obtain ⟨m, d, p, l, t, n, rs, ys, q0, p0, tp, dg, lim, most, far, rfl, hm, ht, hT, hp, ok0, lm, mm, lf, k⟩ := h
    have nd := scRight.nd
    have h1 := hr.mono (show 1 ≤ 6 by decide)
    have h2 := hr.mono (show 2 ≤ 6 by decide)
    have h5 := hr.mono (show 5 ≤ 6 by decide)
    have h6 := hr
    have hu64 := hr.units
    refine ⟨_, (pss_cons (ps_set (i := 8) nd rfl (Or.inl rfl) (pe_got Gw h2 (by rfl) (pa_cons (pv 1) (pa_cons (pv 2) (pa_cons (pv 3) (pa_cons (pv 6) pa_nil))))))
      (pss_cons (ps_set (i := 9) nd rfl (Or.inl rfl) (pe_ix ix_list (pe_lst (pa_cons (pv 3) (pa_cons (pe_callTy (call_list_of) (by rfl) T.list PyProof.Rows.Boot.list (pa_cons (pv 3) pa_nil)) pa_nil))) (pe_op op_mod (pe_callTy call_int1 (by rfl) T.int PyProof.Rows.Boot.int (pa_cons (pv 4) pa_nil)) pe_int) fun _ _ => rfl))
      (pss_cons (ps_if (PW.pt (pw_or (pt_cmpR op_eq (pe_ix ix_list (pv 8) pe_int fun _ _ => rfl) pe_str (nomark _)) (pw_or1 (pt_cmpR op_eq (pe_ix ix_list (pv 8) pe_int fun _ _ => rfl) pe_str (nomark _)))))
        (pss_cons (ps_set (i := 10) nd rfl (Or.inl rfl) (pv 5))
        (C8.pss_cut (ps_if (pt_cmpR op_eq (pe_ix ix_list (pv 8) pe_int fun _ _ => rfl) pe_str (nomark _))
          (pss_one (ps_set (i := 10) nd rfl (Or.inl rfl) (pe_ix ix_list (pe_lst (pa_cons (pv 7) (pa_cons (pe_op op_mod (pe_callTy call_int1 (by rfl) T.int PyProof.Rows.Boot.int (pa_cons (pv 7) pa_nil)) pe_int) pa_nil))) (pe_callTy call_int1 (by rfl) T.int PyProof.Rows.Boot.int (pa_cons (pe_cmpR op_gt (pe_ix ix_list (pe_ix ix_list (pv 8) pe_int fun _ _ => rfl) (pe_op op_sub (pe_callB call_len_seq (by rfl) T.len PySem.boot_len (pa_cons (pe_ix ix_list (pv 8) pe_int fun _ _ => rfl) pa_nil)) pe_int) fun _ _ => rfl) (pe_ix ix_list (pe_ix ix_list (pv 8) pe_int fun _ _ => rfl) (pe_ix ix_list (pv 8) pe_int fun _ _ => rfl) fun _ _ => rfl) (nomark _)) pa_nil)) fun _ _ => rfl)))
          pss_nil)
        (pss_cons (ps_set (i := 11) nd rfl (Or.inl rfl) (pe_got Gx h6 (by rfl) (pa_cons (pv 0) (pa_cons (pv 2) (pa_cons (pv 9) (pa_cons (pv 10) pa_nil))))))
        (pss_one (ps_ret (pe_and (pe_cmp (pc_isN (pv 11)) rfl) (pe_one (pe_cmpR (op_eqD hu64) (pe_callTy (call_tuple_of) (by rfl) T.tuple PyProof.Rows.Boot.tuple (pa_cons (pv 9) pa_nil)) (pv 3) (nomark _)))))))))
        pss_nil)
      (pss_cons (ps_set (i := 12) nd rfl (Or.inl rfl) (pe_got Ge h1 (by rfl) (pa_cons (pv 8) pa_nil)))
      (pss_cons (ps_if (PW.pt (pw_and (pt_cmpR op_gt (pe_ix ix_tup (pv 12) pe_int fun _ _ => rfl) pe_int (nomark _)) (pw_and1 (pt_cmp (pc_notN (pe_got Gx h6 (by rfl) (pa_cons (pv 0) (pa_cons (pv 2) (pa_cons (pv 9) (pa_cons (pe_op op_sub (pe_ix ix_tup (pv 12) pe_int fun _ _ => rfl) pe_int) pa_nil))))))))))
        (pss_one (ps_ret pe_bl))
        pss_nil)
      (pss_cons (ps_if (PW.pt (pw_or (pt_not (pt_val (pe_got Gs h5 (by rfl) (pa_cons (pe_got Gx h6 (by rfl) (pa_cons (pv 0) (pa_cons (pv 2) (pa_cons (pv 9) (pa_cons (pe_ix ix_tup (pv 12) pe_int fun _ _ => rfl) pa_nil))))) (pa_cons (pv 12) pa_nil))))) (pw_or1 (pt_cmpR (op_neD hu64) (pe_callTy (call_tuple_of) (by rfl) T.tuple PyProof.Rows.Boot.tuple (pa_cons (pv 9) pa_nil)) (pv 3) (nomark _)))))
        (pss_one (ps_ret pe_bl))
        pss_nil)
      (pss_one (ps_ret (pe_got Gs h5 (by rfl) (pa_cons (pe_got Gx h6 (by rfl) (pa_cons (pv 0) (pa_cons (pv 2) (pa_cons (pv 9) (pa_cons (pe_ix ix_list (pe_lst (pa_cons (pe_op op_add (pe_ix ix_tup (pv 12) pe_int fun _ _ => rfl) pe_int) (pa_cons pe_int pa_nil))) (pe_callTy call_int1 (by rfl) T.int PyProof.Rows.Boot.int (pa_cons (pe_cmpR op_eq (pe_op op_mod (pe_callTy call_int1 (by rfl) T.int PyProof.Rows.Boot.int (pa_cons (pv 4) pa_nil)) pe_int) pe_int (nomark _)) pa_nil)) fun _ _ => rfl) pa_nil))))) (pa_cons (pv 12) pa_nil))))))))))), ?_⟩
    have lt : t.length ≤ 1000 := Nat.le_trans ht.2 (by decide)
    refine ⟨_, rfl, _, rfl, _, rfl, _, rfl, d, p, t, l, n, most, rs, q0, p0, tp, rfl, hT, hm.ok, lt, mm, hp, ok0, fun pw H1 s1 hW => ?_⟩
    dsimp only [gName]
    have hp1 := s1 _ _ hp
    refine ⟨_, rfl, _, rfl, p, _, rfl, .inr (SqT.of hp1), fun l1 n1 => ⟨show 2 ≤ sizeLine by decide, fun l2 n2 => ?_⟩⟩
    have t1 := same_new (o := HO.lst [V.int q0, V.int p0, V.str tp]) n1
    have t2 := same_new (o := HO.lst [V.ref p, V.ref l1]) n2
    have s3 := (s1.trans t1).trans t2
    obtain ⟨hd, bb, ehd, hhd⟩ : ∃ (hd : Addr) (b : Bool), atI [V.ref p, V.ref l1] ((dg : Int) % 2) = some (.ref hd) ∧ SqB b K (upd (upd H1 l1 (.lst [V.int q0, V.int p0, V.str tp])) l2 (.lst [V.ref p, V.ref l1])) hd [.int q0, .int p0, .str tp] := by
      have c : (dg : Int) % 2 = 0 ∨ (dg : Int) % 2 = 1 := by omega
      rcases c with c | c <;> rw [c]
      · exact ⟨p, false, rfl, SqT.of (t2 _ _ (t1 _ _ hp1))⟩
      · exact ⟨l1, true, rfl, SqL.of (t2 _ _ upd_same)⟩
    refine ⟨_, rfl, .inl ⟨_, rfl, _, _, rfl, rfl, show (0 : Int) < 2 by decide, l2, _, _, .ref hd, rfl, rfl, SqL.of upd_same, ehd, ?_⟩⟩
    dsimp only [gName]
    have hm2 := hm.mono s3
    have hW2 := (hW.mono t1).mono t2
    have hp2 := t2 _ _ (t1 _ _ hp1)
    show (tSeq _ _) _ _ (upd (upd H1 l1 (.lst [V.int q0, V.int p0, V.str tp])) l2 (.lst [V.ref p, V.ref l1]))
    generalize upd (upd H1 l1 (.lst [V.int q0, V.int p0, V.str tp])) l2 (.lst [V.ref p, V.ref l1]) = H2 at s3 hhd hm2 hW2 hp2 ⊢
    clear t1 t2 n1 n2 hW hp1 s1 ehd
    generalize hs0 : (⟨q0, p0, stackOf tp⟩ : Std) = s0 at hW2
    have sh := surf_shaped hm.ok ok0
    have okS : StdOk l n t (symsL rs) s0 := by rw [← hs0]; exact ok0
    have goOn : ∀ (a : Nat), a ≤ 100000 → NoFall rs t s0 tp a → (∃ z, nth rs t s0 a = some z ∧ fit rs t z ≠ none) → ∀ (H3 : Hp) (e11 e12 : Option V), Same H2 H3 → True := fun _ _ _ _ _ _ _ _ => trivial
    have e5 : long0 ≠ ends0 := by decide +kernel
    rcases ended hW2 mm with ⟨wd, mw, kk, ld, z, es, DD, hEn⟩ | ⟨⟨aM, aH, aS, as, hpw, hM, hMet, hHt, hSd⟩, nf, on⟩ | ⟨mw, fw, ⟨aM, aH, aS, as, hpw, hM, hMet, hHt, hSd⟩, lfw, lw, nf⟩
    · obtain ⟨aM, aH, aS, as, hpw, _⟩ := hEn.at_.ex
      have fewk := hEn.few
      refine ⟨_, rfl, pw, _, 0, .str wd, rfl, rfl, SqL.of hpw, rfl, rfl, _, rfl, ite2 (fun c => absurd (V.str.inj (of_decide_eq_true c)) hEn.ne.1) (fun _ => ?_)⟩
      refine ⟨_, rfl, pw, _, 0, .str wd, rfl, rfl, SqL.of hpw, rfl, rfl, _, rfl, ite2 (fun c => absurd (V.str.inj (of_decide_eq_true c)) hEn.ne.2) (fun _ => ?_)⟩
      dsimp only [tNext]
      refine ⟨_, rfl, pw, rs, t, s0, wd, mw, kk, ld, z, es, rfl, hEn.at_, by omega, sd_low hm.ok _, hEn.last, hEn.case_, fun du e H3 s23 he hdu => ?_⟩
      dsimp only [gName]
      have hm3 := hm2.mono s23
      have hd3 := hhd.mono s23
      have dpu := hEn.dp H3 e du he hdu
      -- one step less
      refine skip_if (fun R r => ?_) (fun H4 s34 => ?_)
      · refine ⟨_, rfl, du, _, 1, .int (kk : Int), rfl, rfl, hdu, rfl, _, _, rfl, rfl, _, rfl, ite2 (fun c => ?_) (fun _ => r H3 (Same.refl _))⟩
        have kp : 0 < kk := by
          have := of_decide_eq_true c
          omega
        refine ⟨_, rfl, _, rfl, _, rfl, _, rfl, du, _, 1, .int (kk : Int), rfl, rfl, hdu, rfl, _, _, rfl, rfl, ?_⟩
        dsimp only
        rw [show (kk : Int) - 1 = ((kk - 1 : Nat) : Int) by omega]
        refine ⟨m, hd, bb, l, t, n, rs, ys, q0, p0, tp, kk - 1, rfl, hm3, ht, hd3, ok0, by omega, fun H' s' _ _ => ⟨_, rfl, r H' s'⟩, fun u H' s' he' => ?_⟩
        rw [hs0] at he'
        exact absurd he' (hEn.less (kk - 1) u H' (by omega))
      have hdu4 := Pk.Same.tup s34 hdu
      have he4 := Pk.Same.tup s34 he
      have dpD : ∀ H', Same H4 H' → Dp K H' (.ref du) DD := fun H' s' => hEn.dp H' e du (Pk.Same.tup s' he4) (Pk.Same.tup s' hdu4)
      have hm4 := hm3.mono s34
      have hd4 := hd3.mono s34
      have hp4 := s34 _ _ (s23 _ _ hp2)
      -- just as many
      refine skip_if (fun R r => ?_) (fun H5 s45 => ?_)
      · refine ⟨_, rfl, _, rfl, _, rfl, _, rfl, du, _, 1, .int (kk : Int), rfl, rfl, hdu4, rfl, ?_⟩
        refine ⟨m, hd, bb, l, t, n, rs, ys, q0, p0, tp, kk, rfl, hm4, ht, hd4, ok0, by omega, fun H' s' nf on => ?_, fun u H' s' he' => ?_⟩
        · rw [hs0] at nf on
          exact (hEn.ends kk (Nat.le_refl _) nf on).elim
        rw [hs0] at he'
        refine ⟨_, rfl, _, _, DD, rfl, hEn.told kk u H' he', dpD H' s', hEn.deep, _, rfl, iteF ?_⟩
        refine ⟨_, rfl, ?_⟩
        have hd5 := hd4.mono s'
        cases bb with
        | true =>
          refine ⟨hd, _, rfl, .inl ⟨hd5, fun p' np' => ?_⟩⟩
          have s5 := same_new (o := HO.tup [V.int q0, V.int p0, V.str tp]) np'
          refine ⟨_, rfl, surfD q0 p0 tp, surfD q0 p0 tp, surf_dp (.inl (.inl upd_same)), surf_dp (SqT.of (s5 _ _ (s' _ _ hp4))), sh, sh, ?_⟩
          rw [surf_eqv]
          exact ⟨_, rfl, r _ (s'.trans s5)⟩
        | false =>
          refine ⟨hd, _, rfl, .inr ⟨hd5, ?_⟩⟩
          refine ⟨_, rfl, surfD q0 p0 tp, surfD q0 p0 tp, surf_dp hd5, surf_dp (SqT.of (s' _ _ hp4)), sh, sh, ?_⟩
          rw [surf_eqv]
          exact ⟨_, rfl, r _ s'⟩
      -- one more, or many
      have hdu5 := Pk.Same.tup s45 hdu4
      have hm5 := hm4.mono s45
      have hd5 := hd4.mono s45
      refine ⟨_, rfl, _, rfl, _, rfl, _, rfl, du, _, 1, .int (kk : Int), rfl, rfl, hdu5, rfl, _, _, rfl, rfl, show 2 ≤ sizeLine by decide, fun u2 n2 => ?_⟩
      have t2 := same_new (o := HO.lst [V.int ((kk : Int) + 1), V.int 100000]) n2
      refine ⟨_, rfl, .inl ⟨_, rfl, _, _, rfl, rfl, show (0 : Int) < 9 by decide, rfl, .inr ⟨_, rfl, ?_⟩⟩⟩
      obtain ⟨a, la, ka, ea⟩ : ∃ a : Nat, a ≤ 100000 ∧ kk ≤ a ∧ atI [V.int ((kk : Int) + 1), V.int 100000] (if decide (V.int ((dg : Int) % 9) = V.int 4) = true then 1 else 0) = some (.int (a : Int)) := by
        split
        · exact ⟨100000, Nat.le_refl _, by omega, rfl⟩
        · exact ⟨kk + 1, by omega, by omega, rfl⟩
      refine ⟨u2, _, _, .int (a : Int), rfl, rfl, SqL.of upd_same, ea, ?_⟩
      refine ⟨m, hd, bb, l, t, n, rs, ys, q0, p0, tp, a, rfl, hm5.mono t2, ht, hd5.mono t2, ok0, by omega, fun H' s' nf on => ?_, fun u H' s' he' => ?_⟩
      · rw [hs0] at nf on
        exact (hEn.ends a ka nf on).elim
      rw [hs0] at he'
      have s4E := (s45.trans t2).trans s'
      exact ⟨_, rfl, _, _, DD, rfl, hEn.told a u H' he', dpD H' s4E, hEn.deep, k H' (((s3.trans s23).trans s34).trans s4E)⟩
    · refine ⟨_, rfl, pw, _, 0, .str long0, rfl, rfl, SqL.of hpw, rfl, rfl, _, rfl, ite2 (fun c => absurd (V.str.inj (of_decide_eq_true c)) e5) (fun _ => ?_)⟩
      refine ⟨_, rfl, pw, _, 0, .str long0, rfl, rfl, SqL.of hpw, rfl, rfl, _, rfl, ite2 (fun _ => ?_) (fun c => absurd (decide_eq_true rfl) c)⟩
      refine ⟨_, rfl, ?_⟩
      dsimp only [gName]
      refine ⟨fun σ' H' => ∃ a : Nat, a ≤ 100000 ∧ NoFall rs t s0 tp a ∧ (∃ z, nth rs t s0 a = some z ∧ fit rs t z ≠ none) ∧ σ' = [some (.ref m), some (.ref d), some (.str t), some (.ref p), some (.int (dg : Int)), some (.int (lim : Int)), some (.int (most : Int)), some (.int (far : Int)), some (.ref pw), some (.ref hd), some (.int (a : Int)), none, none] ∧ Same H2 H', ?_, ?_⟩
      · refine ⟨_, rfl, pw, _, 0, .str long0, rfl, rfl, SqL.of hpw, rfl, rfl, _, rfl, ite2 (fun c => absurd (V.str.inj (of_decide_eq_true c)) e5) (fun _ => ?_)⟩
        refine ⟨lim, by omega, nf.less lm, ?_, rfl, Same.refl _⟩
        rcases Nat.lt_or_ge lim most with c | c
        · exact goes_of nf c
        · rw [Nat.le_antisymm lm c]
          exact on
      rintro σ' H3 ⟨a, la, nfa, ona, rfl, s23⟩
      refine ⟨_, rfl, _, rfl, _, rfl, _, rfl, m, hd, bb, l, t, n, rs, ys, q0, p0, tp, a, rfl, hm2.mono s23, ht, hhd.mono s23, ok0, by omega, fun H4 s4 _ _ => ?_, fun u H4 s4 he => ?_⟩
      rotate_left
      · rw [hs0] at he
        exact absurd he (exc_none nfa ona)
      have s24 := s23.trans s4
      refine ⟨_, rfl, _, rfl, iteT ⟨_, rfl, ?_⟩⟩
      cases bb with
      | true =>
        refine ⟨hd, _, rfl, .inl ⟨hhd.mono s24, fun p' np' => ?_⟩⟩
        have s5 := same_new (o := HO.tup [V.int q0, V.int p0, V.str tp]) np'
        refine ⟨_, rfl, surfD q0 p0 tp, surfD q0 p0 tp, surf_dp (.inl (.inl upd_same)), surf_dp (SqT.of (s5 _ _ (s24 _ _ hp2))), sh, sh, ?_⟩
        rw [surf_eqv]
        exact k _ ((s3.trans s24).trans s5)
      | false =>
        refine ⟨hd, _, rfl, .inr ⟨hhd.mono s24, ?_⟩⟩
        refine ⟨_, rfl, surfD q0 p0 tp, surfD q0 p0 tp, surf_dp (hhd.mono s24), surf_dp (SqT.of (s24 _ _ hp2)), sh, sh, ?_⟩
        rw [surf_eqv]
        exact k _ (s3.trans s24)
    · refine ⟨_, rfl, pw, _, 0, .str ends0, rfl, rfl, SqL.of hpw, rfl, rfl, _, rfl, ite2 (fun _ => ?_) (fun c => absurd (decide_eq_true rfl) c)⟩
      refine ⟨_, rfl, ?_⟩
      dsimp only [gName]
      refine ⟨fun σ' H' => ∃ a : Nat, a ≤ 100000 ∧ NoFall rs t s0 tp a ∧ (∃ z, nth rs t s0 a = some z ∧ fit rs t z ≠ none) ∧ σ' = [some (.ref m), some (.ref d), some (.str t), some (.ref p), some (.int (dg : Int)), some (.int (lim : Int)), some (.int (most : Int)), some (.int (far : Int)), some (.ref pw), some (.ref hd), some (.int (a : Int)), none, none] ∧ Same H2 H', ?_, ?_⟩
      · refine ⟨_, rfl, pw, _, 0, .str ends0, rfl, rfl, SqL.of hpw, rfl, rfl, _, rfl, ite2 (fun _ => ?_) (fun c => absurd (decide_eq_true rfl) c)⟩
        have hHl : ((((List.range (mw + 1)).map (htN rs t s0)).map V.int)).length = mw + 1 := by rw [List.length_map, List.length_map, List.length_range]
        have htAt : ∀ {j : Nat}, j ≤ mw → atI (((List.range (mw + 1)).map (htN rs t s0)).map V.int) (j : Int) = some (V.int (htN rs t s0 j)) := fun {j} hj => atI_nat (by rw [List.getElem?_map, List.getElem?_map, List.getElem?_range (by omega)] <;> rfl)
        refine ⟨_, rfl, _, rfl, .inl ⟨_, rfl, _, _, rfl, rfl, show (0 : Int) < 20000 by decide, show 2 ≤ sizeLine by decide, fun u1 n1 => ?_⟩⟩
        have t1 := same_new (o := HO.lst [V.int (far : Int), V.int ((far : Int) % 20000)]) n1
        have hpw1 := t1 _ _ hpw
        have hH1 := t1 _ _ hHt
        refine ⟨_, rfl, pw, _, 2, .ref aH, rfl, rfl, SqL.of hpw1, rfl, _, rfl, pw, _, 2, .ref aH, rfl, rfl, SqL.of hpw1, rfl, aH, _, rfl, .inl (SqL.of hH1), ?_⟩
        rw [hHl]
        have em1 : ((mw + 1 : Nat) : Int) - 1 = (mw : Int) := by omega
        refine ⟨_, _, rfl, rfl, ?_⟩
        dsimp only
        rw [em1]
        refine ⟨aH, _, _, _, rfl, rfl, SqL.of hH1, htAt (Nat.le_refl _), _, rfl, pw, _, 2, .ref aH, rfl, rfl, SqL.of hpw1, rfl, _, rfl, pw, _, 4, .int (fw : Int), rfl, rfl, SqL.of hpw1, rfl, aH, _, _, _, rfl, rfl, SqL.of hH1, htAt (Nat.le_of_lt lfw), _, _, rfl, rfl, ?_⟩
        obtain ⟨a, la, ea⟩ : ∃ a : Nat, a ≤ 100000 ∧ atI [V.int (far : Int), V.int ((far : Int) % 20000)] (if decide (htN rs t s0 fw < htN rs t s0 mw) = true then 1 else 0) = some (.int (a : Int)) := by
          split
          · exact ⟨far % 20000, by omega, by show some (V.int ((far : Int) % 20000)) = _; congr 2⟩
          · exact ⟨far, lf, rfl⟩
        exact .inr ⟨_, rfl, u1, _, _, _, rfl, rfl, SqL.of upd_same, ea, a, la, nf a, goes_of (nf (a + 1)) (Nat.lt_succ_self a), rfl, t1⟩
      rintro σ' H3 ⟨a, la, nfa, ona, rfl, s23⟩
      refine ⟨_, rfl, _, rfl, _, rfl, _, rfl, m, hd, bb, l, t, n, rs, ys, q0, p0, tp, a, rfl, hm2.mono s23, ht, hhd.mono s23, ok0, by omega, fun H4 s4 _ _ => ?_, fun u H4 s4 he => ?_⟩
      rotate_left
      · rw [hs0] at he
        exact absurd he (exc_none nfa ona)
      have s24 := s23.trans s4
      refine ⟨_, rfl, _, rfl, iteT ⟨_, rfl, ?_⟩⟩
      cases bb with
      | true =>
        refine ⟨hd, _, rfl, .inl ⟨hhd.mono s24, fun p' np' => ?_⟩⟩
        have s5 := same_new (o := HO.tup [V.int q0, V.int p0, V.str tp]) np'
        refine ⟨_, rfl, surfD q0 p0 tp, surfD q0 p0 tp, surf_dp (.inl (.inl upd_same)), surf_dp (SqT.of (s5 _ _ (s24 _ _ hp2))), sh, sh, ?_⟩
        rw [surf_eqv]
        exact k _ ((s3.trans s24).trans s5)
      | false =>
        refine ⟨hd, _, rfl, .inr ⟨hhd.mono s24, ?_⟩⟩
        refine ⟨_, rfl, surfD q0 p0 tp, surfD q0 p0 tp, surf_dp (hhd.mono s24), surf_dp (SqT.of (s24 _ _ hp2)), sh, sh, ?_⟩
        rw [surf_eqv]
        exact k _ (s3.trans s24)
end
end Mk

set_option Elab.async false
set_option linter.all false
set_option maxRecDepth 100000
set_option maxHeartbeats 4000000
/-! text[::-1] -/
namespace Rv
open PySem PySem.Spec PyProof.Rows L2 Builtin.Str
def revS (z : Str) : Str := ⟨z.cps.toList.reverse.toArray⟩
theorem range_down (n : Nat) : strSliceIndices none none (-1) n = (List.range n).map fun k => n - 1 - k := by
  have e : strSliceIndices none none (-1) n = sliceRange ((n : Int) - 1) (-1) (-1) := rfl
  rw [e]
  unfold sliceRange
  have c : (if (-1 : Int) > 0 then (if (n : Int) - 1 < -1 then (-1 - ((n : Int) - 1) + -1 - 1) / -1 else 0) else (if (n : Int) - 1 > -1 then ((n : Int) - 1 - -1 - -1 - 1) / (- -1) else 0)) = (n : Int) := by
    rw [if_neg (by decide)]
    split
    · have : - (-1 : Int) = 1 := rfl
      rw [this, Int.ediv_one]
      omega
    · omega
  show (List.range (if (-1 : Int) > 0 then (if (n : Int) - 1 < -1 then (-1 - ((n : Int) - 1) + -1 - 1) / -1 else 0) else (if (n : Int) - 1 > -1 then ((n : Int) - 1 - -1 - -1 - 1) / (- -1) else 0)).toNat).map _ = _
  rw [c, Int.toNat_natCast]
  refine List.map_congr_left fun k hk => ?_
  have := List.mem_range.mp hk
  omega
theorem fm_congr {α β : Type} {f g : α → Option β} : ∀ {l : List α}, (∀ x ∈ l, f x = g x) → l.filterMap f = l.filterMap g
  | [], _ => rfl
  | a :: r, h => by
    rw [List.filterMap_cons, List.filterMap_cons, h a List.mem_cons_self, fm_congr fun x m => h x (List.mem_cons_of_mem _ m)]
theorem picked_rev : ∀ (l : List Nat), ((List.range l.length).map fun k => l.length - 1 - k).filterMap (fun i => l[i]?) = l.reverse := by
  intro l
  refine List.ext_getElem? fun i => ?_
  rw [List.filterMap_map]
  by_cases h : i < l.length
  · have e : ∀ k ∈ List.range l.length, ((fun i => l[i]?) ∘ fun k => l.length - 1 - k) k = some (l.reverse.getD k 0) := fun k hk => by
      have := List.mem_range.mp hk
      show l[l.length - 1 - k]? = _
      rw [List.getD_eq_getElem?_getD, List.getElem?_reverse this, List.getElem?_eq_getElem (by omega)]
      rfl
    have g : (List.range l.length).filterMap ((fun i => l[i]?) ∘ fun k => l.length - 1 - k) = (List.range l.length).map fun k => l.reverse.getD k 0 := by
      rw [← List.filterMap_eq_map]
      exact fm_congr e
    rw [g, List.getElem?_map, List.getElem?_range h]
    show some (l.reverse.getD i 0) = _
    rw [List.getD_eq_getElem?_getD, List.getElem?_eq_getElem (by rw [List.length_reverse]; exact h)]
    rfl
  · have z := List.length_filterMap_le ((fun i => l[i]?) ∘ fun k => l.length - 1 - k) (List.range l.length)
    rw [List.length_range] at z
    exact (List.getElem?_eq_none (by omega)).trans (List.getElem?_eq_none (by rw [List.length_reverse]; omega)).symm
theorem picked_str (z : Str) (t2 : Tok) : (slicePicked z none none (some (-1, t2))).filterMap (z.cps[·]?) = z.cps.toList.reverse := by
  have e : slicePicked z none none (some (-1, t2)) = (List.range z.cps.toList.length).map fun k => z.cps.toList.length - 1 - k := by
    show strSliceIndices none none (-1) z.length = _
    rw [range_down, Array.length_toList] <;> rfl
  rw [e, ← picked_rev]
  refine fm_congr fun i _ => ?_
  exact (Array.getElem?_toList ..).symm
section
variable {X : Cx} {e st : Expr} {te ts : TE} {pos p2 : Pos}
theorem pe_rev (he : PE X e te) (hst : PE X st ts) (hs : ∀ o i, subscripted (.Slice none none (some st) p2) false o i = operate [o, i] (getItem o i) := by intro _ _; rfl)
    (ht : ∀ o r, letTemporaryGo e o r = pure () := by intro _ _; with_unfolding_all rfl) :
    PE X (.Subscript e (.Slice none none (some st) p2) pos) (fun σ H Q => te σ H fun x H1 => ts σ H1 fun y H2 => ∃ z, x = .str z ∧ y = .int (-1) ∧ z.length ≤ sizeLine ∧ Q (.str (revS z)) H2) := by
  refine ⟨fun pins s σ H Q I h => ?_⟩
  refine Subscript_ (thn (he.run pins s σ H _ I h) fun v s1 ⟨x, H1, I1, r1, q1⟩ => ?_)
  refine wpAny_Slice ?_
  rw [evalPart_none]
  refine wpAny_pure (wpAny_pure ?_)
  rw [evalPart_some]
  refine thn (hst.run pins s1 σ H1 _ I1 q1) fun u s2 ⟨y, H2, I2, r2, q2⟩ => ?_
  obtain ⟨z, rfl, rfl, hz, q⟩ := q2
  obtain ⟨t, rfl⟩ := r1
  obtain ⟨t2, rfl⟩ := r2
  have I4 : Inv X pins σ H2 { s2 with heap := s2.heap.push { cls := .type "slice", data := .fields #[.none, .none, .int (-1) t2] } } := I2.kept (t' := s2.toks) fun b ob q => Heap.get?_push_of_some _ q
  refine subscriptTail_builtin (T := "str") (typeIs_str _ _ _) F.slot_str_getitem.lookup ?_ (hs _ _) (ht _)
  refine wpAny_getItem_str_slice (l := none) (u := none) (st := some (-1, t2)) ⟨_, Heap.get?_push_size _ rfl, rfl, rfl⟩ rfl ?_
  have c : ((((some ((-1 : Int), t2)).map (·.1)).getD 1 == 1) && (slicePicked z none none (some (-1, t2))).length == z.length) = false := by
    show (((-1 : Int) == 1) && _) = false
    rw [show ((-1 : Int) == 1) = false from rfl, Bool.false_and]
  unfold sliceMade
  rw [if_neg (by rw [c]; exact Bool.false_ne_true), picked_str]
  refine ⟨?_, .str (revS z), H2, I4.tok _, ⟨_, rfl⟩, q⟩
  show (z.cps.toList.reverse.toArray).size ≤ _
  rw [List.size_toArray, List.length_reverse, Array.length_toList]
  exact hz
end
end Rv

set_option Elab.async false
set_option linter.unusedVariables false
set_option maxRecDepth 100000
set_option maxHeartbeats 16000000
namespace Mk
open PySem L2 Pk
abbrev nLaw : List PySem.Str := ["script", "head", "drawn", "text", "places", "part", "table", "machine", "tops", "count", "state", "place", "top", "limit", "other", "far", "most", "k"]
theorem scLaw : FnScope nLaw ["script"] (defScope sLaw) := ⟨rfl, rfl, rfl, by decide +kernel, rfl, by decide +kernel, by decide +kernel⟩
theorem dig_nat {sizes row : List Int} (h : Digs sizes row) (i sz : Nat) (e : sizes[i]? = some (sz : Int)) : ∃ d : Nat, row[i]? = some (d : Int) ∧ d < sz := by
  obtain ⟨d, ed, d0, d1⟩ := h.2 i sz e
  exact ⟨d.toNat, by rw [ed, Int.toNat_of_nonneg d0], by omega⟩
theorem row_at {row : List Int} {j d : Nat} (e : row[j]? = some (d : Int)) : atI (row.map V.int) (j : Int) = some (V.int (d : Int)) := atI_nat (by rw [List.getElem?_map, e]; rfl)
theorem rev_ok {l t : PySem.Str} (h : TxtOk l t) : TxtOk l (Rv.revS t) := by
  refine ⟨fun c m => h.1 c ?_, ?_⟩
  · have m : c ∈ t.cps.toList.reverse := m
    exact List.mem_reverse.mp m
  · show t.cps.toList.reverse.length ≤ 400
    rw [List.length_reverse, Array.length_toList]
    exact h.2
theorem rev_len (t : PySem.Str) : (Rv.revS t).length = t.length := by
  show t.cps.toList.reverse.toArray.size = t.cps.size
  rw [List.size_toArray, List.length_reverse, Array.length_toList]
abbrev headS : List Int := [3, 60, 4, 7, 16, 402, 24, 100001, 5, 402, 997]
section
variable {P : Program} {w : World} {K : PySem.W.Frag} {mg : PySem.Str → Option Value} {base : Heap}
structure LawDefs (P : Program) (w : World) (K : PySem.W.Frag) (mg : PySem.Str → Option Value) (base : Heap) (CM : Addr) : Prop where
  cell : Got P w K mg base "_law_cell" 1 ["script", "k"] (spCellA K)
  digits : Got P w K mg base "_law_digits" 1 ["cell", "sizes"] (spDigits K)
  machine : Got P w K mg base "_law_machine" 2 ["script", "at"] (spMach K)
  lettered : Got P w K mg base "_law_lettered" 2 ["script", "at", "drawn"] (spLettered K)
  symboled : Got P w K mg base "_law_symboled" 2 ["script", "at", "drawn"] (spSymboled K)
  text : Got P w K mg base "_law_text" 2 ["script", "at", "letters", "upto"] (spText K)
  table : Got P w K mg base "_law_table" 1 ["rules"] (spTable K)
  known : Got P w K mg base "_law_known" 2 ["rules"] (spKnown K)
  right : Got P w K mg base "_law_excursions_right" 7 ["machine", "table", "text", "surface", "digit", "limit", "most", "far"] (spRight K CM)
/-- how things stand in the law -/
structure LS (K : PySem.W.Frag) (H : Hp) (CM p aR aY d m aH aP aT : Addr) (l t : PySem.Str) (n : Int) (B : Kept) (ys : List Int) (Tp : List PySem.Str) (head ps : List Int) : Prop where
  M : MG H p l n aR aY B ys Tp
  few : Tp.length ≤ 10
  pl : Pl K H CM m l n (B.map (·.2)) ys
  tx : TxtOk l t
  tab : TabAt H d (B.map (·.2))
  hh : H aH = some (.lst (head.map V.int))
  dg : Digs headS head
  hP : H aP = some (.lst (ps.map V.int))
  okP : ∀ x ∈ ps, 0 ≤ x ∧ x ≤ (t.length : Int) + 1
  hT : H aT = some (.lst ((nil0 :: symsL (B.map (·.2))).map V.str))
theorem LS.mono {K : PySem.W.Frag} {H H' : Hp} {CM p aR aY d m aH aP aT : Addr} {l t : PySem.Str} {n : Int} {B : Kept} {ys : List Int} {Tp : List PySem.Str} {head ps : List Int} (h : LS K H CM p aR aY d m aH aP aT l t n B ys Tp head ps) (e : Same H H') : LS K H' CM p aR aY d m aH aP aT l t n B ys Tp head ps :=
  ⟨h.M.mono e, h.few, h.pl.mono e, h.tx, h.tab.mono e, e _ _ h.hh, h.dg, e _ _ h.hP, h.okP, e _ _ h.hT⟩
theorem std_surf {l t : PySem.Str} {n : Int} {rs : List Rl} {q p : Int} {tp : PySem.Str} (hq : 0 ≤ q ∧ q ≤ n - 1) (hp : 0 ≤ p ∧ p ≤ (t.length : Int) + 1) (m : tp ∈ nil0 :: symsL rs) : StdOk l n t (symsL rs) ⟨q, p, stackOf tp⟩ := ⟨hq, hp, fun y my => by
  by_cases c : tp = nil0
  · have my : y ∈ stackOf tp := my
    rw [c, stackOf_nil] at my
    exact absurd my List.not_mem_nil
  · have my : y ∈ stackOf tp := my
    rw [stackOf_ne c] at my
    rw [List.mem_singleton.mp my]
    rcases List.mem_cons.mp m with e | e
    · exact absurd e c
    · exact e⟩
/-! the law's end -/
theorem law_Z {f CM : Addr} (T : TM mg) (G : LawDefs P w K mg base CM) (cdv : Value) (A : Around) (outer : List Env) (s : Shared) (H : Hp) (E : XK)
    (hr : Room 7 (A.deeper (PyProof.Rows.envOfC "law" (defScope sLaw) s.heap.objs.size f cdv))) :
    ∃ t : TS, PSs (cxOf CX0 P w K mg base nLaw "law" (defScope sLaw) f cdv A outer s H E).nox ((defBody sLaw).drop 12) t ∧
      ∀ (D : Ends) (k : ∀ H', D.rt (.bl true) H') (H1 : Hp) (p aR aY d m aH aP aT : Addr) (l tx : PySem.Str) (n : Int) (B : Kept) (ys : List Int) (Tp : List PySem.Str) (head ps : List Int) (e0 e5 e9 e10 e11 e12 e13 e14 e15 e16 e17 : Option V),
        LS K H1 CM p aR aY d m aH aP aT l tx n B ys Tp head ps →
        t D [e0, some (.ref aH), some (.ref p), some (.str tx), some (.ref aP), e5, some (.ref d), some (.ref m), some (.ref aT), e9, e10, e11, e12, e13, e14, e15, e16, e17] H1 := by
  have nd := scLaw.nd
  have h7 := hr
  refine ⟨_, (pss_cons (ps_set (i := 14) nd rfl (Or.inl rfl) (pe_tup (pa_cons (pe_op op_mod (pe_callTy call_int1 (by rfl) T.int PyProof.Rows.Boot.int (pa_cons (pe_ix ix_list (pv 1) pe_int fun _ _ => rfl) pa_nil)) (pe_ix ix_list (pv 2) pe_int fun _ _ => rfl)) (pa_cons (pe_op op_mod (pe_callTy call_int1 (by rfl) T.int PyProof.Rows.Boot.int (pa_cons (pe_ix ix_list (pv 1) pe_int fun _ _ => rfl) pa_nil)) (pe_op op_add (pe_callB call_len_str (by rfl) T.len PySem.boot_len (pa_cons (pv 3) pa_nil)) pe_int)) (pa_cons (pe_ix ix_list (pv 8) (pe_op op_mod (pe_callTy call_int1 (by rfl) T.int PyProof.Rows.Boot.int (pa_cons (pe_ix ix_list (pv 1) pe_int fun _ _ => rfl) pa_nil)) (pe_callB call_len_seq (by rfl) T.len PySem.boot_len (pa_cons (pv 8) pa_nil))) fun _ _ => rfl) pa_nil)))))
      (pss_cons (ps_set (i := 15) nd rfl (Or.inl rfl) (pe_ix ix_list (pv 1) pe_int fun _ _ => rfl))
      (C8.pss_cut (ps_if (pt_cmpR op_eq (pe_ix ix_list (pv 1) pe_int fun _ _ => rfl) pe_int (nomark _))
        (pss_one (ps_set (i := 15) nd rfl (Or.inl rfl) (pe_ix ix_list (pv 1) pe_int fun _ _ => rfl)))
        pss_nil)
      (pss_cons (ps_set (i := 16) nd rfl (Or.inl rfl) (pe_ix ix_list (pe_lst (pa_cons pe_int (pa_cons pe_int pa_nil))) (pe_callTy call_int1 (by rfl) T.int PyProof.Rows.Boot.int (pa_cons (pe_cmpR op_eq (pe_ix ix_list (pv 1) pe_int fun _ _ => rfl) pe_int (nomark _)) pa_nil)) fun _ _ => rfl))
      (pss_cons (ps_if (pt_not (pt_val (pe_got G.right h7 (by rfl) (pa_cons (pv 7) (pa_cons (pv 6) (pa_cons (Rv.pe_rev (pv 3) (pe_un un_neg pe_int)) (pa_cons (pv 14) (pa_cons (pe_ix ix_list (pv 1) pe_int fun _ _ => rfl) (pa_cons (pe_ix ix_list (pv 1) pe_int fun _ _ => rfl) (pa_cons (pv 16) (pa_cons (pe_ix ix_list (pv 1) pe_int fun _ _ => rfl) pa_nil)))))))))))
        (pss_one (ps_ret pe_bl))
        pss_nil)
      (pss_one (ps_ret (pe_got G.right h7 (by rfl) (pa_cons (pv 7) (pa_cons (pv 6) (pa_cons (pv 3) (pa_cons (pe_tup (pa_cons pe_int (pa_cons pe_int (pa_cons pe_str pa_nil)))) (pa_cons pe_int (pa_cons (pe_ix ix_list (pv 1) pe_int fun _ _ => rfl) (pa_cons (pv 16) (pa_cons (pv 15) pa_nil)))))))))))))))), ?_⟩
  intro D k H1 p aR aY d m aH aP aT l tx n B ys Tp head ps e0 e5 e9 e10 e11 e12 e13 e14 e15 e16 e17 hL
  have lt : tx.length ≤ 400 := hL.tx.2
  have MM := hL.M
  have n1 := MM.n1
  obtain ⟨d1, ed1, b1⟩ := dig_nat hL.dg 1 60 rfl
  obtain ⟨d3, ed3, b3⟩ := dig_nat hL.dg 3 7 rfl
  obtain ⟨d6, ed6, b6⟩ := dig_nat hL.dg 6 24 rfl
  obtain ⟨d7, ed7, b7⟩ := dig_nat hL.dg 7 100001 rfl
  obtain ⟨d8, ed8, b8⟩ := dig_nat hL.dg 8 5 rfl
  obtain ⟨d9, ed9, b9⟩ := dig_nat hL.dg 9 402 rfl
  obtain ⟨d10, ed10, b10⟩ := dig_nat hL.dg 10 997 rfl
  have lT : (((nil0 :: symsL (B.map (·.2))).map V.str)).length = (nil0 :: symsL (B.map (·.2))).length := List.length_map ..
  have pT : 0 < (nil0 :: symsL (B.map (·.2))).length := Nat.zero_lt_succ _
  obtain ⟨tp, etp, mtp⟩ : ∃ tp : PySem.Str, atI ((nil0 :: symsL (B.map (·.2))).map V.str) ((d10 : Int) % (((nil0 :: symsL (B.map (·.2))).length : Nat) : Int)) = some (.str tp) ∧ tp ∈ nil0 :: symsL (B.map (·.2)) := by
    have hlt := Nat.mod_lt d10 pT
    refine ⟨(nil0 :: symsL (B.map (·.2)))[d10 % (nil0 :: symsL (B.map (·.2))).length], ?_, List.getElem_mem hlt⟩
    rw [← Int.natCast_emod]
    exact atI_nat (by rw [List.getElem?_map, List.getElem?_eq_getElem hlt] <;> rfl)
  refine ⟨_, rfl, aH, _, _, _, rfl, rfl, SqL.of hL.hh, row_at (j := 8) ed8, .inl ⟨_, rfl, _, rfl, p, _, 1, .int n, rfl, rfl, SqL.of MM.at_, rfl, _, _, rfl, rfl, (by omega), ?_⟩⟩
  refine ⟨_, rfl, aH, _, _, _, rfl, rfl, SqL.of hL.hh, row_at (j := 9) ed9, .inl ⟨_, rfl, _, rfl, tx, rfl, Nat.le_trans lt (by decide), _, _, rfl, rfl, _, _, rfl, rfl, (by omega), ?_⟩⟩
  refine ⟨_, rfl, _, rfl, aH, _, _, _, rfl, rfl, SqL.of hL.hh, row_at (j := 10) ed10, .inl ⟨_, rfl, _, rfl, aT, _, rfl, .inl (SqL.of hL.hT), ?_⟩⟩
  rw [lT]
  refine ⟨_, _, rfl, rfl, (by omega), aT, _, _, .str tp, rfl, rfl, SqL.of hL.hT, etp, show 3 ≤ sizeLine by decide, fun u nu => ?_⟩
  have tu := same_new (o := HO.tup [V.int ((d8 : Int) % n), V.int ((d9 : Int) % ((tx.length : Int) + 2)), V.str tp]) nu
  have hu : (upd H1 u (.tup [V.int ((d8 : Int) % n), V.int ((d9 : Int) % ((tx.length : Int) + 2)), V.str tp])) u = some (.tup [V.int ((d8 : Int) % n), V.int ((d9 : Int) % ((tx.length : Int) + 2)), V.str tp]) := upd_same
  have hL2 := hL.mono tu
  dsimp only [gName]
  show (tSeq _ _) _ _ (upd H1 u (.tup [V.int ((d8 : Int) % n), V.int ((d9 : Int) % ((tx.length : Int) + 2)), V.str tp]))
  generalize upd H1 u (.tup [V.int ((d8 : Int) % n), V.int ((d9 : Int) % ((tx.length : Int) + 2)), V.str tp]) = H2 at hu hL2 ⊢
  clear tu nu
  refine ⟨_, rfl, aH, _, _, _, rfl, rfl, SqL.of hL2.hh, row_at (j := 1) ed1, ?_⟩
  dsimp only [gName]
  refine ⟨fun σ' H' => ∃ far : Nat, far ≤ 100000 ∧ σ' = [e0, some (.ref aH), some (.ref p), some (.str tx), some (.ref aP), e5, some (.ref d), some (.ref m), some (.ref aT), e9, e10, e11, e12, e13, some (.ref u), some (.int (far : Int)), e16, e17] ∧ H' = H2, ?_, ?_⟩
  · refine ⟨_, rfl, aH, _, _, _, rfl, rfl, SqL.of hL2.hh, row_at (j := 6) ed6, rfl, _, rfl, ite2 (fun _ => ?_) (fun _ => ⟨d1, by omega, rfl, rfl⟩)⟩
    exact ⟨_, rfl, aH, _, _, _, rfl, rfl, SqL.of hL2.hh, row_at (j := 7) ed7, d7, by omega, rfl, rfl⟩
  rintro σ' H3 ⟨far, lfar, rfl, rfl⟩
  refine ⟨show 2 ≤ sizeLine by decide, fun u3 n3 => ?_⟩
  have t3 := same_new (o := HO.lst [V.int 2000, V.int 20000]) n3
  obtain ⟨most, lmost, gmost, emost⟩ : ∃ most : Nat, most ≤ 20000 ∧ 60 ≤ most ∧ atI [V.int 2000, V.int 20000] (if decide (V.int (d6 : Int) = V.int 23) = true then 1 else 0) = some (.int (most : Int)) := by
    split
    · exact ⟨20000, by omega, by omega, rfl⟩
    · exact ⟨2000, by omega, by omega, rfl⟩
  refine ⟨_, rfl, aH, _, _, _, rfl, rfl, SqL.of (t3 _ _ hL2.hh), row_at (j := 6) ed6, rfl, .inr ⟨_, rfl, u3, _, _, _, rfl, rfl, SqL.of upd_same, emost, ?_⟩⟩
  have hL3 := hL2.mono t3
  have hu3 := t3 _ _ hu
  dsimp only [gName]
  have back := rev_ok hL.tx
  have okO : StdOk l n (Rv.revS tx) (symsL (B.map (·.2))) ⟨(d8 : Int) % n, (d9 : Int) % ((tx.length : Int) + 2), stackOf tp⟩ := by
    refine std_surf ⟨Int.emod_nonneg _ (by omega), ?_⟩ ⟨Int.emod_nonneg _ (by omega), ?_⟩ mtp
    · have := Int.emod_lt_of_pos (d8 : Int) (show (0 : Int) < n by omega)
      omega
    · have := Int.emod_lt_of_pos (d9 : Int) (show (0 : Int) < (tx.length : Int) + 2 by omega)
      rw [rev_len]
      omega
  refine ⟨_, rfl, _, rfl, _, rfl, 1, rfl, tx, rfl, rfl, Nat.le_trans lt (by decide), _, rfl, _, rfl, aH, _, _, _, rfl, rfl, SqL.of hL3.hh, row_at (j := 3) ed3, _, rfl, aH, _, _, _, rfl, rfl, SqL.of hL3.hh, row_at (j := 1) ed1, _, rfl, _, rfl, aH, _, _, _, rfl, rfl, SqL.of hL3.hh, row_at (j := 1) ed1, ?_⟩
  refine ⟨m, d, u, l, Rv.revS tx, n, B.map (·.2), ys, _, _, tp, d3, d1, most, d1, rfl, hL3.pl, back, hL3.tab, hu3, okO, by omega, lmost, by omega, fun H4 s4 => ⟨_, rfl, iteF ?_⟩⟩
  have hL4 := hL3.mono s4
  refine ⟨_, rfl, _, rfl, _, rfl, show 3 ≤ sizeLine by decide, fun u5 n5 => ?_⟩
  have t5 := same_new (o := HO.tup [V.int 0, V.int 0, V.str nil0]) n5
  have hL5 := hL4.mono t5
  refine ⟨_, rfl, aH, _, _, _, rfl, rfl, SqL.of hL5.hh, row_at (j := 1) ed1, _, rfl, _, rfl, ?_⟩
  refine ⟨m, d, u5, l, tx, n, B.map (·.2), ys, 0, 0, nil0, 0, d1, most, far, rfl, hL5.pl, hL5.tx, hL5.tab, upd_same, ?_, by omega, lmost, lfar, fun H6 s6 => k H6⟩
  exact std_surf ⟨Int.le_refl _, by omega⟩ ⟨Int.le_refl _, by omega⟩ List.mem_cons_self
end
end Mk

set_option Elab.async false
set_option linter.unusedVariables false
set_option maxRecDepth 100000
set_option maxHeartbeats 16000000
namespace Mk
open PySem L2 Pk
section
variable {P : Program} {w : World} {K : PySem.W.Frag} {mg : PySem.Str → Option Value} {base : Heap}
/-! each surface -/
theorem law_Y {f CM : Addr} (T : TM mg) (G : LawDefs P w K mg base CM) (cdv : Value) (A : Around) (outer : List Env) (s : Shared) (H : Hp) (E : XK)
    (hr : Room 7 (A.deeper (PyProof.Rows.envOfC "law" (defScope sLaw) s.heap.objs.size f cdv))) :
    ∃ t : TS, PSs (cxOf CX0 P w K mg base nLaw "law" (defScope sLaw) f cdv A outer s H E).nox ((defBody sLaw).drop 10) t ∧
      ∀ (D : Ends) (k : ∀ H', D.rt (.bl true) H') (H1 : Hp) (p aR aY d m aH aP aT : Addr) (l tx : PySem.Str) (n : Int) (B : Kept) (ys : List Int) (Tp : List PySem.Str) (head ps : List Int) (pt : Nat) (e0 e9 e10 e11 e12 e13 e14 e15 e16 e17 : Option V),
        LS K H1 CM p aR aY d m aH aP aT l tx n B ys Tp head ps → 1 ≤ pt →
        t D [e0, some (.ref aH), some (.ref p), some (.str tx), some (.ref aP), some (.int (pt : Int)), some (.ref d), some (.ref m), some (.ref aT), e9, e10, e11, e12, e13, e14, e15, e16, e17] H1 := by
  have nd := scLaw.nd
  have h7 := hr
  obtain ⟨tE, hE, kE⟩ := law_Z (f := f) T G cdv A outer s H E hr
  refine ⟨_, (pss_cons (ps_set (i := 9) nd rfl (Or.inl rfl) pe_int)
      (pss_cons (ps_for PassesOwn.never rfl (pi_range1 (by rfl) T.range (pa_cons (pe_ix ix_list (pv 2) pe_int fun _ _ => rfl) pa_nil)) (pg_name (i := 10) nd rfl (Or.inl rfl))
        (pss_one (ps_for PassesOwn.never rfl (pi_list (pv 4)) (pg_name (i := 11) nd rfl (Or.inl rfl))
          (pss_one (ps_for PassesOwn.never rfl (pi_list (pv 8)) (pg_name (i := 12) nd rfl (Or.inl rfl))
            (pss_cons (ps_set (i := 9) nd rfl (Or.inl rfl) (pe_op op_add (pv 9) pe_int))
            (pss_one (ps_if (pt_cmpR op_eq (pe_op op_mod (pe_callTy call_int1 (by rfl) T.int PyProof.Rows.Boot.int (pa_cons (pe_op op_add (pv 9) (pe_ix ix_list (pv 1) pe_int fun _ _ => rfl)) pa_nil)) (pv 5)) pe_int (nomark _))
              (pss_cons (ps_set (i := 13) nd rfl (Or.inl rfl) (pe_op op_mod (pe_callTy call_int1 (by rfl) T.int PyProof.Rows.Boot.int (pa_cons (pe_op op_add (pe_ix ix_list (pv 1) pe_int fun _ _ => rfl) (pe_op op_mul pe_int (pv 9))) pa_nil)) pe_int))
              (pss_one (ps_if (pt_not (pt_val (pe_got G.right h7 (by rfl) (pa_cons (pv 7) (pa_cons (pv 6) (pa_cons (pv 3) (pa_cons (pe_tup (pa_cons (pv 10) (pa_cons (pv 11) (pa_cons (pv 12) pa_nil)))) (pa_cons (pe_op op_add (pe_ix ix_list (pv 1) pe_int fun _ _ => rfl) (pv 9)) (pa_cons (pv 13) (pa_cons pe_int (pa_cons (pv 13) pa_nil)))))))))))
                (pss_one (ps_ret pe_bl))
                pss_nil)))
              pss_nil)))))))) hE)), ?_⟩
  intro D k H1 p aR aY d m aH aP aT l tx n B ys Tp head ps pt e0 e9 e10 e11 e12 e13 e14 e15 e16 e17 hL ptp
  have MM := hL.M
  have n1 := MM.n1
  obtain ⟨d0, ed0, b0⟩ := dig_nat hL.dg 0 3 rfl
  obtain ⟨d1, ed1, b1⟩ := dig_nat hL.dg 1 60 rfl
  obtain ⟨d3, ed3, b3⟩ := dig_nat hL.dg 3 7 rfl
  dsimp only [gName]
  refine ⟨_, rfl, p, _, 1, .int n, rfl, rfl, SqL.of MM.at_, rfl, _, rfl, by omega, by have := MM.n5; omega, for_range (lo := 0) (n := n.toNat) (fun i σ H' => Same H1 H' ∧ ∃ (c : Nat) (v10 v11 v12 v13 : Option V), σ = [e0, some (.ref aH), some (.ref p), some (.str tx), some (.ref aP), some (.int (pt : Int)), some (.ref d), some (.ref m), some (.ref aT), some (.int (c : Int)), v10, v11, v12, v13, e14, e15, e16, e17]) ⟨Same.refl _, 0, _, _, _, _, rfl⟩ ?_ ?_⟩
  rotate_left
  · rintro σ H2 ⟨s2, c, v10, v11, v12, v13, rfl⟩
    exact kE D k _ _ _ _ _ _ _ _ _ _ _ _ _ _ _ _ _ _ _ _ _ _ _ _ _ _ _ _ (hL.mono s2)
  rintro i σ H2 hi ⟨s2, c, v10, v11, v12, v13, rfl⟩
  dsimp only [gName]
  have hL2 := hL.mono s2
  refine ⟨_, rfl, aP, rfl, ⟨_, SqL.of hL2.hP⟩, for_list (K := K) (a := aP) (xs := ps.map V.int) (fun j σ H' => Same H1 H' ∧ ∃ (c : Nat) (v11 v12 v13 : Option V), σ = [e0, some (.ref aH), some (.ref p), some (.str tx), some (.ref aP), some (.int (pt : Int)), some (.ref d), some (.ref m), some (.ref aT), some (.int (c : Int)), some (.int (0 + (i : Int))), v11, v12, v13, e14, e15, e16, e17]) ⟨s2, c, _, _, _, rfl⟩ (fun j σ H' _ h => SqL.of (hL.mono h.1).hP) ?_ ?_⟩
  rotate_left
  · rintro σ H3 ⟨s3, c, v11, v12, v13, rfl⟩
    exact ⟨s3, c, _, _, _, _, rfl⟩
  rintro j v σ H3 hj ⟨s3, c, v11, v12, v13, rfl⟩
  rw [List.getElem?_map] at hj
  obtain ⟨pl, epl, rfl⟩ := Option.map_eq_some_iff.mp hj
  have okp := hL.okP pl (List.mem_of_getElem? epl)
  dsimp only [gName]
  have hL3 := hL.mono s3
  refine ⟨_, rfl, aT, rfl, ⟨_, SqL.of hL3.hT⟩, for_list (K := K) (a := aT) (xs := (nil0 :: symsL (B.map (·.2))).map V.str) (fun j σ H' => Same H1 H' ∧ ∃ (c : Nat) (v12 v13 : Option V), σ = [e0, some (.ref aH), some (.ref p), some (.str tx), some (.ref aP), some (.int (pt : Int)), some (.ref d), some (.ref m), some (.ref aT), some (.int (c : Int)), some (.int (0 + (i : Int))), some (.int pl), v12, v13, e14, e15, e16, e17]) ⟨s3, c, _, _, rfl⟩ (fun j σ H' _ h => SqL.of (hL.mono h.1).hT) ?_ ?_⟩
  rotate_left
  · rintro σ H4 ⟨s4, c, v12, v13, rfl⟩
    exact ⟨s4, c, _, _, _, rfl⟩
  rintro j2 v σ H4 hj2 ⟨s4, c, v12, v13, rfl⟩
  rw [List.getElem?_map] at hj2
  obtain ⟨tp, etp, rfl⟩ := Option.map_eq_some_iff.mp hj2
  have mtp := List.mem_of_getElem? etp
  dsimp only [gName]
  have hL4 := hL.mono s4
  refine ⟨_, rfl, _, _, rfl, rfl, ?_⟩
  dsimp only [gName]
  rw [show (c : Int) + 1 = ((c + 1 : Nat) : Int) by omega]
  refine ⟨_, rfl, _, rfl, aH, _, _, _, rfl, rfl, SqL.of hL4.hh, row_at (j := 0) ed0, _, _, rfl, rfl, .inl ⟨_, rfl, _, rfl, _, _, rfl, rfl, (by omega), rfl, _, rfl, ite2 (fun _ => ?_) (fun _ => ⟨s4, c + 1, _, _, rfl⟩)⟩⟩
  refine ⟨_, rfl, aH, _, _, _, rfl, rfl, SqL.of hL4.hh, row_at (j := 1) ed1, _, rfl, _, _, rfl, rfl, .inl ⟨by decide, by decide⟩, _, _, rfl, rfl, .inl ⟨_, rfl, _, _, rfl, rfl, show (0 : Int) < 60 by decide, ?_⟩⟩
  dsimp only [gName]
  rw [show ((d1 : Int) + 7 * ((c + 1 : Nat) : Int)) % 60 = (((d1 + 7 * (c + 1)) % 60 : Nat) : Int) by omega]
  have llim : (d1 + 7 * (c + 1)) % 60 < 60 := Nat.mod_lt _ (by decide)
  generalize (d1 + 7 * (c + 1)) % 60 = lim at llim ⊢
  refine ⟨_, rfl, _, rfl, _, rfl, _, rfl, _, rfl, _, rfl, show 3 ≤ sizeLine by decide, fun u nu => ?_⟩
  have tu := same_new (o := HO.tup [V.int (0 + (i : Int)), V.int pl, V.str tp]) nu
  have hL5 := hL4.mono tu
  refine ⟨_, rfl, aH, _, _, _, rfl, rfl, SqL.of hL5.hh, row_at (j := 3) ed3, _, rfl, _, _, rfl, rfl, ?_⟩
  dsimp only
  rw [show (d3 : Int) + ((c + 1 : Nat) : Int) = ((d3 + (c + 1) : Nat) : Int) by omega]
  refine ⟨_, rfl, _, rfl, ?_⟩
  refine ⟨m, d, u, l, tx, n, B.map (·.2), ys, 0 + (i : Int), pl, tp, d3 + (c + 1), lim, 300, lim, rfl, hL5.pl, hL5.tx, hL5.tab, upd_same, std_surf ⟨by omega, by omega⟩ okp mtp, by omega, by omega, by omega, fun H6 s6 => ⟨_, rfl, iteF ⟨(s4.trans tu).trans s6, c + 1, _, _, rfl⟩⟩⟩
end
end Mk

set_option Elab.async false
set_option linter.unusedVariables false
set_option maxRecDepth 100000
set_option maxHeartbeats 16000000
namespace Mk
open PySem L2 Pk
theorem op_mulS {X : Cx} : OpR X (binaryOp .Mult) (fun x y H Q => ∃ z n, x = .str z ∧ y = .int n ∧ MulOk z n ∧ Q (.str (Txt.mul z n)) H) := by
  intro pins s σ H x y v u Q I rx ry h
  obtain ⟨z, n, rfl, rfl, ok, q⟩ := h
  obtain ⟨t, rfl⟩ := rx
  obtain ⟨t', rfl⟩ := ry
  exact SB.mul ok fun t' tk => ⟨.str (Txt.mul z n), H, I.tok _, ⟨_, rfl⟩, q⟩
/-! what is handed to Machine -/
def asTup (B : Kept) : Hand := B.map fun p => (p.1, false, p.2)
theorem asTup_refs (B : Kept) : refsH (asTup B) = refsK B := by
  unfold refsH asTup refsK
  rw [List.map_map] <;> rfl
theorem asTup_rs (B : Kept) : rsOf (asTup B) = B.map (·.2) := by
  unfold rsOf asTup
  rw [List.map_map] <;> rfl
theorem right_kept {K : PySem.W.Frag} {H : Hp} {l : PySem.Str} {n : Int} {a b : Addr} {B : Kept} {ys : List Int} (al : Alpha l) (n1 : 1 ≤ n) (n5 : n ≤ 5) (hR : H a = some (.lst (refsK B))) (kB : KeptAt H B) (ok : ∀ q ∈ B, RlOk l n q.2) (few : B.length ≤ 1900)
    (hY : H b = some (.lst (ys.map V.int))) (yok : ∀ y ∈ ys, 0 ≤ y ∧ y ≤ n - 1) (lys : ys.length ≤ 5) : Right K H l n a b true true (asTup B) ys where
  args := {
    alpha := al
    num := ⟨n1, by omega⟩
    rs := by rw [asTup_refs]; exact SqL.of hR
    hand := {
      at_ := fun p m => by
        obtain ⟨q, mq, rfl⟩ := List.mem_map.mp m
        exact SqT.of (kB q mq)
      ok := fun p m => by
        obtain ⟨q, mq, rfl⟩ := List.mem_map.mp m
        exact ok q mq
      most := by
        show (asTup B).length ≤ 20000
        unfold asTup
        rw [List.length_map]
        omega }
    yes := SqL.of hY
    in_ := yok
    few := by omega }
  raw := fun p m _ => by
    obtain ⟨q, mq, rfl⟩ := List.mem_map.mp m
    exact kB q mq
  few := by
    show (asTup B).length ≤ 1900
    unfold asTup
    rw [List.length_map]
    exact few
  fewY := by omega
theorem fresh_len : freshL.length = 6 := rfl
theorem machD_mg {H H' : Hp} {p : Addr} (h : MachD H p H') : Same H H' ∧ ∃ (l : PySem.Str) (n : Int) (aR aY : Addr) (B : Kept) (ys : List Int) (Tp : List PySem.Str), MG H' p l n aR aY B ys Tp ∧ Tp.length ≤ 4 ∧ (∀ t ∈ Tp, t ∉ freshL) := by
  obtain ⟨s, l, n, aR, aY, B, ys, a1, a2, a3, a4, a5, a6, a7, a8, a9, a10, a11, a12, a13, Tp, a14, a15, a16⟩ := h
  exact ⟨s, l, n, aR, aY, B, ys, Tp, ⟨a1, a2, a4, a5, a6, a7, a8, a13, a16, a10, a11, a12⟩, a14, a15⟩
theorem cut_chars {x : PySem.Str} {u : Nat} : ∀ c ∈ (cutS x none (some (u : Int))).cps.toList, c ∈ x.cps.toList := fun c m => by
  have m : c ∈ ((x.cps.toList.drop (HT.sIx x.length 0 none)).take (HT.sIx x.length x.length (some (u : Int)) - HT.sIx x.length 0 none)) := by
    unfold cutS at m
    exact m
  exact List.mem_of_mem_drop (List.mem_of_mem_take m)
theorem cut_len {x : PySem.Str} {u : Nat} : (cutS x none (some (u : Int))).length = min u x.length := by
  show ((x.cps.toList.drop (HT.sIx x.length 0 none)).take (HT.sIx x.length x.length (some (u : Int)) - HT.sIx x.length 0 none)).toArray.size = _
  have e : HT.sIx x.length x.length (some (u : Int)) = min u x.length := HT.sIx_nat ..
  have e0 : HT.sIx x.length 0 none = 0 := HT.sIx_none ..
  rw [List.size_toArray, List.length_take, e, e0, List.drop_zero, Array.length_toList]
  show min (min u x.length - 0) x.length = _
  omega
theorem mul_chars {x : PySem.Str} {q : Nat} : ∀ c ∈ (Txt.mul x (q : Int)).cps.toList, c ∈ x.cps.toList := fun c m => by
  rw [mul_tl] at m
  obtain ⟨w, mw, mc⟩ := List.mem_flatten.mp m
  rw [(List.mem_replicate.mp mw).2] at mc
  exact mc
theorem mul_len (x : PySem.Str) (q : Nat) : (Txt.mul x (q : Int)).length = q * x.length := by
  have e := congrArg List.length (mul_tl x q)
  rw [Array.length_toList, PyProof.Rows.lm_len_rep_flat, Array.length_toList] at e
  exact e
theorem app_chars {t l : PySem.Str} (ht : ∀ c ∈ t.cps.toList, c ∈ l.cps.toList) : ∀ c ∈ (t ++ l).cps.toList, c ∈ l.cps.toList := fun c m => by
  rw [str_app] at m
  rcases List.mem_append.mp m with m | m
  · exact ht c m
  · exact m
section
variable {P : Program} {w : World} {K : PySem.W.Frag} {mg : PySem.Str → Option Value} {base : Heap}
def spLaw (K : PySem.W.Frag) : Sp := fun vs H Q _ => ∃ (a : Addr) (ns : List Int), vs = [.ref a] ∧ SqL K H a (ns.map V.int) ∧ ∀ H', Q (.bl true) H'
theorem ok_law {f CM fI e0 : Addr} {fd fdM : FuncData} (F : Fun K "law" "law" sLaw f fd) (T : TM mg) (G : LawDefs P w K mg base CM) (M : MDef P w K mg base CM fI e0 fdM) : FnOk P w K mg base CX0 8 f fd ["script"] (spLaw K) := by
  refine F.ok scLaw (fun vs H Q E h => ?_) (fun cdv A outer s H vs Q E hr h => ?_)
  · obtain ⟨a, ns, rfl, _⟩ := h
    rfl
  · obtain ⟨sc, ns, rfl, hS, k⟩ := h
    have nd := scLaw.nd
    have h1 := hr.mono (show 1 ≤ 7 by decide)
    have h2 := hr.mono (show 2 ≤ 7 by decide)
    have h7 := hr
    obtain ⟨tE, hE, kE⟩ := law_Y (f := f) T G cdv A outer s H E hr
    refine ⟨_, (pss_cons (ps_set (i := 1) nd rfl (Or.inl rfl) (pe_got G.digits h1 (by rfl) (pa_cons (pe_got G.cell h1 (by rfl) (pa_cons (pv 0) (pa_cons pe_int pa_nil))) (pa_cons (pe_lst (pa_cons pe_int (pa_cons pe_int (pa_cons pe_int (pa_cons pe_int (pa_cons pe_int (pa_cons pe_int (pa_cons pe_int (pa_cons pe_int (pa_cons pe_int (pa_cons pe_int (pa_cons pe_int pa_nil)))))))))))) pa_nil))))
      (pss_cons (ps_set (i := 2) nd rfl (Or.inl rfl) (pe_got G.symboled h2 (by rfl) (pa_cons (pv 0) (pa_cons pe_int (pa_cons (pe_got G.lettered h2 (by rfl) (pa_cons (pv 0) (pa_cons pe_int (pa_cons (pe_got G.machine h2 (by rfl) (pa_cons (pv 0) (pa_cons pe_int pa_nil))) pa_nil)))) pa_nil)))))
      (pss_cons (ps_set (i := 3) nd rfl (Or.inl rfl) (pe_slice sl_str (pe_got G.text h2 (by rfl) (pa_cons (pv 0) (pa_cons pe_int (pa_cons (pe_ix ix_list (pv 2) pe_int fun _ _ => rfl) (pa_cons pe_int pa_nil))))) po_none (po_some (pe_ix ix_list (pe_lst (pa_cons pe_int (pa_cons pe_int (pa_cons pe_int (pa_cons pe_int pa_nil))))) (pe_ix ix_list (pv 1) pe_int fun _ _ => rfl) fun _ _ => rfl))))
      (C8.pss_cut (ps_if (pt_cmpR op_eq (pe_ix ix_list (pv 1) pe_int fun _ _ => rfl) pe_int (nomark _))
        (pss_one (ps_set (i := 3) nd rfl (Or.inl rfl) (pe_slice sl_str (pe_op op_mulS (pe_op op_add_str (pv 3) (pe_ix ix_list (pv 2) pe_int fun _ _ => rfl)) pe_int) po_none (po_some (pe_op op_add pe_int (pe_ix ix_list (pv 1) pe_int fun _ _ => rfl))))))
        pss_nil)
      (pss_cons (ps_setLc (i := 4) (own := [("k", 17)]) (g := gName 17) (tt := tYes) (by rfl) nd rfl rfl (sw_true rfl rfl rfl (by decide +kernel)) (pi_range1 (by rfl) T.range (pa_cons (pe_op op_add (pe_callB call_len_str (by rfl) T.len PySem.boot_len (pa_cons (pv 3) pa_nil)) pe_int) pa_nil)) (blkOk_by (own := [("k", 17)]) (N := nLaw) (sc := defScope sLaw) (by decide +kernel)) (fun _ _ _ _ _ => pg_name (i := 17) nd rfl (Or.inl rfl)) (fun _ _ _ _ _ => pts_nil) (fun _ _ _ _ _ => (pv 17)))
      (pss_cons (ps_set (i := 5) nd rfl (Or.inl rfl) (pe_ix ix_list (pe_lst (pa_cons pe_int (pa_cons pe_int (pa_cons pe_int pa_nil)))) (pe_op op_add (pe_callTy call_int1 (by rfl) T.int PyProof.Rows.Boot.int (pa_cons (pe_cmpR op_gt (pe_callB call_len_str (by rfl) T.len PySem.boot_len (pa_cons (pv 3) pa_nil)) pe_int (nomark _)) pa_nil)) (pe_callTy call_int1 (by rfl) T.int PyProof.Rows.Boot.int (pa_cons (pe_cmpR op_gt (pe_callB call_len_str (by rfl) T.len PySem.boot_len (pa_cons (pv 3) pa_nil)) pe_int (nomark _)) pa_nil))) fun _ _ => rfl))
      (C8.pss_cut (ps_if (pt_cmpR op_eq (pe_ix ix_list (pv 1) pe_int fun _ _ => rfl) pe_int (nomark _))
        (pss_cons (ps_set (i := 3) nd rfl (Or.inl rfl) (pe_slice sl_str (pe_op op_mulS (pe_op op_add_str (pv 3) (pe_ix ix_list (pv 2) pe_int fun _ _ => rfl)) pe_int) po_none (po_some pe_int)))
        (pss_cons (ps_set (i := 4) nd rfl (Or.inl rfl) (pe_lst (pa_cons pe_int (pa_cons pe_int (pa_cons (pe_ix ix_list (pv 1) pe_int fun _ _ => rfl) (pa_cons pe_int (pa_cons pe_int (pa_cons pe_int pa_nil))))))))
        (pss_one (ps_set (i := 5) nd rfl (Or.inl rfl) pe_int))))
        pss_nil)
      (pss_cons (ps_set (i := 6) nd rfl (Or.inl rfl) (pe_got G.table h1 (by rfl) (pa_cons (pe_ix ix_list (pv 2) pe_int fun _ _ => rfl) pa_nil)))
      (pss_cons (ps_set (i := 7) nd rfl (Or.inl rfl) (pe_make M.maker M.init h7 (by rfl) M.name M.b4 .nil pass0 (pa_cons (pe_ix ix_list (pv 2) pe_int fun _ _ => rfl) (pa_cons (pe_ix ix_list (pv 2) pe_int fun _ _ => rfl) (pa_cons (pe_ix ix_list (pv 2) pe_int fun _ _ => rfl) (pa_cons (pe_ix ix_list (pv 2) pe_int fun _ _ => rfl) pa_nil))))))
      (pss_cons (ps_set (i := 8) nd rfl (Or.inl rfl) (pe_op op_cat (pe_lst (pa_cons pe_str pa_nil)) (pe_got G.known h2 (by rfl) (pa_cons (pe_ix ix_list (pv 2) pe_int fun _ _ => rfl) pa_nil)))) hE)))))))))), ?_⟩
    refine ⟨_, rfl, sc, ns, 6, rfl, hS, fun z0 => ⟨show 11 ≤ sizeLine by decide, fun l6 h6 => ?_⟩⟩
    refine ⟨z0, l6, headS, rfl, SqL.of upd_same, by decide, ?_, fun head aH H1 hDg np s1 hH => ?_⟩
    · intro s ms
      simp only [List.mem_cons, List.not_mem_nil, or_false] at ms
      rcases ms with rfl | rfl | rfl | rfl | rfl | rfl | rfl | rfl | rfl | rfl | rfl <;> decide
    have sA : Same H H1 := (same_new h6).trans s1
    clear s1 np h6
    dsimp only [gName]
    refine ⟨_, rfl, _, rfl, _, rfl, sc, ns, 0, rfl, sA.seq hS, fun p1 H2 hD => ?_⟩
    obtain ⟨s12, l1, n, aR1, aY, B1, ys, Tp1, M1, T4, TF⟩ := machD_mg hD
    have s2 := sA.trans s12
    refine ⟨sc, ns, 13, p1, l1, n, aR1, aY, B1, ys, Tp1, rfl, s2.seq hS, M1, by omega, fun p2 H3 l aR2 B2 s23 M2 => ?_⟩
    have s3 := s2.trans s23
    refine ⟨sc, ns, 14, p2, l, n, aR2, aY, B2, ys, Tp1, rfl, s3.seq hS, M2, T4, TF, fun p H4 aR B s34 MM => ?_⟩
    have s4 := s3.trans s34
    have hH4 := s34 _ _ (s23 _ _ (s12 _ _ hH))
    have few : (Tp1 ++ freshL).length ≤ 10 := by rw [List.length_append, fresh_len]; omega
    generalize Tp1 ++ freshL = Tp at few MM
    dsimp only [gName]
    obtain ⟨d2, ed2, b2⟩ := dig_nat hDg 2 4 rfl
    obtain ⟨d4, ed4, b4⟩ := dig_nat hDg 4 16 rfl
    obtain ⟨d5, ed5, b5⟩ := dig_nat hDg 5 402 rfl
    obtain ⟨d6, ed6, b6⟩ := dig_nat hDg 6 24 rfl
    refine ⟨_, rfl, _, rfl, p, _, 0, .str l, rfl, rfl, SqL.of MM.at_, rfl, sc, ns, 5, l, 6, rfl, s4.seq hS, MM.al, by omega, by omega, fun t0 H5 s45 ct0 lt0 => ?_⟩
    have M5 := MM.mono s45
    have s5 := s4.trans s45
    have hH5 := s45 _ _ hH4
    refine ⟨show 4 ≤ sizeLine by decide, fun u1 n1 => ?_⟩
    have t1 := same_new (o := HO.lst [V.int 3, V.int 2, V.int 4, V.int 6]) n1
    obtain ⟨k0, lk0, ek0⟩ : ∃ k0 : Nat, k0 ≤ 6 ∧ atI [V.int 3, V.int 2, V.int 4, V.int 6] (d2 : Int) = some (.int (k0 : Int)) := by
      have c : d2 = 0 ∨ d2 = 1 ∨ d2 = 2 ∨ d2 = 3 := by omega
      rcases c with rfl | rfl | rfl | rfl
      · exact ⟨3, by omega, rfl⟩
      · exact ⟨2, by omega, rfl⟩
      · exact ⟨4, by omega, rfl⟩
      · exact ⟨6, by omega, rfl⟩
    refine ⟨_, rfl, aH, _, _, _, rfl, rfl, SqL.of (t1 _ _ hH5), row_at (j := 2) ed2, u1, _, _, .int (k0 : Int), rfl, rfl, SqL.of upd_same, ek0, _, rfl, _, rfl, Nat.le_trans (show _ ≤ 100 by omega) (by decide), ?_⟩
    have M6 := M5.mono t1
    have s6 := s5.trans t1
    have hH6 := t1 _ _ hH5
    dsimp only [gName]
    show (C8.tCut _ _) _ _ (upd H5 u1 (.lst [V.int 3, V.int 2, V.int 4, V.int 6]))
    generalize upd H5 u1 (.lst [V.int 3, V.int 2, V.int 4, V.int 6]) = H6 at M6 s6 hH6 ⊢
    clear t1 n1
    have c1 : ∀ c ∈ (cutS t0 none (some (k0 : Int))).cps.toList, c ∈ l.cps.toList := fun c m => ct0 c (cut_chars c m)
    have lc1 : (cutS t0 none (some (k0 : Int))).length ≤ 6 := by rw [cut_len]; omega
    generalize cutS t0 none (some (k0 : Int)) = tx1 at c1 lc1 ⊢
    have l26 := MM.al.most
    have lpos := MM.al.pos
    refine ⟨fun σ' H' => ∃ tx : PySem.Str, σ' = [some (.ref sc), some (.ref aH), some (.ref p), some (.str tx), none, none, none, none, none, none, none, none, none, none, none, none, none, none] ∧ Same H6 H' ∧ (∀ c ∈ tx.cps.toList, c ∈ l.cps.toList) ∧ tx.length ≤ 12, ?_, ?_⟩
    · refine ⟨_, rfl, aH, _, _, _, rfl, rfl, SqL.of hH6, row_at (j := 6) ed6, rfl, _, rfl, ite2 (fun _ => ?_) (fun _ => ⟨tx1, rfl, Same.refl _, c1, by omega⟩)⟩
      refine ⟨_, rfl, _, rfl, p, _, 0, .str l, rfl, rfl, SqL.of M6.at_, rfl, ?_⟩
      have lcat : (tx1 ++ l).length = tx1.length + l.length := len_app tx1 l
      have lm : (Txt.mul (tx1 ++ l) (12 : Nat)).length ≤ 20000 := by rw [mul_len]; omega
      refine ⟨_, _, rfl, rfl, Nat.le_trans (show _ ≤ 100 by omega) (by decide), _, _, rfl, rfl, mulOk (q := 12) (by omega) (by decide), _, rfl, aH, _, _, _, rfl, rfl, SqL.of hH6, row_at (j := 2) ed2, _, _, rfl, rfl, _, rfl, _, rfl, Nat.le_trans lm (by decide), ?_⟩
      rw [show (8 : Int) + (d2 : Int) = ((8 + d2 : Nat) : Int) by omega]
      exact ⟨_, rfl, Same.refl _, fun c m => app_chars c1 c (mul_chars (q := 12) c (cut_chars c m)), by rw [cut_len]; omega⟩
    rintro σ' H7 ⟨tx2, rfl, s67, c2, lc2⟩
    have M7 := M6.mono s67
    have s7 := s6.trans s67
    have hH7 := s67 _ _ hH6
    have sz2 : tx2.length ≤ sizeLine := Nat.le_trans lc2 (by decide)
    refine ⟨_, rfl, tx2, rfl, sz2, _, _, rfl, rfl, _, rfl, by omega, by omega, fun Dp nDp => lc_range (lo := 0) (n := ((tx2.length : Int) + 2).toNat) (fun i H' => Same H7 H' ∧ H' Dp = some (.lst (((List.range i).map fun (j : Nat) => (j : Int)).map V.int))) ⟨same_new nDp, upd_same⟩ ?_ ?_⟩
    · rintro i H8 hi ⟨s8, hD8⟩
      refine ⟨rfl, ?_⟩
      refine ⟨_, rfl, _, hD8, ?_, same_mut s8 nDp, ?_⟩
      · rw [List.length_map, List.length_map, List.length_range]
        exact Nat.lt_of_le_of_lt (show i ≤ 100 by omega) (by decide)
      · rw [upd_same, List.range_succ, List.map_append, List.map_append, Int.zero_add] <;> rfl
    rintro H8 ⟨s78, hD8⟩
    have M8 := M7.mono s78
    have s8 := s7.trans s78
    have hH8 := s78 _ _ hH7
    dsimp only [gName]
    refine ⟨show 3 ≤ sizeLine by decide, fun u2 n2 => ?_⟩
    have t2 := same_new (o := HO.lst [V.int 1, V.int 2, V.int 3]) n2
    obtain ⟨pt, ppt, ept⟩ : ∃ pt : Nat, 1 ≤ pt ∧ atI [V.int 1, V.int 2, V.int 3] ((if decide ((2 : Int) < (tx2.length : Int)) = true then 1 else 0) + (if decide ((4 : Int) < (tx2.length : Int)) = true then 1 else 0)) = some (.int (pt : Int)) := by
      split <;> split
      · exact ⟨3, by omega, rfl⟩
      · exact ⟨2, by omega, rfl⟩
      · exact ⟨2, by omega, rfl⟩
      · exact ⟨1, by omega, rfl⟩
    refine ⟨_, rfl, tx2, rfl, sz2, _, _, rfl, rfl, .inr ⟨_, rfl, ?_⟩⟩
    refine ⟨_, rfl, tx2, rfl, sz2, _, _, rfl, rfl, .inr ⟨_, rfl, _, _, rfl, rfl, u2, _, _, .int (pt : Int), rfl, rfl, SqL.of upd_same, ept, ?_⟩⟩
    have M9 := M8.mono t2
    have s9 := s8.trans t2
    have hH9 := t2 _ _ hH8
    have hD9 := t2 _ _ hD8
    dsimp only [gName]
    show (C8.tCut _ _) _ _ (upd H8 u2 (.lst [V.int 1, V.int 2, V.int 3]))
    generalize upd H8 u2 (.lst [V.int 1, V.int 2, V.int 3]) = H9 at M9 s9 hH9 hD9 ⊢
    clear t2 n2
    refine ⟨fun σ' H' => ∃ (tx : PySem.Str) (aP : Addr) (ps : List Int) (pt : Nat), σ' = [some (.ref sc), some (.ref aH), some (.ref p), some (.str tx), some (.ref aP), some (.int (pt : Int)), none, none, none, none, none, none, none, none, none, none, none, none] ∧ Same H9 H' ∧ TxtOk l tx ∧ H' aP = some (.lst (ps.map V.int)) ∧ (∀ x ∈ ps, 0 ≤ x ∧ x ≤ (tx.length : Int) + 1) ∧ 1 ≤ pt, ?_, ?_⟩
    · refine ⟨_, rfl, aH, _, _, _, rfl, rfl, SqL.of hH9, row_at (j := 4) ed4, rfl, _, rfl, ite2 (fun _ => ?_) (fun _ => ⟨tx2, Dp, _, pt, rfl, Same.refl _, ⟨c2, by omega⟩, hD9, fun x mx => ?_, ppt⟩)⟩
      · refine ⟨_, rfl, _, rfl, p, _, 0, .str l, rfl, rfl, SqL.of M9.at_, rfl, ?_⟩
        have lcat : (tx2 ++ l).length = tx2.length + l.length := len_app tx2 l
        have lm : (Txt.mul (tx2 ++ l) (400 : Nat)).length ≤ 20000 := by rw [mul_len]; omega
        have lm2 : 400 ≤ (Txt.mul (tx2 ++ l) (400 : Nat)).length := by rw [mul_len]; omega
        refine ⟨_, _, rfl, rfl, Nat.le_trans (show _ ≤ 100 by omega) (by decide), _, _, rfl, rfl, mulOk (q := 400) (by omega) (by decide), 400, rfl, _, rfl, Nat.le_trans lm (by decide), ?_⟩
        dsimp only [gName]
        have lc3 : (cutS (Txt.mul (tx2 ++ l) (400 : Nat)) none (some (400 : Nat))).length = 400 := by rw [cut_len]; omega
        have c3 : TxtOk l (cutS (Txt.mul (tx2 ++ l) (400 : Nat)) none (some (400 : Nat))) := ⟨fun c m => app_chars c2 c (mul_chars (q := 400) c (cut_chars (u := 400) c m)), by omega⟩
        refine ⟨_, rfl, aH, _, _, _, rfl, rfl, SqL.of hH9, row_at (j := 5) ed5, show 6 ≤ sizeLine by decide, fun u3 n3 => ?_⟩
        refine ⟨_, u3, [0, 1, (d5 : Int), 399, 400, 401], 3, rfl, same_new n3, c3, upd_same, fun x mx => ?_, by omega⟩
        have lc3 : ((cutS (Txt.mul (tx2 ++ l) (400 : Nat)) none (some (400 : Nat))).length : Int) = 400 := by rw [lc3] <;> rfl
        rw [show (some (400 : Int)) = some ((400 : Nat) : Int) from rfl]
        rw [show ((400 : Int)) = ((400 : Nat) : Int) from rfl] at *
        simp only [List.mem_cons, List.not_mem_nil, or_false] at mx
        rcases mx with rfl | rfl | rfl | rfl | rfl | rfl <;> omega
      · obtain ⟨j, mj, rfl⟩ := List.mem_map.mp mx
        have := List.mem_range.mp mj
        omega
    rintro σ' HA ⟨tx, aP, ps, pt', rfl, s9A, hT, hP, okP, ppt'⟩
    have MA := M9.mono s9A
    have sA := s9.trans s9A
    have hHA := s9A _ _ hH9
    have fewB := MA.few
    refine ⟨_, rfl, p, _, 2, .ref aR, rfl, rfl, SqL.of MA.at_, rfl, aR, B, rfl, SqL.of MA.rs, MA.kept, by omega, MA.nd, fun d HB sAB hTab => ?_⟩
    have MB := MA.mono sAB
    dsimp only [gName]
    refine ⟨_, rfl, p, _, 0, .str l, rfl, rfl, SqL.of MB.at_, rfl, _, rfl, p, _, 1, .int n, rfl, rfl, SqL.of MB.at_, rfl, _, rfl, p, _, 2, .ref aR, rfl, rfl, SqL.of MB.at_, rfl, _, rfl, p, _, 3, .ref aY, rfl, rfl, SqL.of MB.at_, rfl, fun x dx nx ndx nex => ?_⟩
    have rg : Right K HB l n aR aY true true (asTup B) ys := right_kept MB.al MB.n1 MB.n5 MB.rs MB.kept MB.ok (by omega) MB.hy MB.yok MB.lys
    refine ⟨x, dx, l, n, aR, aY, true, true, asTup B, ys, rfl, upd_same, rg.mono (made_new nx ndx), fun HC oC hm => ⟨rfl, ?_⟩⟩
    have sBC : Same HB HC := made_same nx ndx oC
    rw [asTup_rs] at hm
    have plB : Pl K HC CM x l n (B.map (·.2)) ys := by
      refine ⟨hm, ?_, ?_, fun r mr => ?_⟩
      · rw [List.map_map]
        exact MB.nd
      · rw [List.length_map]
        omega
      · obtain ⟨q, mq, rfl⟩ := List.mem_map.mp mr
        exact MB.ok q mq
    have MC := MB.mono sBC
    dsimp only [gName]
    refine ⟨show 1 ≤ sizeLine by decide, fun u4 n4 => ?_⟩
    have t4 := same_new (o := HO.lst [V.str nil0]) n4
    have MC4 := MC.mono t4
    refine ⟨_, rfl, p, _, 2, .ref aR, rfl, rfl, SqL.of MC4.at_, rfl, aR, B, rfl, SqL.of MC4.rs, MC4.kept, by omega, fun aK HD s4D hK => ?_⟩
    have ls := symsL_len (B.map (·.2))
    rw [List.length_map] at ls
    refine ⟨u4, aK, _, _, rfl, rfl, s4D _ _ upd_same, hK, ?_, fun aT nT => ?_⟩
    · rw [List.length_map]
      exact Nat.le_trans (show _ ≤ 10000 by show 1 + _ ≤ _; omega) (by decide)
    have tT := same_new (o := HO.lst ([V.str nil0] ++ (symsL (B.map (·.2))).map V.str)) nT
    have sCE := (t4.trans s4D).trans tT
    have sAE := (sAB.trans sBC).trans sCE
    dsimp only [gName]
    exact kE _ (by exact fun H' => k H') _ p aR aY d x aH aP aT l tx n B ys Tp head ps pt' _ _ _ _ _ _ _ _ _ _ ⟨MA.mono sAE, few, plB.mono sCE, hT, hTab.mono (sBC.trans sCE), sAE _ _ hHA, hDg, sAE _ _ hP, okP, upd_same⟩ ppt'
end
end Mk

set_option Elab.async false
set_option linter.unusedVariables false
set_option maxRecDepth 100000
set_option maxHeartbeats 4000000
namespace Mk
open PySem L2 Pk
/-- the cells of the walk: five lists and a dict, all its own -/
structure Cells (H0 : Hp) (S aM aH aS aO aD : Addr) : Prop where
  f1 : H0 S = none
  f2 : H0 aM = none
  f3 : H0 aH = none
  f4 : H0 aS = none
  f5 : H0 aO = none
  f6 : H0 aD = none
  n12 : S ≠ aM
  n13 : S ≠ aH
  n14 : S ≠ aS
  n15 : S ≠ aO
  n23 : aM ≠ aH
  n24 : aM ≠ aS
  n25 : aM ≠ aO
  n34 : aH ≠ aS
  n35 : aH ≠ aO
  n45 : aS ≠ aO
/-- what stands in them: as, the surfaces met; es, the open ones: entry, surface, time -/
structure WX (rs : List Rl) (t : PySem.Str) (s : Std) (H0 H : Hp) (S aM aH aS aO aD : Addr) (st : List PySem.Str) (as : List (Addr × List Key)) (hs : List Int) (sl : List PySem.Str) (es : List (Addr × Addr × Nat)) (kvs : List (List Key × V)) : Prop where
  same : Same H0 H
  Ss : H S = some (.lst (st.map V.str))
  M : H aM = some (.lst (as.map fun a => V.ref a.1))
  Hh : H aH = some (.lst (hs.map V.int))
  A : H aS = some (.lst (sl.map V.str))
  O : H aO = some (.lst (es.map fun e => V.ref e.1))
  D : H aD = some (.dT kvs)
  sur : ∀ a ∈ as, H a.1 = some (.tup (a.2.map kV))
  ent : ∀ e ∈ es, H e.1 = some (.lst [.ref e.2.1, .int (htN rs t s e.2.2)]) ∧ H e.2.1 = some (.tup ((keyN rs t s e.2.2).map kV)) ∧ e.1 ≠ S ∧ e.1 ≠ aM ∧ e.1 ≠ aH ∧ e.1 ≠ aS ∧ e.1 ≠ aO
section
variable {rs : List Rl} {t : PySem.Str} {s : Std} {H0 H H' : Hp} {S aM aH aS aO aD : Addr} {st : List PySem.Str} {as : List (Addr × List Key)} {hs : List Int} {sl : List PySem.Str} {es : List (Addr × Addr × Nat)} {kvs : List (List Key × V)}
theorem WX.mono (h : WX rs t s H0 H S aM aH aS aO aD st as hs sl es kvs) (e : Same H H') : WX rs t s H0 H' S aM aH aS aO aD st as hs sl es kvs :=
  ⟨h.same.trans e, e _ _ h.Ss, e _ _ h.M, e _ _ h.Hh, e _ _ h.A, e _ _ h.O, e _ _ h.D, fun a m => e _ _ (h.sur a m), fun x m => ⟨e _ _ (h.ent x m).1, e _ _ (h.ent x m).2.1, (h.ent x m).2.2⟩⟩
theorem lst_ne_tup {H : Hp} {a b : Addr} {xs ys : List V} (h1 : H a = some (.tup xs)) (h2 : H b = some (.lst ys)) : a ≠ b := ne_of h1 h2 (by intro q; cases q)
theorem lst_ne_dT {H : Hp} {a b : Addr} {xs : List V} {k : List (List Key × V)} (h1 : H a = some (.lst xs)) (h2 : H b = some (.dT k)) : a ≠ b := ne_of h1 h2 (by intro q; cases q)
theorem tup_ne_dT {H : Hp} {a b : Addr} {xs : List V} {k : List (List Key × V)} (h1 : H a = some (.tup xs)) (h2 : H b = some (.dT k)) : a ≠ b := ne_of h1 h2 (by intro q; cases q)
theorem WX.putS (c : Cells H0 S aM aH aS aO aD) (h : WX rs t s H0 H S aM aH aS aO aD st as hs sl es kvs) (st' : List PySem.Str) : WX rs t s H0 (upd H S (.lst (st'.map V.str))) S aM aH aS aO aD st' as hs sl es kvs where
  same := same_mut h.same c.f1
  Ss := upd_same
  M := by rw [upd_ne (Ne.symm c.n12)]; exact h.M
  Hh := by rw [upd_ne (Ne.symm c.n13)]; exact h.Hh
  A := by rw [upd_ne (Ne.symm c.n14)]; exact h.A
  O := by rw [upd_ne (Ne.symm c.n15)]; exact h.O
  D := by rw [upd_ne (Ne.symm (lst_ne_dT h.Ss h.D))]; exact h.D
  sur := fun a m => by rw [upd_ne (lst_ne_tup (h.sur a m) h.Ss)]; exact h.sur a m
  ent := fun e m => by
    obtain ⟨h1, h2, h3⟩ := h.ent e m
    exact ⟨by rw [upd_ne h3.1]; exact h1, by rw [upd_ne (lst_ne_tup h2 h.Ss)]; exact h2, h3⟩
theorem WX.putM (c : Cells H0 S aM aH aS aO aD) (h : WX rs t s H0 H S aM aH aS aO aD st as hs sl es kvs) {q : Addr} {k : List Key} (hq : H q = some (.tup (k.map kV))) : WX rs t s H0 (upd H aM (.lst ((as ++ [(q, k)]).map fun a => V.ref a.1))) S aM aH aS aO aD st (as ++ [(q, k)]) hs sl es kvs where
  same := same_mut h.same c.f2
  Ss := by rw [upd_ne c.n12]; exact h.Ss
  M := upd_same
  Hh := by rw [upd_ne (Ne.symm c.n23)]; exact h.Hh
  A := by rw [upd_ne (Ne.symm c.n24)]; exact h.A
  O := by rw [upd_ne (Ne.symm c.n25)]; exact h.O
  D := by rw [upd_ne (Ne.symm (lst_ne_dT h.M h.D))]; exact h.D
  sur := fun a m => by
    rcases List.mem_append.mp m with m | m
    · rw [upd_ne (lst_ne_tup (h.sur a m) h.M)]; exact h.sur a m
    · rw [List.mem_singleton.mp m, upd_ne (lst_ne_tup hq h.M)]; exact hq
  ent := fun e m => by
    obtain ⟨h1, h2, h3⟩ := h.ent e m
    exact ⟨by rw [upd_ne h3.2.1]; exact h1, by rw [upd_ne (lst_ne_tup h2 h.M)]; exact h2, h3⟩
theorem WX.putH (c : Cells H0 S aM aH aS aO aD) (h : WX rs t s H0 H S aM aH aS aO aD st as hs sl es kvs) (hs' : List Int) : WX rs t s H0 (upd H aH (.lst (hs'.map V.int))) S aM aH aS aO aD st as hs' sl es kvs where
  same := same_mut h.same c.f3
  Ss := by rw [upd_ne c.n13]; exact h.Ss
  M := by rw [upd_ne c.n23]; exact h.M
  Hh := upd_same
  A := by rw [upd_ne (Ne.symm c.n34)]; exact h.A
  O := by rw [upd_ne (Ne.symm c.n35)]; exact h.O
  D := by rw [upd_ne (Ne.symm (lst_ne_dT h.Hh h.D))]; exact h.D
  sur := fun a m => by rw [upd_ne (lst_ne_tup (h.sur a m) h.Hh)]; exact h.sur a m
  ent := fun e m => by
    obtain ⟨h1, h2, h3⟩ := h.ent e m
    exact ⟨by rw [upd_ne h3.2.2.1]; exact h1, by rw [upd_ne (lst_ne_tup h2 h.Hh)]; exact h2, h3⟩
theorem WX.putA (c : Cells H0 S aM aH aS aO aD) (h : WX rs t s H0 H S aM aH aS aO aD st as hs sl es kvs) (sl' : List PySem.Str) : WX rs t s H0 (upd H aS (.lst (sl'.map V.str))) S aM aH aS aO aD st as hs sl' es kvs where
  same := same_mut h.same c.f4
  Ss := by rw [upd_ne c.n14]; exact h.Ss
  M := by rw [upd_ne c.n24]; exact h.M
  Hh := by rw [upd_ne c.n34]; exact h.Hh
  A := upd_same
  O := by rw [upd_ne (Ne.symm c.n45)]; exact h.O
  D := by rw [upd_ne (Ne.symm (lst_ne_dT h.A h.D))]; exact h.D
  sur := fun a m => by rw [upd_ne (lst_ne_tup (h.sur a m) h.A)]; exact h.sur a m
  ent := fun e m => by
    obtain ⟨h1, h2, h3⟩ := h.ent e m
    exact ⟨by rw [upd_ne h3.2.2.2.1]; exact h1, by rw [upd_ne (lst_ne_tup h2 h.A)]; exact h2, h3⟩
theorem WX.putO (c : Cells H0 S aM aH aS aO aD) (h : WX rs t s H0 H S aM aH aS aO aD st as hs sl es kvs) {es' : List (Addr × Addr × Nat)} (he : ∀ e ∈ es', H e.1 = some (.lst [.ref e.2.1, .int (htN rs t s e.2.2)]) ∧ H e.2.1 = some (.tup ((keyN rs t s e.2.2).map kV)) ∧ e.1 ≠ S ∧ e.1 ≠ aM ∧ e.1 ≠ aH ∧ e.1 ≠ aS ∧ e.1 ≠ aO) :
    WX rs t s H0 (upd H aO (.lst (es'.map fun e => V.ref e.1))) S aM aH aS aO aD st as hs sl es' kvs where
  same := same_mut h.same c.f5
  Ss := by rw [upd_ne c.n15]; exact h.Ss
  M := by rw [upd_ne c.n25]; exact h.M
  Hh := by rw [upd_ne c.n35]; exact h.Hh
  A := by rw [upd_ne c.n45]; exact h.A
  O := upd_same
  D := by rw [upd_ne (Ne.symm (lst_ne_dT h.O h.D))]; exact h.D
  sur := fun a m => by rw [upd_ne (lst_ne_tup (h.sur a m) h.O)]; exact h.sur a m
  ent := fun e m => by
    obtain ⟨h1, h2, h3⟩ := he e m
    exact ⟨by rw [upd_ne h3.2.2.2.2]; exact h1, by rw [upd_ne (lst_ne_tup h2 h.O)]; exact h2, h3⟩
theorem WX.putD (c : Cells H0 S aM aH aS aO aD) (h : WX rs t s H0 H S aM aH aS aO aD st as hs sl es kvs) (kvs' : List (List Key × V)) : WX rs t s H0 (upd H aD (.dT kvs')) S aM aH aS aO aD st as hs sl es kvs' where
  same := same_mut h.same c.f6
  Ss := by rw [upd_ne (lst_ne_dT h.Ss h.D)]; exact h.Ss
  M := by rw [upd_ne (lst_ne_dT h.M h.D)]; exact h.M
  Hh := by rw [upd_ne (lst_ne_dT h.Hh h.D)]; exact h.Hh
  A := by rw [upd_ne (lst_ne_dT h.A h.D)]; exact h.A
  O := by rw [upd_ne (lst_ne_dT h.O h.D)]; exact h.O
  D := upd_same
  sur := fun a m => by rw [upd_ne (tup_ne_dT (h.sur a m) h.D)]; exact h.sur a m
  ent := fun e m => by
    obtain ⟨h1, h2, h3⟩ := h.ent e m
    exact ⟨by rw [upd_ne (lst_ne_dT h1 h.D)]; exact h1, by rw [upd_ne (tup_ne_dT h2 h.D)]; exact h2, h3⟩
end
end Mk

set_option Elab.async false
set_option linter.unusedVariables false
set_option maxRecDepth 100000
set_option maxHeartbeats 16000000
namespace Mk
open PySem L2 Pk
abbrev nWalk : List PySem.Str := ["table", "text", "surface", "limit", "state", "place", "stack", "base", "met", "heights", "said", "opened", "since", "turn", "act", "here", "height", "k", "gone"]
theorem scWalk : FnScope nWalk ["table", "text", "surface", "limit"] (defScope sWalk) := ⟨rfl, rfl, rfl, by decide +kernel, rfl, by decide +kernel, by decide +kernel⟩
theorem ne_none {H : Hp} {a b : Addr} {o : HO} (h : H a = some o) (n : H b = none) : a ≠ b := fun e => by rw [e, n] at h; cases h
theorem surf_kv {x : Std} : (surfK x).map kV = [V.int x.q, V.int x.p, V.str (topOf x.st)] := rfl
/-- what is told of the cells -/
theorem WX.walk {K : PySem.W.Frag} {rs : List Rl} {t : PySem.Str} {s z : Std} {H0 H : Hp} {S aM aH aS aO aD y : Addr} {st : List PySem.Str} {as : List (Addr × List Key)} {es : List (Addr × Addr × Nat)} {kvs : List (List Key × V)} {m k : Nat} {wd : PySem.Str} {f : Int} {ld : V}
    (h : WX rs t s H0 H S aM aH aS aO aD st as ((List.range (m + 1)).map (htN rs t s)) (sd rs t s k) es kvs) (ha : as.map (·.2) = (List.range (m + 1)).map (keyN rs t s)) (hz : nth rs t s m = some z) (ny : H y = none) :
    WalkAt K (upd H y (.lst [.str wd, .ref aM, .ref aH, .ref aS, .int f, ld])) y rs t s wd m k f ld := by
  have ty := same_new (o := HO.lst [V.str wd, V.ref aM, V.ref aH, V.ref aS, V.int f, ld]) ny
  have la : as.length = m + 1 := by
    have e := congrArg List.length ha
    rw [List.length_map, List.length_map, List.length_range] at e
    exact e
  refine ⟨aM, aH, aS, as.map (·.1), upd_same, ?_, ⟨by rw [List.length_map]; exact la, fun j hj => ?_⟩, ty _ _ h.Hh, ty _ _ h.A⟩
  · rw [List.map_map]
    exact ty _ _ h.M
  · have lj : j < as.length := by omega
    obtain ⟨x, hx⟩ := nth_some hz hj
    have ea : as[j]? = some as[j] := List.getElem?_eq_getElem lj
    have e2 : (as[j]).2 = surfK x := by
      have e : (as.map (·.2))[j]? = ((List.range (m + 1)).map (keyN rs t s))[j]? := by rw [ha]
      rw [List.getElem?_map, List.getElem?_map, ea, List.getElem?_range (by omega)] at e
      have e : as[j].2 = keyN rs t s j := Option.some.inj e
      rw [e, keyN_of hx]
    have hs := h.sur as[j] (List.getElem_mem lj)
    rw [e2, surf_kv] at hs
    exact ⟨as[j].1, x, by rw [List.getElem?_map, ea] <;> rfl, hx, .inl (.inl (ty _ _ hs))⟩
section
variable {P : Program} {w : World} {K : PySem.W.Frag} {mg : PySem.Str → Option Value} {base : Heap}
def spTopL (K : PySem.W.Frag) : Sp := fun vs H Q _ => ∃ (q : Addr) (st : List PySem.Str), vs = [.ref q] ∧ SqL K H q (st.map V.str) ∧ Q (.str (topOf st)) H
theorem ok_topL {f : Addr} {fd : FuncData} (F : Fun K "_law_top" "_law_top" sTopOf f fd) (T : TM mg) : FnOk P w K mg base CX0 1 f fd ["stack"] (spTopL K) := by
  refine F.ok scTopOf (fun vs H Q E h => ?_) (fun cdv A outer s H vs Q E hr h => ?_)
  · obtain ⟨q, st, rfl, _⟩ := h
    rfl
  · obtain ⟨q, st, rfl, hq, k⟩ := h
    refine ⟨_, (pss_cons (ps_if (pt_cmpR op_eq (pe_callB call_len_seq (by rfl) T.len PySem.boot_len (pa_cons (pv 0) pa_nil)) pe_int (nomark _))
        (pss_one (ps_ret pe_str))
        pss_nil)
      (pss_one (ps_ret (pe_ix ix_list (pv 0) (pe_op op_sub (pe_callB call_len_seq (by rfl) T.len PySem.boot_len (pa_cons (pv 0) pa_nil)) pe_int) fun _ _ => rfl)))), ?_⟩
    refine ⟨_, rfl, q, _, rfl, .inl hq, rfl, _, rfl, ite2 (fun c => ?_) (fun c => ?_)⟩
    · have e := V.int.inj (of_decide_eq_true c)
      have e2 : st = [] := by
        rw [List.length_map] at e
        exact List.eq_nil_of_length_eq_zero (by omega)
      rw [e2] at k
      exact k
    · have ne : st ≠ [] := fun e => c (decide_eq_true (by rw [e] <;> rfl))
      exact ⟨_, rfl, _, rfl, q, _, rfl, .inl hq, _, _, rfl, rfl, q, _, _, _, rfl, rfl, hq, top_at ne, k⟩
/-! _law_walk -/
theorem ok_walk {f : Addr} {fd : FuncData} (F : Fun K "_law_walk" "_law_walk" sWalk f fd) (T : TM mg) (Gsign : Got P w K mg base "_law_sign" 1 ["text", "place"] spSignAt) (Gtop : Got P w K mg base "_law_top" 1 ["stack"] (spTopL K)) : FnOk P w K mg base CX0 2 f fd ["table", "text", "surface", "limit"] (spWalk K) := by
  refine F.ok scWalk (fun vs H Q E h => ?_) (fun cdv A outer s H vs Q E hr h => ?_)
  · obtain ⟨d, p, t, l, n, lim, rs, q0, p0, tp, rfl, _⟩ := h
    rfl
  · obtain ⟨d, p, t, l, n, lim, rs, q0, p0, tp, rfl, hT, okR, lt, ll, hp, ok0, k⟩ := h
    have nd := scWalk.nd
    have h1 := hr
    have hu := hu_of hr
    refine ⟨_, (pss_cons (ps_set (i := 4) nd rfl (Or.inl rfl) (pe_ix ix_tup (pv 2) pe_int fun _ _ => rfl))
      (pss_cons (ps_set (i := 5) nd rfl (Or.inl rfl) (pe_ix ix_tup (pv 2) pe_int fun _ _ => rfl))
      (pss_cons (ps_set (i := 6) nd rfl (Or.inl rfl) (pe_lst pa_nil))
      (C8.pss_cut (ps_if (pt_cmpR op_ne (pe_ix ix_tup (pv 2) pe_int fun _ _ => rfl) pe_str (nomark _))
        (pss_one (ps_set (i := 6) nd rfl (Or.inl rfl) (pe_lst (pa_cons (pe_ix ix_tup (pv 2) pe_int fun _ _ => rfl) pa_nil))))
        pss_nil)
      (pss_cons (ps_set (i := 7) nd rfl (Or.inl rfl) (pe_callB call_len_seq (by rfl) T.len PySem.boot_len (pa_cons (pv 6) pa_nil)))
      (pss_cons (ps_set (i := 8) nd rfl (Or.inl rfl) (pe_lst (pa_cons (pv 2) pa_nil)))
      (pss_cons (ps_set (i := 9) nd rfl (Or.inl rfl) (pe_lst (pa_cons pe_int pa_nil)))
      (pss_cons (ps_set (i := 10) nd rfl (Or.inl rfl) (pe_lst pa_nil))
      (pss_cons (ps_set (i := 11) nd rfl (Or.inl rfl) (pe_lst (pa_cons (pe_lst (pa_cons (pv 2) (pa_cons pe_int pa_nil))) pa_nil)))
      (pss_cons (ps_set (i := 12) nd rfl (Or.inl rfl) (pe_dispT hu (pv 2) pe_int))
      (C8.pss_cut (ps_for PassesOwn.never rfl (pi_range1 (by rfl) T.range (pa_cons (pe_op op_add (pv 3) pe_int) pa_nil)) (pg_name (i := 13) nd rfl (Or.inl rfl))
        (pss_cons (ps_set (i := 14) nd rfl (Or.inl rfl) (pe_dget1 hu (pv 0) (pe_tup (pa_cons (pv 4) (pa_cons (pe_got Gsign h1 (by rfl) (pa_cons (pv 1) (pa_cons (pv 5) pa_nil))) (pa_cons (pe_got Gtop h1 (by rfl) (pa_cons (pv 6) pa_nil)) pa_nil)))) ⟨rfl, rfl, rfl, rfl⟩))
        (pss_cons (ps_if (pt_cmp (pc_isN (pv 14)))
          (pss_one (ps_ret (pe_lst (pa_cons pe_str (pa_cons (pv 8) (pa_cons (pv 9) (pa_cons (pv 10) (pa_cons (pe_un un_neg pe_int) (pa_cons pe_non pa_nil)))))))))
          pss_nil)
        (pss_cons (ps_if (pt_cmpR op_eq (pv 13) (pv 3) (nomark _))
          (pss_one (ps_ret (pe_lst (pa_cons pe_str (pa_cons (pv 8) (pa_cons (pv 9) (pa_cons (pv 10) (pa_cons (pe_un un_neg pe_int) (pa_cons pe_non pa_nil)))))))))
          pss_nil)
        (pss_cons (ps_set (i := 4) nd rfl (Or.inl rfl) (pe_ix ix_tup (pv 14) pe_int fun _ _ => rfl))
        (pss_cons (ps_set (i := 5) nd rfl (Or.inl rfl) (pe_op op_add (pv 5) (pe_ix ix_tup (pv 14) pe_int fun _ _ => rfl)))
        (pss_cons (ps_expr (pe_bm PySem.F.plainAttrs_list PySem.F.slot_list_append PySem.F.type_list_append mt_append (pv 10) (pa_cons (pe_ix ix_tup (pv 14) pe_int fun _ _ => rfl) pa_nil)))
        (C8.pss_cut (ps_if (PW.pt (pw_or (pt_cmpR op_eq (pe_ix ix_tup (pv 14) pe_int fun _ _ => rfl) pe_str (nomark _)) (pw_or1 (pt_cmpR op_eq (pe_ix ix_tup (pv 14) pe_int fun _ _ => rfl) pe_str (nomark _)))))
          (pss_one (ps_expr (pe_bm0 PySem.F.plainAttrs_list PySem.F.slot_list_pop PySem.F.type_list_pop mt_pop (pv 6))))
          pss_nil)
        (C8.pss_cut (ps_if (PW.pt (pw_or (pt_cmpR op_eq (pe_ix ix_tup (pv 14) pe_int fun _ _ => rfl) pe_str (nomark _)) (pw_or1 (pt_cmpR op_eq (pe_ix ix_tup (pv 14) pe_int fun _ _ => rfl) pe_str (nomark _)))))
          (pss_one (ps_expr (pe_bm PySem.F.plainAttrs_list PySem.F.slot_list_append PySem.F.type_list_append mt_append (pv 6) (pa_cons (pe_ix ix_tup (pv 14) pe_int fun _ _ => rfl) pa_nil))))
          pss_nil)
        (pss_cons (ps_if (PW.pt (pw_and (pt_cmpR op_eq (pv 7) pe_int (nomark _)) (pw_and1 (pt_cmpR op_eq (pe_callB call_len_seq (by rfl) T.len PySem.boot_len (pa_cons (pv 6) pa_nil)) pe_int (nomark _)))))
          (pss_one (ps_ret (pe_lst (pa_cons pe_str (pa_cons (pv 8) (pa_cons (pv 9) (pa_cons (pv 10) (pa_cons (pe_un un_neg pe_int) (pa_cons (pe_tup (pa_cons (pv 4) (pa_cons (pv 5) pa_nil))) pa_nil)))))))))
          pss_nil)
        (pss_cons (ps_set (i := 15) nd rfl (Or.inl rfl) (pe_tup (pa_cons (pv 4) (pa_cons (pv 5) (pa_cons (pe_got Gtop h1 (by rfl) (pa_cons (pv 6) pa_nil)) pa_nil)))))
        (pss_cons (ps_set (i := 16) nd rfl (Or.inl rfl) (pe_op op_sub (pe_callB call_len_seq (by rfl) T.len PySem.boot_len (pa_cons (pv 6) pa_nil)) (pv 7)))
        (C8.pss_cut (ps_for PassesOwn.never rfl (pi_range1 (by rfl) T.range (pa_cons (pe_callB call_len_seq (by rfl) T.len PySem.boot_len (pa_cons (pv 11) pa_nil)) pa_nil)) (pg_name (i := 17) nd rfl (Or.inl rfl))
          (C8.pss_cut (ps_if (pt_cmpR op_le (pe_ix ix_list (pe_ix ix_list (pv 11) (pe_op op_sub (pe_callB call_len_seq (by rfl) T.len PySem.boot_len (pa_cons (pv 11) pa_nil)) pe_int) fun _ _ => rfl) pe_int fun _ _ => rfl) (pv 16) (nomark _))
            (pss_one ps_break)
            pss_nil)
          (pss_cons (ps_set (i := 18) nd rfl (Or.inl rfl) (pe_bm0 PySem.F.plainAttrs_list PySem.F.slot_list_pop PySem.F.type_list_pop mt_pop (pv 11)))
          (pss_one (ps_dput hu (pv 12) (pe_ix ix_list (pv 18) pe_int fun _ _ => rfl) (pe_un un_neg pe_int) rfl)))))
        (pss_cons (ps_expr (pe_bm PySem.F.plainAttrs_list PySem.F.slot_list_append PySem.F.type_list_append mt_append (pv 8) (pa_cons (pv 15) pa_nil)))
        (pss_cons (ps_expr (pe_bm PySem.F.plainAttrs_list PySem.F.slot_list_append PySem.F.type_list_append mt_append (pv 9) (pa_cons (pv 16) pa_nil)))
        (pss_cons (ps_if (pt_cmpR op_ge (pe_dget2 hu (pv 12) (pv 15) (pe_un un_neg pe_int) ⟨rfl, rfl, rfl, rfl⟩) pe_int (nomark _))
          (pss_one (ps_ret (pe_lst (pa_cons pe_str (pa_cons (pv 8) (pa_cons (pv 9) (pa_cons (pv 10) (pa_cons (pe_dget hu (pv 12) (pv 15) (fun _ _ => rfl)) (pa_cons pe_non pa_nil)))))))))
          pss_nil)
        (pss_cons (ps_expr (pe_bm PySem.F.plainAttrs_list PySem.F.slot_list_append PySem.F.type_list_append mt_append (pv 11) (pa_cons (pe_lst (pa_cons (pv 15) (pa_cons (pv 16) pa_nil))) pa_nil)))
        (pss_one (ps_dput hu (pv 12) (pv 15) (pe_op op_add (pv 13) pe_int) rfl)))))))))))))))))))
      (pss_one (ps_ret (pe_lst (pa_cons pe_str (pa_cons (pv 8) (pa_cons (pv 9) (pa_cons (pv 10) (pa_cons (pe_un un_neg pe_int) (pa_cons pe_non pa_nil)))))))))))))))))))), ?_⟩
    refine ⟨_, rfl, p, _, 0, .int q0, rfl, rfl, SqT.of hp, rfl, ?_⟩
    dsimp only [gName]
    refine ⟨_, rfl, p, _, 1, .int p0, rfl, rfl, SqT.of hp, rfl, ?_⟩
    dsimp only [gName]
    refine ⟨Nat.zero_le _, fun S0 nS0 => ?_⟩
    have tS0 := same_new (o := HO.lst []) nS0
    refine ⟨fun σ' H' => ∃ S : Addr, σ' = [some (.ref d), some (.str t), some (.ref p), some (.int (lim : Int)), some (.int q0), some (.int p0), some (.ref S), none, none, none, none, none, none, none, none, none, none, none, none] ∧ Same H H' ∧ H S = none ∧ H' S = some (.lst ((stackOf tp).map V.str)), ?_, ?_⟩
    · refine ⟨_, rfl, p, _, 2, .str tp, rfl, rfl, SqT.of (tS0 _ _ hp), rfl, rfl, _, rfl, ite2 (fun c => ?_) (fun c => ⟨S0, rfl, tS0, nS0, ?_⟩)⟩
      · refine ⟨_, rfl, p, _, 2, .str tp, rfl, rfl, SqT.of (tS0 _ _ hp), rfl, show 1 ≤ sizeLine by decide, fun S1 nS1 => ?_⟩
        have ne : tp ≠ nil0 := fun e => by
          rw [e] at c
          exact absurd c (by decide +kernel)
        exact ⟨S1, rfl, tS0.trans (same_new nS1), tS0.free nS1, by rw [stackOf_ne ne]; exact upd_same⟩
      · have e : tp = nil0 := by
          by_cases e : tp = nil0
          · exact e
          · exfalso
            exact c (by rw [decide_eq_false (fun h => e (V.str.inj h))] <;> rfl)
        rw [e, stackOf_nil]
        exact upd_same
    rintro σ' H1 ⟨S, rfl, s1, nS, hS1⟩
    refine ⟨_, rfl, S, _, rfl, .inl (SqL.of hS1), ?_⟩
    rw [List.length_map]
    dsimp only [gName]
    have hkey : (surfK ⟨q0, p0, stackOf tp⟩).map kV = [V.int q0, V.int p0, V.str tp] := by
      rw [surf_kv, top_stackOf]
    have tpN : tp ≠ nil0 → stackOf tp ≠ [] := fun e => by rw [stackOf_ne e]; exact List.cons_ne_nil _ _
    generalize hs0 : (⟨q0, p0, stackOf tp⟩ : Std) = s0 at k hkey
    have hst : stackOf tp = s0.st := by rw [← hs0]
    have hq0 : q0 = s0.q := by rw [← hs0]
    have hp0 : p0 = s0.p := by rw [← hs0]
    have ok1 : StdOk l n t (symsL rs) s0 := by rw [← hs0]; exact ok0
    rw [hst] at hS1 tpN ⊢
    have hp1 : H1 p = some (.tup ((surfK s0).map kV)) := by rw [hkey]; exact s1 _ _ hp
    refine ⟨_, rfl, show 1 ≤ sizeLine by decide, fun aM nM => ?_⟩
    have tM := same_new (o := HO.lst [V.ref p]) nM
    dsimp only [gName]
    refine ⟨show 1 ≤ sizeLine by decide, fun aH nH => ?_⟩
    have tH := same_new (o := HO.lst [V.int 0]) nH
    dsimp only [gName]
    refine ⟨Nat.zero_le _, fun aS nA => ?_⟩
    have tA := same_new (o := HO.lst []) nA
    dsimp only [gName]
    refine ⟨_, rfl, show 2 ≤ sizeLine by decide, fun e0 nE => ?_⟩
    have tE := same_new (o := HO.lst [V.ref p, V.int 0]) nE
    refine ⟨show 1 ≤ sizeLine by decide, fun aO nO => ?_⟩
    have tO := same_new (o := HO.lst [V.ref e0]) nO
    dsimp only [gName]
    intro aD nD
    have tD := same_new (o := HO.dT []) nD
    have s16 := (((((tM.trans tH).trans tA).trans tE).trans tO).trans tD)
    have key0 : keyN rs t s0 0 = surfK s0 := rfl
    have ht0 : htN rs t s0 0 = 0 := by
      rw [htN_of (z := s0) rfl]
      omega
    have cells : Cells H S aM aH aS aO aD := {
      f1 := nS
      f2 := s1.free nM
      f3 := (s1.trans tM).free nH
      f4 := ((s1.trans tM).trans tH).free nA
      f5 := ((((s1.trans tM).trans tH).trans tA).trans tE).free nO
      f6 := (((((s1.trans tM).trans tH).trans tA).trans tE).trans tO).free nD
      n12 := ne_none hS1 nM
      n13 := ne_none (tM _ _ hS1) nH
      n14 := ne_none ((tM.trans tH) _ _ hS1) nA
      n15 := ne_none ((((tM.trans tH).trans tA).trans tE) _ _ hS1) nO
      n23 := ne_none upd_same nH
      n24 := ne_none (tH _ _ upd_same) nA
      n25 := ne_none (((tH.trans tA).trans tE) _ _ upd_same) nO
      n34 := ne_none upd_same nA
      n35 := ne_none ((tA.trans tE) _ _ upd_same) nO
      n45 := ne_none (tE _ _ upd_same) nO }
    have x1 : e0 ≠ S := Ne.symm (ne_none (((tM.trans tH).trans tA) _ _ hS1) nE)
    have x2 : e0 ≠ aM := Ne.symm (ne_none ((tH.trans tA) _ _ upd_same) nE)
    have x3 : e0 ≠ aH := Ne.symm (ne_none (tA _ _ upd_same) nE)
    have x4 : e0 ≠ aS := Ne.symm (ne_none upd_same nE)
    have x5 : e0 ≠ aO := ne_none upd_same nO
    have W7 : WX rs t s0 H (upd (upd (upd (upd (upd (upd H1 aM (.lst [V.ref p])) aH (.lst [V.int 0])) aS (.lst [])) e0 (.lst [V.ref p, V.int 0])) aO (.lst [V.ref e0])) aD (.dT [])) S aM aH aS aO aD s0.st [(p, surfK s0)] [0] [] [(e0, p, 0)] [] := {
      same := s1.trans s16
      Ss := s16 _ _ hS1
      M := ((((tH.trans tA).trans tE).trans tO).trans tD) _ _ upd_same
      Hh := (((tA.trans tE).trans tO).trans tD) _ _ upd_same
      A := ((tE.trans tO).trans tD) _ _ upd_same
      O := tD _ _ upd_same
      D := upd_same
      sur := fun a m => by
        rw [List.mem_singleton.mp m]
        exact s16 _ _ hp1
      ent := fun e m => by
        rw [List.mem_singleton.mp m]
        refine ⟨?_, s16 _ _ hp1, x1, x2, x3, x4, x5⟩
        show _ = some (HO.lst [V.ref p, V.int (htN rs t s0 0)])
        rw [ht0]
        exact (tO.trans tD) _ _ upd_same }
    have W8 := W7.putD cells [(surfK s0, .int 0)]
    refine ⟨_, rfl, p, surfK s0, rfl, s16 _ _ hp1, upd_same, ?_⟩
    dsimp only [gName]
    show (C8.tCut _ _) _ _ (upd (upd (upd (upd (upd (upd (upd H1 aM (.lst [V.ref p])) aH (.lst [V.int 0])) aS (.lst [])) e0 (.lst [V.ref p, V.int 0])) aO (.lst [V.ref e0])) aD (.dT [])) aD (.dT [(surfK s0, .int 0)]))
    generalize upd (upd (upd (upd (upd (upd (upd H1 aM (.lst [V.ref p])) aH (.lst [V.int 0])) aS (.lst [])) e0 (.lst [V.ref p, V.int 0])) aO (.lst [V.ref e0])) aD (.dT [])) aD (.dT [(surfK s0, .int 0)]) = H8 at W8 ⊢
    clear W7 x1 x2 x3 x4 x5 s16 tM tH tA tE tO tD nM nH nA nE nO nD hp1 hS1 s1 nS tS0 nS0
    have hT0 := hT
    refine ⟨fun _ _ => False, ?_, fun _ _ h => h.elim⟩
    refine ⟨_, rfl, _, _, rfl, rfl, _, rfl, by omega, by omega, for_range (lo := 0) (n := ((lim : Int) + 1).toNat) (fun i σ H' => ∃ (z : Std) (as : List (Addr × List Key)) (es : List (Addr × Addr × Nat)) (kvs : List (List Key × V)) (e13 e14 e15 e16 e17 e18 : Option V), i ≤ lim ∧
        σ = [some (.ref d), some (.str t), some (.ref p), some (.int (lim : Int)), some (.int z.q), some (.int z.p), some (.ref S), some (.int (s0.st.length : Int)), some (.ref aM), some (.ref aH), some (.ref aS), some (.ref aO), some (.ref aD), e13, e14, e15, e16, e17, e18] ∧
        WX rs t s0 H H' S aM aH aS aO aD z.st as ((List.range (i + 1)).map (htN rs t s0)) (sd rs t s0 i) es kvs ∧ nth rs t s0 i = some z ∧ NoFall rs t s0 tp i ∧ as.map (·.2) = (List.range (i + 1)).map (keyN rs t s0) ∧ OpenOk rs t s0 (es.map (·.2.2)) i ∧ SinceOk rs t s0 (es.map (·.2.2)) kvs ∧ kvs.length + es.length ≤ 2 * (i + 1) ∧ es.length ≤ i + 1)
      ⟨s0, [(p, surfK s0)], [(e0, p, 0)], [(surfK s0, .int 0)], _, _, _, _, _, _, Nat.zero_le _, by rw [hq0, hp0] <;> rfl, ?_, rfl, ?_, rfl, ?_, ?_, by show 2 ≤ 2; exact Nat.le_refl _, Nat.le_refl _⟩ ?_ ?_⟩
    · have e : (List.range (0 + 1)).map (htN rs t s0) = [0] := by
        show [htN rs t s0 0] = [0]
        rw [ht0]
      rw [e]
      exact W8
    · intro j hj
      rw [Nat.le_zero.mp hj]
      exact ⟨s0, rfl, tpN⟩
    · refine ⟨List.pairwise_singleton _ _, fun a m => ?_⟩
      rw [List.mem_singleton.mp m]
      exact ⟨Nat.le_refl _, fun j h1 h2 => by rw [Nat.le_zero.mp h2]; exact Int.le_refl _⟩
    · intro kk v e
      by_cases c : surfK s0 = kk
      · rw [valV_pos c] at e
        cases e
        exact ⟨0, rfl, fun _ => ⟨0, List.mem_singleton.mpr rfl, rfl, c.symm⟩⟩
      · rw [valV_neg c] at e
        cases e
    · rintro i σ H2 hi ⟨z, as, es, kvs, e13, e14, e15, e16, e17, e18, il, rfl, W, hz, nf, has, hop, hsn, few, fewE⟩
      dsimp only [gName]
      have okz := nth_ok ok1 okR sym_known hz
      have lz := nth_len hz
      have ls0 : s0.st.length ≤ 1 := by
        rw [← hst]
        unfold stackOf
        split
        · exact Nat.zero_le _
        · exact Nat.le_refl _
      have hT2 := hT.mono W.same
      obtain ⟨kvsT, hdT, hE⟩ := hT2
      refine ⟨_, rfl, d, rfl, .inr ⟨kvsT, .inl hdT⟩, _, rfl, _, rfl, _, rfl, t, z.p, rfl, lt, okz.p.1, _, rfl, S, z.st, rfl, SqL.of W.Ss, show 3 ≤ sizeLine by decide, fun u nu => ?_⟩
      have tu := same_new (o := HO.tup [V.int z.q, V.str (signAt t z.p), V.str (topOf z.st)]) nu
      have hk : (upd H2 u (.tup [V.int z.q, V.str (signAt t z.p), V.str (topOf z.st)])) u = some (.tup ((keyOf t z).map kV)) := upd_same
      refine ⟨_, DGet.t (tu _ _ hdT) hk, ?_⟩
      have W3 := W.mono tu
      generalize upd H2 u (.tup [V.int z.q, V.str (signAt t z.p), V.str (topOf z.st)]) = H3 at tu hk W3 ⊢
      dsimp only [gName]
      rcases tab_get (k := keyOf t z) hE with ⟨ev, ef⟩ | ⟨ta, r, ev, ef, hta⟩
      · rw [ev]
        refine ⟨_, rfl, _, rfl, iteT ?_⟩
        refine ⟨_, rfl, _, rfl, _, rfl, 1, rfl, show 6 ≤ sizeLine by decide, fun y ny => ?_⟩
        exact k y _ (W3.same.trans (same_new ny)) (.inl ⟨i, z, W3.walk has hz ny, il, hz, ef, nf⟩)
      rw [ev]
      have ef : fit rs t z = some r := ef
      refine ⟨_, rfl, _, rfl, iteF ?_⟩
      refine ⟨_, rfl, _, rfl, rfl, _, rfl, ite2 (fun c => ?_) (fun c => ?_)⟩
      · have ei : i = lim := by
          have z := V.int.inj (of_decide_eq_true c)
          omega
        subst ei
        refine ⟨_, rfl, _, rfl, _, rfl, 1, rfl, show 6 ≤ sizeLine by decide, fun y ny => ?_⟩
        exact k y _ (W3.same.trans (same_new ny)) (.inr (.inr (.inl ⟨W3.walk has hz ny, nf, z, hz, fun h => by rw [ef] at h; cases h⟩)))
      have ni : i ≠ lim := fun e => c (decide_eq_true (by rw [e, Int.zero_add]))
      have hz1 := nth_step hz ef
      have mr := (find_some ef).1
      have ok2 := okR r mr
      have hta3 := tu _ _ hta
      dsimp only [tNext]
      refine ⟨_, rfl, ta, _, 0, .int r.af, rfl, rfl, SqT.of hta3, rfl, ?_⟩
      dsimp only [gName]
      refine ⟨_, rfl, _, rfl, ta, _, 1, .int r.mv, rfl, rfl, SqT.of hta3, rfl, _, _, rfl, rfl, ?_⟩
      dsimp only [gName]
      have lsd := sd_len hz
      refine ⟨_, rfl, .inl ⟨rfl, _, SqL.of W3.A⟩, _, rfl, ta, _, 4, .str r.sa, rfl, rfl, SqT.of hta3, rfl, aS, _, _, rfl, rfl, W3.A, by rw [List.length_map, lsd]; exact Nat.lt_of_le_of_lt (show i ≤ 20000 by omega) (by decide), ?_⟩
      have esd : (sd rs t s0 i).map V.str ++ [V.str r.sa] = (sd rs t s0 (i + 1)).map V.str := by rw [sd_step hz ef, List.map_append] <;> rfl
      rw [esd]
      have W4 := W3.putA cells (sd rs t s0 (i + 1))
      have hta4 : (upd H3 aS (.lst ((sd rs t s0 (i + 1)).map V.str))) ta = some (.tup (r.a5.map kV)) := by rw [upd_ne (lst_ne_tup hta3 W3.A)]; exact hta3
      generalize upd H3 aS (.lst ((sd rs t s0 (i + 1)).map V.str)) = H4 at W4 hta4 ⊢
      refine ⟨fun σ' H' => σ' = [some (.ref d), some (.str t), some (.ref p), some (.int (lim : Int)), some (.int r.af), some (.int (z.p + r.mv)), some (.ref S), some (.int (s0.st.length : Int)), some (.ref aM), some (.ref aH), some (.ref aS), some (.ref aO), some (.ref aD), some (.int (0 + (i : Int))), some (.ref ta), e15, e16, e17, e18] ∧ WX rs t s0 H H' S aM aH aS aO aD (cutS1 r z.st) as ((List.range (i + 1)).map (htN rs t s0)) (sd rs t s0 (i + 1)) es kvs ∧ H' ta = some (.tup (r.a5.map kV)), ?_, ?_⟩
      · have popIt : isPop r.de = true → (upd H4 S (.lst (z.st.map V.str).dropLast)) ta = some (.tup (r.a5.map kV)) ∧ WX rs t s0 H (upd H4 S (.lst (z.st.map V.str).dropLast)) S aM aH aS aO aD (cutS1 r z.st) as ((List.range (i + 1)).map (htN rs t s0)) (sd rs t s0 (i + 1)) es kvs := fun h => by
          have e : (z.st.map V.str).dropLast = (cutS1 r z.st).map V.str := by
            unfold cutS1
            rw [if_pos h, List.map_dropLast]
          rw [e]
          exact ⟨by rw [upd_ne (lst_ne_tup hta4 W4.Ss)]; exact hta4, W4.putS cells _⟩
        have posS : isPop r.de = true → 0 < z.st.length := fun h => List.length_pos_iff.mpr (pop_ne okR ef h)
        refine ⟨_, rfl, ta, _, 2, .str r.de, rfl, rfl, SqT.of hta4, rfl, rfl, _, rfl, ite2 (fun c => ?_) (fun c1 => ?_)⟩
        · have h : isPop r.de = true := by
            unfold isPop
            rw [V.str.inj (of_decide_eq_true c)]
            decide +kernel
          have ps := posS h
          exact ⟨_, rfl, .inl ⟨rfl, _, SqL.of W4.Ss⟩, S, _, _, rfl, rfl, W4.Ss, List.getElem?_eq_getElem (by rw [List.length_map]; omega), rfl, (popIt h).2, (popIt h).1⟩
        refine ⟨_, rfl, ta, _, 2, .str r.de, rfl, rfl, SqT.of hta4, rfl, rfl, _, rfl, ite2 (fun c => ?_) (fun c2 => ?_)⟩
        · have h : isPop r.de = true := by
            unfold isPop
            rw [V.str.inj (of_decide_eq_true c)]
            decide +kernel
          have ps := posS h
          exact ⟨_, rfl, .inl ⟨rfl, _, SqL.of W4.Ss⟩, S, _, _, rfl, rfl, W4.Ss, List.getElem?_eq_getElem (by rw [List.length_map]; omega), rfl, (popIt h).2, (popIt h).1⟩
        · have h : ¬ isPop r.de = true := fun h => by
            unfold isPop at h
            rw [Bool.or_eq_true, decide_eq_true_eq, decide_eq_true_eq] at h
            rcases h with h | h
            · exact c1 (decide_eq_true (by rw [h] <;> rfl))
            · exact c2 (decide_eq_true (by rw [h] <;> rfl))
          have e : cutS1 r z.st = z.st := if_neg h
          refine ⟨rfl, ?_, hta4⟩
          rw [e]
          exact W4
      rintro σ' H5 ⟨rfl, W5, hta5⟩
      refine ⟨fun σ' H' => σ' = [some (.ref d), some (.str t), some (.ref p), some (.int (lim : Int)), some (.int r.af), some (.int (z.p + r.mv)), some (.ref S), some (.int (s0.st.length : Int)), some (.ref aM), some (.ref aH), some (.ref aS), some (.ref aO), some (.ref aD), some (.int (0 + (i : Int))), some (.ref ta), e15, e16, e17, e18] ∧ WX rs t s0 H H' S aM aH aS aO aD ((next z r).st) as ((List.range (i + 1)).map (htN rs t s0)) (sd rs t s0 (i + 1)) es kvs ∧ H' ta = some (.tup (r.a5.map kV)), ?_, ?_⟩
      · have lc : (cutS1 r z.st).length ≤ z.st.length := by
          unfold cutS1
          split
          · rw [List.length_dropLast]; omega
          · exact Nat.le_refl _
        have szS : ((cutS1 r z.st).map V.str).length < sizeLine := by rw [List.length_map]; exact Nat.lt_of_le_of_lt (show _ ≤ 30000 by omega) (by decide)
        have pushIt : isPush r.de = true → (upd H5 S (.lst ((cutS1 r z.st).map V.str ++ [V.str r.sy]))) ta = some (.tup (r.a5.map kV)) ∧ WX rs t s0 H (upd H5 S (.lst ((cutS1 r z.st).map V.str ++ [V.str r.sy]))) S aM aH aS aO aD (next z r).st as ((List.range (i + 1)).map (htN rs t s0)) (sd rs t s0 (i + 1)) es kvs := fun h => by
          have e : (cutS1 r z.st).map V.str ++ [V.str r.sy] = (next z r).st.map V.str := by
            show _ = (nextSt r z.st).map V.str
            unfold nextSt
            rw [if_pos h, List.map_append] <;> rfl
          rw [e]
          exact ⟨by rw [upd_ne (lst_ne_tup hta5 W5.Ss)]; exact hta5, W5.putS cells _⟩
        refine ⟨_, rfl, ta, _, 2, .str r.de, rfl, rfl, SqT.of hta5, rfl, rfl, _, rfl, ite2 (fun c => ?_) (fun c1 => ?_)⟩
        · have h : isPush r.de = true := by
            unfold isPush
            rw [V.str.inj (of_decide_eq_true c)]
            decide +kernel
          exact ⟨_, rfl, .inl ⟨rfl, _, SqL.of W5.Ss⟩, _, rfl, ta, _, 3, .str r.sy, rfl, rfl, SqT.of hta5, rfl, S, _, _, rfl, rfl, W5.Ss, szS, rfl, (pushIt h).2, (pushIt h).1⟩
        refine ⟨_, rfl, ta, _, 2, .str r.de, rfl, rfl, SqT.of hta5, rfl, rfl, _, rfl, ite2 (fun c => ?_) (fun c2 => ?_)⟩
        · have h : isPush r.de = true := by
            unfold isPush
            rw [V.str.inj (of_decide_eq_true c)]
            decide +kernel
          exact ⟨_, rfl, .inl ⟨rfl, _, SqL.of W5.Ss⟩, _, rfl, ta, _, 3, .str r.sy, rfl, rfl, SqT.of hta5, rfl, S, _, _, rfl, rfl, W5.Ss, szS, rfl, (pushIt h).2, (pushIt h).1⟩
        · have h : ¬ isPush r.de = true := fun h => by
            unfold isPush at h
            rw [Bool.or_eq_true, decide_eq_true_eq, decide_eq_true_eq] at h
            rcases h with h | h
            · exact c1 (decide_eq_true (by rw [h] <;> rfl))
            · exact c2 (decide_eq_true (by rw [h] <;> rfl))
          have e : (next z r).st = cutS1 r z.st := by
            show nextSt r z.st = _
            unfold nextSt
            exact if_neg h
          refine ⟨rfl, ?_, hta5⟩
          rw [e]
          exact W5
      rintro σ' H6 ⟨rfl, W6, hta6⟩
      have lS : ((next z r).st.map V.str).length = (next z r).st.length := List.length_map ..
      have ln := next_len z r
      by_cases hfall : s0.st.length = 1 ∧ (next z r).st = []
      · obtain ⟨hb1, hemp⟩ := hfall
        have tpn : tp ≠ nil0 := fun e => by
          rw [← hst, e, stackOf_nil] at hb1
          cases hb1
        refine ⟨_, rfl, rfl, _, rfl, ite2 (fun _ => ?_) (fun c => absurd (decide_eq_true (by rw [hb1] <;> rfl)) c)⟩
        refine ⟨_, rfl, S, _, rfl, .inl (SqL.of W6.Ss), rfl, _, rfl, ite2 (fun _ => ?_) (fun c => absurd (decide_eq_true (by rw [hemp] <;> rfl)) c)⟩
        refine ⟨_, rfl, _, rfl, _, rfl, 1, rfl, _, rfl, _, rfl, show 2 ≤ sizeLine by decide, fun lz nlz => ⟨show 6 ≤ sizeLine by decide, fun y ny => ?_⟩⟩
        have tl := same_new (o := HO.tup [V.int r.af, V.int (z.p + r.mv)]) nlz
        exact k y _ ((W6.same.trans tl).trans (same_new ny)) (.inr (.inl ⟨i, next z r, lz, (W6.mono tl).walk has hz ny, by omega, hz1, hemp, tpn, nf, .inl (.inl ((same_new ny) _ _ upd_same))⟩))
      refine skip_if (fun R rr => ?_) (fun H7 s67 => ?_)
      · refine ⟨_, rfl, rfl, _, rfl, ite2 (fun c => ?_) (fun _ => rr H6 (Same.refl _))⟩
        have hb1 : s0.st.length = 1 := by
          have z := V.int.inj (of_decide_eq_true c)
          omega
        refine ⟨_, rfl, S, _, rfl, .inl (SqL.of W6.Ss), rfl, _, rfl, ?_⟩
        rw [decide_eq_false (fun e => hfall ⟨hb1, by
          have z := V.int.inj e
          rw [lS] at z
          exact List.eq_nil_of_length_eq_zero (by omega)⟩)]
        exact rr H6 (Same.refl _)
      have W7 := W6.mono s67
      have nf1 : NoFall rs t s0 tp (i + 1) := nf.succ hz1 fun h e => hfall ⟨by rw [← hst, stackOf_ne h] <;> rfl, e⟩
      refine ⟨_, rfl, _, rfl, _, rfl, S, _, rfl, SqL.of W7.Ss, show 3 ≤ sizeLine by decide, fun hq nh => ?_⟩
      have th := same_new (o := HO.tup ((surfK (next z r)).map kV)) nh
      have hh : (upd H7 hq (.tup ((surfK (next z r)).map kV))) hq = some (.tup ((surfK (next z r)).map kV)) := upd_same
      have W8 := W7.mono th
      dsimp only [gName]
      show (tSeq _ _) _ _ (upd H7 hq (.tup ((surfK (next z r)).map kV)))
      generalize upd H7 hq (.tup ((surfK (next z r)).map kV)) = H8' at hh W8 ⊢
      refine ⟨_, rfl, S, _, rfl, .inl (SqL.of W8.Ss), ?_⟩
      rw [lS]
      refine ⟨_, rfl, _, _, rfl, rfl, ?_⟩
      dsimp only [gName]
      rw [← htN_of hz1]
      have lO : (es.map fun e => V.ref e.1).length = es.length := List.length_map ..
      refine ⟨fun σ' H' => ∃ (es' : List (Addr × Addr × Nat)) (kvs' : List (List Key × V)) (v17 v18 : Option V), σ' = [some (.ref d), some (.str t), some (.ref p), some (.int (lim : Int)), some (.int r.af), some (.int (z.p + r.mv)), some (.ref S), some (.int (s0.st.length : Int)), some (.ref aM), some (.ref aH), some (.ref aS), some (.ref aO), some (.ref aD), some (.int (0 + (i : Int))), some (.ref ta), some (.ref hq), some (.int (htN rs t s0 (i + 1))), v17, v18] ∧ WX rs t s0 H H' S aM aH aS aO aD (next z r).st as ((List.range (i + 1)).map (htN rs t s0)) (sd rs t s0 (i + 1)) es' kvs' ∧ H' hq = some (.tup ((surfK (next z r)).map kV)) ∧ OpenOk rs t s0 (es'.map (·.2.2)) i ∧ SinceOk rs t s0 (es'.map (·.2.2)) kvs' ∧ kvs'.length + es'.length ≤ 2 * (i + 1) ∧ es'.length ≤ i + 1 ∧ ∀ a ∈ es'.map (·.2.2), htN rs t s0 a ≤ htN rs t s0 (i + 1), ?_, ?_⟩
      · refine ⟨_, rfl, aO, _, rfl, .inl (SqL.of W8.O), ?_⟩
        rw [lO]
        refine ⟨_, rfl, by omega, by omega, for_range (lo := 0) (n := ((es.length : Nat) : Int).toNat) (fun j σ H' => ∃ (es' : List (Addr × Addr × Nat)) (kvs' : List (List Key × V)) (v17 v18 : Option V), σ = [some (.ref d), some (.str t), some (.ref p), some (.int (lim : Int)), some (.int r.af), some (.int (z.p + r.mv)), some (.ref S), some (.int (s0.st.length : Int)), some (.ref aM), some (.ref aH), some (.ref aS), some (.ref aO), some (.ref aD), some (.int (0 + (i : Int))), some (.ref ta), some (.ref hq), some (.int (htN rs t s0 (i + 1))), v17, v18] ∧ WX rs t s0 H H' S aM aH aS aO aD (next z r).st as ((List.range (i + 1)).map (htN rs t s0)) (sd rs t s0 (i + 1)) es' kvs' ∧ H' hq = some (.tup ((surfK (next z r)).map kV)) ∧ OpenOk rs t s0 (es'.map (·.2.2)) i ∧ SinceOk rs t s0 (es'.map (·.2.2)) kvs' ∧ kvs'.length + es'.length ≤ 2 * (i + 1) ∧ es'.length + j = es.length) ⟨es, kvs, _, _, rfl, W8, hh, hop, hsn, few, rfl⟩ ?_ ?_⟩
        · rintro j σ H9 hj ⟨es', kvs', v17, v18, rfl, W9, hh9, hop9, hsn9, few9, el9⟩
          dsimp only [gName]
          have hne : es' ≠ [] := fun e => by
            rw [e] at el9
            have : 0 + j = es.length := el9
            omega
          obtain ⟨es1, a, rfl⟩ : ∃ es1 a, es' = es1 ++ [a] := ⟨es'.dropLast, es'.getLast hne, (List.dropLast_concat_getLast hne).symm⟩
          obtain ⟨ha1, ha2, ha3⟩ := W9.ent a (List.mem_append_right _ (List.mem_singleton.mpr rfl))
          have lO9 : ((es1 ++ [a]).map fun e => V.ref e.1).length = es1.length + 1 := by
            rw [List.length_map, List.length_append] <;> rfl
          have lE : (es1 ++ [a]).length = es1.length + 1 := by rw [List.length_append] <;> rfl
          have atO : ((es1 ++ [a]).map fun e => V.ref e.1)[es1.length]? = some (V.ref a.1) := by
            rw [List.getElem?_map, List.getElem?_append_right (Nat.le_refl _), Nat.sub_self] <;> rfl
          rw [List.map_append] at hop9 hsn9
          have hop9 : OpenOk rs t s0 (es1.map (·.2.2) ++ [a.2.2]) i := hop9
          have hsn9 : SinceOk rs t s0 (es1.map (·.2.2) ++ [a.2.2]) kvs' := hsn9
          refine ⟨fun σ' H' => σ' = [some (.ref d), some (.str t), some (.ref p), some (.int (lim : Int)), some (.int r.af), some (.int (z.p + r.mv)), some (.ref S), some (.int (s0.st.length : Int)), some (.ref aM), some (.ref aH), some (.ref aS), some (.ref aO), some (.ref aD), some (.int (0 + (i : Int))), some (.ref ta), some (.ref hq), some (.int (htN rs t s0 (i + 1))), some (.int (0 + (j : Int))), v18] ∧ H' = H9, ?_, ?_⟩
          · refine ⟨_, rfl, _, rfl, aO, _, rfl, .inl (SqL.of W9.O), ?_⟩
            rw [lO9]
            refine ⟨_, _, rfl, rfl, ?_⟩
            dsimp only
            rw [show ((es1.length + 1 : Nat) : Int) - 1 = (es1.length : Int) by omega]
            refine ⟨aO, _, _, .ref a.1, rfl, rfl, SqL.of W9.O, atI_nat atO, a.1, _, 1, .int (htN rs t s0 a.2.2), rfl, rfl, SqL.of ha1, rfl, _, rfl, _, _, rfl, rfl, _, rfl, ite2 (fun c => ?_) (fun _ => ⟨rfl, rfl⟩)⟩
            refine ⟨es1 ++ [a], kvs', _, _, rfl, W9, hh9, by rw [List.map_append]; exact hop9, by rw [List.map_append]; exact hsn9, few9, by omega, fun b mb => ?_⟩
            rw [List.map_append] at mb
            exact hop9.all_le (of_decide_eq_true c) b mb
          rintro σ' H' ⟨rfl, rfl⟩
          refine ⟨_, rfl, .inl ⟨rfl, _, SqL.of W9.O⟩, aO, _, .ref a.1, rfl, rfl, W9.O, by rw [lO9, Nat.add_sub_cancel]; exact atO, ?_⟩
          have eD : ((es1 ++ [a]).map fun e => V.ref e.1).dropLast = es1.map fun e => V.ref e.1 := by
            rw [List.map_append]
            exact List.dropLast_concat
          rw [eD]
          have W10 := W9.putO cells (es' := es1) fun e m => W9.ent e (List.mem_append_left _ m)
          have ha1' : (upd H' aO (.lst (es1.map fun e => V.ref e.1))) a.1 = some (.lst [.ref a.2.1, .int (htN rs t s0 a.2.2)]) := by rw [upd_ne ha3.2.2.2.2]; exact ha1
          have ha2' : (upd H' aO (.lst (es1.map fun e => V.ref e.1))) a.2.1 = some (.tup ((keyN rs t s0 a.2.2).map kV)) := by rw [upd_ne (lst_ne_tup ha2 W9.O)]; exact ha2
          have hh10 : (upd H' aO (.lst (es1.map fun e => V.ref e.1))) hq = some (.tup ((surfK (next z r)).map kV)) := by rw [upd_ne (lst_ne_tup hh9 W9.O)]; exact hh9
          dsimp only [gName]
          refine ⟨1, rfl, _, rfl, _, rfl, a.1, _, 0, .ref a.2.1, rfl, rfl, SqL.of ha1', rfl, aD, _, rfl, DPut.t W10.D ha2' (Nat.lt_of_le_of_lt (show kvs'.length ≤ 100000 by omega) (by decide)), ?_⟩
          have lp := length_putK kvs' (keyN rs t s0 a.2.2) (.int (-1))
          refine ⟨es1, putK kvs' (keyN rs t s0 a.2.2) (.int (-1)), _, _, rfl, W10.putD cells _, by rw [upd_ne (tup_ne_dT hh10 W10.D)]; exact hh10, ?_, hsn9.drop, by omega, by omega⟩
          have o := hop9.drop
          rw [List.dropLast_concat] at o
          exact o
        · rintro σ H9 ⟨es', kvs', v17, v18, rfl, W9, hh9, hop9, hsn9, few9, el9⟩
          have e0 : es' = [] := List.eq_nil_of_length_eq_zero (by omega)
          subst e0
          exact ⟨[], kvs', _, _, rfl, W9, hh9, hop9, hsn9, few9, Nat.zero_le _, fun a m => absurd m List.not_mem_nil⟩
      rintro σ' H9 ⟨es', kvs', v17, v18, rfl, W9, hh9, hop9, hsn9, few9, el9, all9⟩
      have hopN := hop9.next all9
      have las : as.length = i + 1 := by
        have e := congrArg List.length has
        rw [List.length_map, List.length_map, List.length_range] at e
        exact e
      -- met, heights
      refine ⟨_, rfl, .inl ⟨rfl, _, SqL.of W9.M⟩, _, rfl, aM, _, _, rfl, rfl, W9.M, by rw [List.length_map, las]; exact Nat.lt_of_le_of_lt (show i + 1 ≤ 30000 by omega) (by decide), ?_⟩
      have eM : (as.map fun a => V.ref a.1) ++ [V.ref hq] = (as ++ [(hq, surfK (next z r))]).map fun a => V.ref a.1 := by rw [List.map_append] <;> rfl
      rw [eM]
      have W10 := W9.putM cells hh9
      have hh10 : (upd H9 aM (.lst ((as ++ [(hq, surfK (next z r))]).map fun a => V.ref a.1))) hq = some (.tup ((surfK (next z r)).map kV)) := by rw [upd_ne (lst_ne_tup hh9 W9.M)]; exact hh9
      generalize upd H9 aM (.lst ((as ++ [(hq, surfK (next z r))]).map fun a => V.ref a.1)) = H10 at W10 hh10 ⊢
      refine ⟨_, rfl, .inl ⟨rfl, _, SqL.of W10.Hh⟩, _, rfl, aH, _, _, rfl, rfl, W10.Hh, by rw [List.length_map, List.length_map, List.length_range]; exact Nat.lt_of_le_of_lt (show i + 1 ≤ 30000 by omega) (by decide), ?_⟩
      have eH : ((List.range (i + 1)).map (htN rs t s0)).map V.int ++ [V.int (htN rs t s0 (i + 1))] = ((List.range (i + 1 + 1)).map (htN rs t s0)).map V.int := by
        rw [List.range_succ (n := i + 1), List.map_append, List.map_append] <;> rfl
      rw [eH]
      have W11 := W10.putH cells ((List.range (i + 1 + 1)).map (htN rs t s0))
      have hh11 : (upd H10 aH (.lst (((List.range (i + 1 + 1)).map (htN rs t s0)).map V.int))) hq = some (.tup ((surfK (next z r)).map kV)) := by rw [upd_ne (lst_ne_tup hh10 W10.Hh)]; exact hh10
      generalize upd H10 aH (.lst (((List.range (i + 1 + 1)).map (htN rs t s0)).map V.int)) = H11 at W11 hh11 ⊢
      have hasN : (as ++ [(hq, surfK (next z r))]).map (·.2) = (List.range (i + 1 + 1)).map (keyN rs t s0) := by
        rw [List.map_append, has, List.range_succ (n := i + 1), List.map_append, List.map_singleton, List.map_singleton, keyN_of hz1]
      obtain ⟨n0, en, hn⟩ : ∃ n0 : Int, (valV kvs' (surfK (next z r))).getD (V.int (-1)) = .int n0 ∧ (0 ≤ n0 → valV kvs' (surfK (next z r)) = some (.int n0) ∧ ∃ a : Nat, a ∈ es'.map (·.2.2) ∧ n0 = (a : Int) ∧ surfK (next z r) = keyN rs t s0 a) := by
        cases hv : valV kvs' (surfK (next z r)) with
        | none => exact ⟨-1, rfl, fun h => absurd h (by decide)⟩
        | some v =>
          obtain ⟨n0, rfl, hn⟩ := hsn9 _ _ hv
          exact ⟨n0, rfl, fun h => ⟨rfl, hn h⟩⟩
      refine ⟨_, rfl, aD, rfl, .inr ⟨kvs', .inl W11.D⟩, _, rfl, 1, rfl, _, DGet.t W11.D hh11, ?_⟩
      rw [en]
      refine ⟨_, _, rfl, rfl, _, rfl, ite2 (fun c => ?_) (fun _ => ?_)⟩
      · obtain ⟨hv, a, ma, ea, ka⟩ := hn (of_decide_eq_true c)
        subst ea
        have oa := hopN.low a ma
        have ai : a ≤ i := (hop9.low a ma).1
        obtain ⟨za, hza⟩ := nth_some hz ai
        rw [keyN_of hza] at ka
        refine ⟨_, rfl, _, rfl, _, rfl, _, rfl, _, rfl, aD, _, rfl, by rw [← hv]; exact DGet.t W11.D hh11, show 6 ≤ sizeLine by decide, fun y ny => ?_⟩
        exact k y _ (W11.same.trans (same_new ny)) (.inr (.inr (.inr ⟨i + 1, a, W11.walk hasN hz1 ny, by omega, by omega, forever okR ok1 hza hz1 (by omega) ka.symm oa.2 nf1⟩)))
      dsimp only [tNext]
      refine ⟨_, rfl, .inl ⟨rfl, _, SqL.of W11.O⟩, _, rfl, _, rfl, show 2 ≤ sizeLine by decide, fun e1 ne1 => ?_⟩
      have t1 := same_new (o := HO.lst [V.ref hq, V.int (htN rs t s0 (i + 1))]) ne1
      have W12 := W11.mono t1
      have hh12 := t1 _ _ hh11
      have he1 : (upd H11 e1 (.lst [V.ref hq, V.int (htN rs t s0 (i + 1))])) e1 = some (.lst [V.ref hq, V.int (htN rs t s0 (i + 1))]) := upd_same
      have y1 : e1 ≠ S := Ne.symm (ne_none W11.Ss ne1)
      have y2 : e1 ≠ aM := Ne.symm (ne_none W11.M ne1)
      have y3 : e1 ≠ aH := Ne.symm (ne_none W11.Hh ne1)
      have y4 : e1 ≠ aS := Ne.symm (ne_none W11.A ne1)
      have y5 : e1 ≠ aO := Ne.symm (ne_none W11.O ne1)
      generalize upd H11 e1 (.lst [V.ref hq, V.int (htN rs t s0 (i + 1))]) = H12 at W12 hh12 he1 ⊢
      refine ⟨aO, _, _, rfl, rfl, W12.O, by rw [List.length_map]; exact Nat.lt_of_le_of_lt (show es'.length ≤ 30000 by omega) (by decide), ?_⟩
      have eO : (es'.map fun e => V.ref e.1) ++ [V.ref e1] = (es' ++ [(e1, hq, i + 1)]).map fun e => V.ref e.1 := by rw [List.map_append] <;> rfl
      rw [eO]
      have W13 := W12.putO cells (es' := es' ++ [(e1, hq, i + 1)]) fun e m => by
        rcases List.mem_append.mp m with m | m
        · exact W12.ent e m
        · rw [List.mem_singleton.mp m]
          refine ⟨he1, ?_, y1, y2, y3, y4, y5⟩
          show H12 hq = some (.tup ((keyN rs t s0 (i + 1)).map kV))
          rw [keyN_of hz1]
          exact hh12
      have hh13 : (upd H12 aO (.lst ((es' ++ [(e1, hq, i + 1)]).map fun e => V.ref e.1))) hq = some (.tup ((surfK (next z r)).map kV)) := by rw [upd_ne (lst_ne_tup hh12 W12.O)]; exact hh12
      generalize upd H12 aO (.lst ((es' ++ [(e1, hq, i + 1)]).map fun e => V.ref e.1)) = H13 at W13 hh13 ⊢
      refine ⟨_, rfl, _, _, rfl, rfl, _, rfl, _, rfl, aD, _, rfl, DPut.t W13.D hh13 (Nat.lt_of_le_of_lt (show kvs'.length ≤ 100000 by omega) (by decide)), ?_⟩
      have lp := length_putK kvs' (surfK (next z r)) (.int (0 + (i : Int) + 1))
      have lE : (es' ++ [(e1, hq, i + 1)]).length = es'.length + 1 := by rw [List.length_append] <;> rfl
      have ei1 : (0 + (i : Int) + 1) = ((i + 1 : Nat) : Int) := by omega
      refine ⟨next z r, as ++ [(hq, surfK (next z r))], es' ++ [(e1, hq, i + 1)], putK kvs' (surfK (next z r)) (.int (0 + (i : Int) + 1)), _, _, _, _, _, _, by omega, rfl, W13.putD cells _, hz1, nf1, hasN, ?_, ?_, by omega, by omega⟩
      · rw [List.map_append]
        exact hopN.push all9
      · rw [List.map_append, ei1, ← keyN_of hz1]
        exact hsn9.push
    · rintro σ H2 ⟨z, as, es, kvs, e13, e14, e15, e16, e17, e18, il, rfl, W, hz, nf, has, hop, hsn, few, fewE⟩
      exact absurd il (by omega)
end
end Mk

set_option Elab.async false

set_option Elab.async false
set_option maxRecDepth 100000
set_option maxHeartbeats 8000000
namespace Mk
open PySem L2 Pk
theorem all_mk {l : PySem.W.OpenLaw} {w : World} {K : PySem.W.Frag} {h : Heap} {mg : Str → Option Value} {fa : Addr} (X : K.In h) (G : h.Ns mainGlobals mg) (hfa : mg "law" = some (.ref fa))
    {f1 : Addr} {fd1 : FuncData}
    {f2 : Addr} {fd2 : FuncData}
    {f3 : Addr} {fd3 : FuncData}
    {f4 : Addr} {fd4 : FuncData}
    {f5 : Addr} {fd5 : FuncData}
    {f6 : Addr} {fd6 : FuncData}
    {f7 : Addr} {fd7 : FuncData}
    {f8 : Addr} {fd8 : FuncData}
    {f9 : Addr} {fd9 : FuncData}
    {f10 : Addr} {fd10 : FuncData}
    {f11 : Addr} {fd11 : FuncData}
    {f12 : Addr} {fd12 : FuncData}
    {f13 : Addr} {fd13 : FuncData}
    {f14 : Addr} {fd14 : FuncData}
    {f15 : Addr} {fd15 : FuncData}
    {f16 : Addr} {fd16 : FuncData}
    {f17 : Addr} {fd17 : FuncData}
    {f18 : Addr} {fd18 : FuncData}
    {f19 : Addr} {fd19 : FuncData}
    {f20 : Addr} {fd20 : FuncData}
    {f21 : Addr} {fd21 : FuncData}
    {f22 : Addr} {fd22 : FuncData}
    {f23 : Addr} {fd23 : FuncData}
    {f24 : Addr} {fd24 : FuncData}
    {f25 : Addr} {fd25 : FuncData}
    {f26 : Addr} {fd26 : FuncData}
    {f27 : Addr} {fd27 : FuncData}
    {f28 : Addr} {fd28 : FuncData}
    {f29 : Addr} {fd29 : FuncData}
    {f30 : Addr} {fd30 : FuncData}
    {f31 : Addr} {fd31 : FuncData}
    {f32 : Addr} {fd32 : FuncData}
    {f33 : Addr} {fd33 : FuncData}
    {f34 : Addr} {fd34 : FuncData}
    {f35 : Addr} {fd35 : FuncData}
    {f36 : Addr} {fd36 : FuncData}
    {f37 : Addr} {fd37 : FuncData}
    {f38 : Addr} {fd38 : FuncData}
    {f39 : Addr} {fd39 : FuncData}
    {f40 : Addr} {fd40 : FuncData}
    {f41 : Addr} {fd41 : FuncData}
    {f42 : Addr} {fd42 : FuncData}
    {f43 : Addr} {fd43 : FuncData}
    {f44 : Addr} {fd44 : FuncData}
    {f45 : Addr} {fd45 : FuncData}
    {f46 : Addr} {fd46 : FuncData}
    {f47 : Addr} {fd47 : FuncData}
    {f48 : Addr} {fd48 : FuncData}
    {fL : Addr} {fdL : FuncData}
    {C fI e0 aDD : Addr} {fdI : FuncData}
    {R HS fRI fRT fRF fRA fAc fHI fHN : Addr}
    {fdfRI : FuncData}
    {fdfRT : FuncData}
    {fdfRF : FuncData}
    {fdfRA : FuncData}
    {fdfAc : FuncData}
    {fdfHI : FuncData}
    {fdfHN : FuncData}
    (na1 : PySem.W.nsIn K mainGlobals "is_integer" = some (some (.ref f1)))
    (F1 : Fun K "is_integer" "is_integer" sInteger f1 fd1)
    (na2 : PySem.W.nsIn K mainGlobals "is_between" = some (some (.ref f2)))
    (F2 : Fun K "is_between" "is_between" sBetween f2 fd2)
    (na3 : PySem.W.nsIn K mainGlobals "is_sequence" = some (some (.ref f3)))
    (F3 : Fun K "is_sequence" "is_sequence" sSequence f3 fd3)
    (na4 : PySem.W.nsIn K mainGlobals "is_row" = some (some (.ref f4)))
    (F4 : Fun K "is_row" "is_row" sRow f4 fd4)
    (na5 : PySem.W.nsIn K mainGlobals "are_letters" = some (some (.ref f5)))
    (F5 : Fun K "are_letters" "are_letters" sLetters f5 fd5)
    (na6 : PySem.W.nsIn K mainGlobals "is_alphabet" = some (some (.ref f6)))
    (F6 : Fun K "is_alphabet" "is_alphabet" sAlphabet f6 fd6)
    (na7 : PySem.W.nsIn K mainGlobals "is_symbol_mark" = some (some (.ref f7)))
    (F7 : Fun K "is_symbol_mark" "is_symbol_mark" sMark f7 fd7)
    (na8 : PySem.W.nsIn K mainGlobals "is_symbol" = some (some (.ref f8)))
    (F8 : Fun K "is_symbol" "is_symbol" sSymbol f8 fd8)
    (na9 : PySem.W.nsIn K mainGlobals "is_sign" = some (some (.ref f9)))
    (F9 : Fun K "is_sign" "is_sign" sSign f9 fd9)
    (na10 : PySem.W.nsIn K mainGlobals "is_top" = some (some (.ref f10)))
    (F10 : Fun K "is_top" "is_top" sTop f10 fd10)
    (na11 : PySem.W.nsIn K mainGlobals "is_move" = some (some (.ref f11)))
    (F11 : Fun K "is_move" "is_move" sMove f11 fd11)
    (na12 : PySem.W.nsIn K mainGlobals "is_deed" = some (some (.ref f12)))
    (F12 : Fun K "is_deed" "is_deed" sDeed f12 fd12)
    (na13 : PySem.W.nsIn K mainGlobals "is_state" = some (some (.ref f13)))
    (F13 : Fun K "is_state" "is_state" sState f13 fd13)
    (na14 : PySem.W.nsIn K mainGlobals "is_rule" = some (some (.ref f14)))
    (F14 : Fun K "is_rule" "is_rule" sRule f14 fd14)
    (na15 : PySem.W.nsIn K mainGlobals "check_arguments" = some (some (.ref f15)))
    (F15 : Fun K "check_arguments" "check_arguments" sCheck f15 fd15)
    (na16 : PySem.W.nsIn K mainGlobals "symbols_of" = some (some (.ref f16)))
    (F16 : Fun K "symbols_of" "symbols_of" sSymbols f16 fd16)
    (na17 : PySem.W.nsIn K mainGlobals "acts_by_key" = some (some (.ref f17)))
    (F17 : Fun K "acts_by_key" "acts_by_key" sActs f17 fd17)
    (na18 : PySem.W.nsIn K mainGlobals "first_guess" = some (some (.ref f18)))
    (F18 : Fun K "first_guess" "first_guess" sGuess f18 fd18)
    (na19 : PySem.W.nsIn K mainGlobals "is_text" = some (some (.ref f19)))
    (F19 : Fun K "is_text" "is_text" sIsText f19 fd19)
    (na20 : PySem.W.nsIn K mainGlobals "is_surface" = some (some (.ref f20)))
    (F20 : Fun K "is_surface" "is_surface" sIsSurf f20 fd20)
    (na21 : PySem.W.nsIn K mainGlobals "check_text" = some (some (.ref f21)))
    (F21 : Fun K "check_text" "check_text" sCheckText f21 fd21)
    (na22 : PySem.W.nsIn K mainGlobals "check_plain" = some (some (.ref f22)))
    (F22 : Fun K "check_plain" "check_plain" sCheckPlain f22 fd22)
    (na23 : PySem.W.nsIn K mainGlobals "check_surface" = some (some (.ref f23)))
    (F23 : Fun K "check_surface" "check_surface" sCheckSurf f23 fd23)
    (na24 : PySem.W.nsIn K mainGlobals "signs_of" = some (some (.ref f24)))
    (F24 : Fun K "signs_of" "signs_of" sSigns f24 fd24)
    (na25 : PySem.W.nsIn K mainGlobals "excursion" = some (some (.ref f25)))
    (F25 : Fun K "excursion" "excursion" sExcur f25 fd25)
    (na26 : PySem.W.nsIn K mainGlobals "_law_whole" = some (some (.ref f26)))
    (F26 : Fun K "_law_whole" "_law_whole" sWhole f26 fd26)
    (na27 : PySem.W.nsIn K mainGlobals "_law_same" = some (some (.ref f27)))
    (F27 : Fun K "_law_same" "_law_same" sSame f27 fd27)
    (na28 : PySem.W.nsIn K mainGlobals "_law_cell" = some (some (.ref f28)))
    (F28 : Fun K "_law_cell" "_law_cell" sCell f28 fd28)
    (na29 : PySem.W.nsIn K mainGlobals "_law_digits" = some (some (.ref f29)))
    (F29 : Fun K "_law_digits" "_law_digits" sDigits f29 fd29)
    (na30 : PySem.W.nsIn K mainGlobals "_law_alphabet" = some (some (.ref f30)))
    (F30 : Fun K "_law_alphabet" "_law_alphabet" sAlpha f30 fd30)
    (na31 : PySem.W.nsIn K mainGlobals "_law_symbols" = some (some (.ref f31)))
    (F31 : Fun K "_law_symbols" "_law_symbols" sSyms f31 fd31)
    (na32 : PySem.W.nsIn K mainGlobals "_law_act" = some (some (.ref f32)))
    (F32 : Fun K "_law_act" "_law_act" sAct f32 fd32)
    (na33 : PySem.W.nsIn K mainGlobals "_law_caller" = some (some (.ref f33)))
    (F33 : Fun K "_law_caller" "_law_caller" sCaller f33 fd33)
    (na34 : PySem.W.nsIn K mainGlobals "_law_scanner" = some (some (.ref f34)))
    (F34 : Fun K "_law_scanner" "_law_scanner" sScanner f34 fd34)
    (na35 : PySem.W.nsIn K mainGlobals "_law_restorer" = some (some (.ref f35)))
    (F35 : Fun K "_law_restorer" "_law_restorer" sRestorer f35 fd35)
    (na36 : PySem.W.nsIn K mainGlobals "_law_climber" = some (some (.ref f36)))
    (F36 : Fun K "_law_climber" "_law_climber" sClimber f36 fd36)
    (na37 : PySem.W.nsIn K mainGlobals "_law_machine" = some (some (.ref f37)))
    (F37 : Fun K "_law_machine" "_law_machine" sMachine f37 fd37)
    (na38 : PySem.W.nsIn K mainGlobals "_law_lettered" = some (some (.ref f38)))
    (F38 : Fun K "_law_lettered" "_law_lettered" sLettered f38 fd38)
    (na39 : PySem.W.nsIn K mainGlobals "_law_symboled" = some (some (.ref f39)))
    (F39 : Fun K "_law_symboled" "_law_symboled" sSymboled f39 fd39)
    (na40 : PySem.W.nsIn K mainGlobals "_law_text" = some (some (.ref f40)))
    (F40 : Fun K "_law_text" "_law_text" sText f40 fd40)
    (na41 : PySem.W.nsIn K mainGlobals "_law_sign" = some (some (.ref f41)))
    (F41 : Fun K "_law_sign" "_law_sign" sSignAt f41 fd41)
    (na42 : PySem.W.nsIn K mainGlobals "_law_table" = some (some (.ref f42)))
    (F42 : Fun K "_law_table" "_law_table" sTable f42 fd42)
    (na43 : PySem.W.nsIn K mainGlobals "_law_top" = some (some (.ref f43)))
    (F43 : Fun K "_law_top" "_law_top" sTopOf f43 fd43)
    (na44 : PySem.W.nsIn K mainGlobals "_law_walk" = some (some (.ref f44)))
    (F44 : Fun K "_law_walk" "_law_walk" sWalk f44 fd44)
    (na45 : PySem.W.nsIn K mainGlobals "_law_each_once" = some (some (.ref f45)))
    (F45 : Fun K "_law_each_once" "_law_each_once" sOnce f45 fd45)
    (na46 : PySem.W.nsIn K mainGlobals "_law_known" = some (some (.ref f46)))
    (F46 : Fun K "_law_known" "_law_known" sKnown f46 fd46)
    (na47 : PySem.W.nsIn K mainGlobals "_law_excursion" = some (some (.ref f47)))
    (F47 : Fun K "_law_excursion" "_law_excursion" sExc f47 fd47)
    (na48 : PySem.W.nsIn K mainGlobals "_law_excursions_right" = some (some (.ref f48)))
    (F48 : Fun K "_law_excursions_right" "_law_excursions_right" sRight f48 fd48)
    (naL : PySem.W.nsIn K mainGlobals "law" = some (some (.ref fL)))
    (FL : Fun K "law" "law" sLaw fL fdL)
    (nC : PySem.W.nsIn K mainGlobals "Machine" = some (some (.ref C)))
    (c1 : PySem.W.plainGet K C Str.empty = true)
    (c2 : PySem.W.hasDictIn K C = true)
    (c3 : PySem.W.plainOver K C = true)
    (c4 : PySem.W.findIn K (.ref C) "__setattr__" = some (some (.builtin "object.__setattr__")))
    (no0 : PySem.W.findIn K (.ref C) "letters" = some none)
    (no1 : PySem.W.findIn K (.ref C) "states" = some none)
    (no2 : PySem.W.findIn K (.ref C) "rules" = some none)
    (no3 : PySem.W.findIn K (.ref C) "yes" = some none)
    (no4 : PySem.W.findIn K (.ref C) "symbols" = some none)
    (no5 : PySem.W.findIn K (.ref C) "_acts" = some none)
    (no6 : PySem.W.findIn K (.ref C) "guess" = some none)
    (mk1 : PySem.W.makesIn K C = true)
    (mk2 : PySem.W.findIn K (.ref C) "__init__" = some (some (.ref fI)))
    (mk3 : PySem.W.isFn K (.ref fI) = true)
    (mk4 : PySem.W.keepIn K (.ref C) = true)
    (FI : FunD K "__init__" "Machine.__init__" (defArgs sInit) (defBody sInit) (defScope sInit) [.ref e0] [] fI fdI)
    (sE : ∀ H : Hp, SqT K H e0 [])
    (nDD : PySem.W.nsIn K mainGlobals "DEEDS" = some (some (.ref aDD)))
    (sD : ∀ H : Hp, SqT K H aDD [.str "keep", .str "pop", .str "push", .str "swap"])
    (mS : ∃ t, mg "MOST_STATES" = some (.int 2000 t))
    (mR : ∃ t, mg "MOST_RULES" = some (.int 20000 t))
    (cL : ∃ t, mg "MOST_LETTERS" = some (.int 400 t))
    (z_isinstance : PySem.W.nsIn K mainGlobals "isinstance" = some none)
    (z_int : PySem.W.nsIn K mainGlobals "int" = some none)
    (z_bool : PySem.W.nsIn K mainGlobals "bool" = some none)
    (z_str : PySem.W.nsIn K mainGlobals "str" = some none)
    (z_tuple : PySem.W.nsIn K mainGlobals "tuple" = some none)
    (z_list : PySem.W.nsIn K mainGlobals "list" = some none)
    (z_len : PySem.W.nsIn K mainGlobals "len" = some none)
    (z_range : PySem.W.nsIn K mainGlobals "range" = some none)
    (z_all : PySem.W.nsIn K mainGlobals "all" = some none)
    (z_sorted : PySem.W.nsIn K mainGlobals "sorted" = some none)
    (z_set : PySem.W.nsIn K mainGlobals "set" = some none)
    (z_abs : PySem.W.nsIn K mainGlobals "abs" = some none)
    (z_max : PySem.W.nsIn K mainGlobals "max" = some none)
    (z_min : PySem.W.nsIn K mainGlobals "min" = some none)
    (nR : PySem.W.nsIn K mainGlobals "Run" = some (some (.ref R)))
    (nHS : PySem.W.nsIn K mainGlobals "Heights" = some (some (.ref HS)))
    (FRI : Fun K "__init__" "Run.__init__" sRInit fRI fdfRI)
    (FRT : Fun K "top" "Run.top" sRTop fRT fdfRT)
    (FRF : Fun K "fitting" "Run.fitting" sRFit fRF fdfRF)
    (FRA : Fun K "apply" "Run.apply" sRApply fRA fdfRA)
    (FAc : Fun K "acts" "Machine.acts" sActsM fAc fdfAc)
    (FHI : Fun K "__init__" "Heights.__init__" sHInit fHI fdfHI)
    (FHN : Fun K "note" "Heights.note" sHNote fHN fdfHN)
    (r1 : PySem.W.plainGet K R Str.empty = true)
    (r2 : PySem.W.hasDictIn K R = true)
    (r3 : PySem.W.plainOver K R = true)
    (r4 : PySem.W.findIn K (.ref R) "__setattr__" = some (some (.builtin "object.__setattr__")))
    (q1 : PySem.W.plainGet K HS Str.empty = true)
    (q2 : PySem.W.hasDictIn K HS = true)
    (q3 : PySem.W.plainOver K HS = true)
    (q4 : PySem.W.findIn K (.ref HS) "__setattr__" = some (some (.builtin "object.__setattr__")))
    (n1 : PySem.W.findIn K (.ref R) "machine" = some none)
    (n2 : PySem.W.findIn K (.ref R) "signs" = some none)
    (n3 : PySem.W.findIn K (.ref R) "state" = some none)
    (n4 : PySem.W.findIn K (.ref R) "place" = some none)
    (n5 : PySem.W.findIn K (.ref R) "stack" = some none)
    (o1 : PySem.W.findIn K (.ref HS) "first" = some none)
    (o2 : PySem.W.findIn K (.ref HS) "rise" = some none)
    (o3 : PySem.W.findIn K (.ref HS) "low" = some none)
    (o4 : PySem.W.findIn K (.ref HS) "high" = some none)
    (k1 : PySem.W.makesIn K R = true)
    (k2 : PySem.W.findIn K (.ref R) "__init__" = some (some (.ref fRI)))
    (k3 : PySem.W.isFn K (.ref fRI) = true)
    (k4 : PySem.W.keepIn K (.ref R) = true)
    (h1 : PySem.W.makesIn K HS = true)
    (h2 : PySem.W.findIn K (.ref HS) "__init__" = some (some (.ref fHI)))
    (h3 : PySem.W.isFn K (.ref fHI) = true)
    (h4 : PySem.W.keepIn K (.ref HS) = true)
    (pa : PySem.W.findIn K (.ref HS) "note" = some (some (.ref fHN)))
    (pb : PySem.W.isFn K (.ref fHN) = true)
    (pc : PySem.W.keepIn K (.ref fHN) = true)
    (qa : PySem.W.findIn K (.ref R) "fitting" = some (some (.ref fRF)))
    (qb : PySem.W.isFn K (.ref fRF) = true)
    (qc : PySem.W.keepIn K (.ref fRF) = true)
    (ta : PySem.W.findIn K (.ref R) "top" = some (some (.ref fRT)))
    (tb : PySem.W.isFn K (.ref fRT) = true)
    (tc : PySem.W.keepIn K (.ref fRT) = true)
    (aa : PySem.W.findIn K (.ref R) "apply" = some (some (.ref fRA)))
    (ab : PySem.W.isFn K (.ref fRA) = true)
    (ac : PySem.W.keepIn K (.ref fRA) = true)
    (ca : PySem.W.findIn K (.ref C) "acts" = some (some (.ref fAc)))
    (cb : PySem.W.isFn K (.ref fAc) = true)
    (cc : PySem.W.keepIn K (.ref fAc) = true) :
    ∃ fd : FuncData, (∀ (s : Shared) (v : Value), BindsTo s fd ⟨[v], []⟩ [("script", v)]) ∧ ∀ base : Heap, K.In base → base.Ns mainGlobals mg → FnOk l.prog w K mg base CX0 8 fa fd ["script"] (spLaw K) := by
  have e := hfa.symm.trans (PySem.W.mg_of X G naL)
  cases e
  have T : TM mg := ⟨PySem.W.mg_none_of X G z_isinstance, PySem.W.mg_none_of X G z_int, PySem.W.mg_none_of X G z_bool, PySem.W.mg_none_of X G z_str, PySem.W.mg_none_of X G z_tuple, PySem.W.mg_none_of X G z_list, PySem.W.mg_none_of X G z_len, PySem.W.mg_none_of X G z_range, PySem.W.mg_none_of X G z_all, PySem.W.mg_none_of X G z_sorted, PySem.W.mg_none_of X G z_set, PySem.W.mg_none_of X G z_abs⟩
  have m : ∀ {x : Str} {v : Value}, PySem.W.nsIn K mainGlobals x = some (some v) → mg x = some v := fun q => PySem.W.mg_of X G q
  have D : Deeds K mg := ⟨aDD, m nDD, sD⟩
  have MC : MCls K C := ⟨⟨c1, c2, c3, c4⟩, no0, no1, no2, no3, no4, no5, no6⟩
  have MM : L2.Mk K C fI := ⟨mk1, mk2, mk3, mk4⟩
  obtain ⟨ds4, v4, b4⟩ := FI.binds1 (ps := ["self", "letters", "states", "rules", "yes"]) 5 1 (List.cons_ne_nil _ _) rfl fun T kV doc pm an cdv ct us its h1 h2 => match us, its, h1, h2 with | [_, _, _, _, _], [_], _, _ => ⟨_, rfl, rfl⟩
  have e4 : ds4 = [] := by cases v4; rfl
  subst e4
  obtain ⟨ds3, v3, b3⟩ := FI.binds1 (ps := ["self", "letters", "states", "rules", "yes"]) 4 0 (List.cons_ne_nil _ _) rfl fun T kV doc pm an cdv ct us its h1 h2 => match us, its, h1, h2 with | [_, _, _, _], [_], _, _ => ⟨_, rfl, rfl⟩
  obtain ⟨its, kb⟩ := FI.kbindsD (ps := ["self", "letters", "states", "rules", "yes"]) 4 ["yes"] (fun vs _ zs => vs ++ zs) (List.cons_ne_nil _ _) (fun a _ c => a.append c) fun T kV doc pm an cdv ct us its ws h1 h2 h3 => match us, its, ws, h1, h2, h3 with | [_, _, _, _], [_], [_], _, _, _ => ⟨_, rfl, rfl⟩
  have b_1 := F1.binds (ps := ["value"]) fun _ _ _ _ _ _ us hl => match us, hl with | [_], _ => rfl
  have b_2 := F2.binds (ps := ["value", "least", "most"]) fun _ _ _ _ _ _ us hl => match us, hl with | [_, _, _], _ => rfl
  have b_3 := F3.binds (ps := ["value"]) fun _ _ _ _ _ _ us hl => match us, hl with | [_], _ => rfl
  have b_4 := F4.binds (ps := ["value", "length"]) fun _ _ _ _ _ _ us hl => match us, hl with | [_, _], _ => rfl
  have b_5 := F5.binds (ps := ["value", "most"]) fun _ _ _ _ _ _ us hl => match us, hl with | [_, _], _ => rfl
  have b_6 := F6.binds (ps := ["value"]) fun _ _ _ _ _ _ us hl => match us, hl with | [_], _ => rfl
  have b_7 := F7.binds (ps := ["mark"]) fun _ _ _ _ _ _ us hl => match us, hl with | [_], _ => rfl
  have b_8 := F8.binds (ps := ["value"]) fun _ _ _ _ _ _ us hl => match us, hl with | [_], _ => rfl
  have b_9 := F9.binds (ps := ["letters", "value"]) fun _ _ _ _ _ _ us hl => match us, hl with | [_, _], _ => rfl
  have b_10 := F10.binds (ps := ["value"]) fun _ _ _ _ _ _ us hl => match us, hl with | [_], _ => rfl
  have b_11 := F11.binds (ps := ["sign", "value"]) fun _ _ _ _ _ _ us hl => match us, hl with | [_, _], _ => rfl
  have b_12 := F12.binds (ps := ["top", "deed", "symbol"]) fun _ _ _ _ _ _ us hl => match us, hl with | [_, _, _], _ => rfl
  have b_13 := F13.binds (ps := ["states", "value"]) fun _ _ _ _ _ _ us hl => match us, hl with | [_, _], _ => rfl
  have b_14 := F14.binds (ps := ["letters", "states", "value"]) fun _ _ _ _ _ _ us hl => match us, hl with | [_, _, _], _ => rfl
  have b_15 := F15.binds (ps := ["letters", "states", "rules", "yes"]) fun _ _ _ _ _ _ us hl => match us, hl with | [_, _, _, _], _ => rfl
  have b_16 := F16.binds (ps := ["rules"]) fun _ _ _ _ _ _ us hl => match us, hl with | [_], _ => rfl
  have b_17 := F17.binds (ps := ["rules"]) fun _ _ _ _ _ _ us hl => match us, hl with | [_], _ => rfl
  have b_18 := F18.binds (ps := ["acts"]) fun _ _ _ _ _ _ us hl => match us, hl with | [_], _ => rfl
  have b_19 := F19.binds (ps := ["letters", "value"]) fun _ _ _ _ _ _ us hl => match us, hl with | [_, _], _ => rfl
  have b_20 := F20.binds (ps := ["machine", "text", "value"]) fun _ _ _ _ _ _ us hl => match us, hl with | [_, _, _], _ => rfl
  have b_21 := F21.binds (ps := ["machine", "text"]) fun _ _ _ _ _ _ us hl => match us, hl with | [_, _], _ => rfl
  have b_22 := F22.binds (ps := ["machine", "text"]) fun _ _ _ _ _ _ us hl => match us, hl with | [_, _], _ => rfl
  have b_23 := F23.binds (ps := ["machine", "text", "surface"]) fun _ _ _ _ _ _ us hl => match us, hl with | [_, _, _], _ => rfl
  have b_24 := F24.binds (ps := ["text"]) fun _ _ _ _ _ _ us hl => match us, hl with | [_], _ => rfl
  have b_25 := F25.binds (ps := ["machine", "text", "surface", "limit"]) fun _ _ _ _ _ _ us hl => match us, hl with | [_, _, _, _], _ => rfl
  have b_26 := F26.binds (ps := ["value"]) fun _ _ _ _ _ _ us hl => match us, hl with | [_], _ => rfl
  have b_27 := F27.binds (ps := ["told", "due"]) fun _ _ _ _ _ _ us hl => match us, hl with | [_, _], _ => rfl
  have b_28 := F28.binds (ps := ["script", "k"]) fun _ _ _ _ _ _ us hl => match us, hl with | [_, _], _ => rfl
  have b_29 := F29.binds (ps := ["cell", "sizes"]) fun _ _ _ _ _ _ us hl => match us, hl with | [_, _], _ => rfl
  have b_30 := F30.binds (ps := ["row"]) fun _ _ _ _ _ _ us hl => match us, hl with | [_], _ => rfl
  have b_31 := F31.binds (ps := ["digit"]) fun _ _ _ _ _ _ us hl => match us, hl with | [_], _ => rfl
  have b_32 := F32.binds (ps := ["row", "states", "symbols", "sign", "top"]) fun _ _ _ _ _ _ us hl => match us, hl with | [_, _, _, _, _], _ => rfl
  have b_33 := F33.binds (ps := ["letters", "one", "two", "modes"]) fun _ _ _ _ _ _ us hl => match us, hl with | [_, _, _, _], _ => rfl
  have b_34 := F34.binds (ps := ["letters", "one", "two"]) fun _ _ _ _ _ _ us hl => match us, hl with | [_, _, _], _ => rfl
  have b_35 := F35.binds (ps := ["letters", "one", "two"]) fun _ _ _ _ _ _ us hl => match us, hl with | [_, _, _], _ => rfl
  have b_36 := F36.binds (ps := ["letters", "one", "two"]) fun _ _ _ _ _ _ us hl => match us, hl with | [_, _, _], _ => rfl
  have b_37 := F37.binds (ps := ["script", "at"]) fun _ _ _ _ _ _ us hl => match us, hl with | [_, _], _ => rfl
  have b_38 := F38.binds (ps := ["script", "at", "drawn"]) fun _ _ _ _ _ _ us hl => match us, hl with | [_, _, _], _ => rfl
  have b_39 := F39.binds (ps := ["script", "at", "drawn"]) fun _ _ _ _ _ _ us hl => match us, hl with | [_, _, _], _ => rfl
  have b_40 := F40.binds (ps := ["script", "at", "letters", "upto"]) fun _ _ _ _ _ _ us hl => match us, hl with | [_, _, _, _], _ => rfl
  have b_41 := F41.binds (ps := ["text", "place"]) fun _ _ _ _ _ _ us hl => match us, hl with | [_, _], _ => rfl
  have b_42 := F42.binds (ps := ["rules"]) fun _ _ _ _ _ _ us hl => match us, hl with | [_], _ => rfl
  have b_43 := F43.binds (ps := ["stack"]) fun _ _ _ _ _ _ us hl => match us, hl with | [_], _ => rfl
  have b_44 := F44.binds (ps := ["table", "text", "surface", "limit"]) fun _ _ _ _ _ _ us hl => match us, hl with | [_, _, _, _], _ => rfl
  have b_45 := F45.binds (ps := ["values"]) fun _ _ _ _ _ _ us hl => match us, hl with | [_], _ => rfl
  have b_46 := F46.binds (ps := ["rules"]) fun _ _ _ _ _ _ us hl => match us, hl with | [_], _ => rfl
  have b_47 := F47.binds (ps := ["walk"]) fun _ _ _ _ _ _ us hl => match us, hl with | [_], _ => rfl
  have b_48 := F48.binds (ps := ["machine", "table", "text", "surface", "digit", "limit", "most", "far"]) fun _ _ _ _ _ _ us hl => match us, hl with | [_, _, _, _, _, _, _, _], _ => rfl
  have hbL : ∀ (s : Shared) (v : Value), BindsTo s fdL ⟨[v], []⟩ [("script", v)] := by
    obtain ⟨oc, od, kV, doc, pm, an, cdv, ct, osl, hfd, _, _⟩ := FL.ex
    subst hfd
    exact fun s v => .of_eq rfl
  refine ⟨fdL, hbL, fun base _ _ => ?_⟩
  have g_is_integer : Got l.prog w K mg base "is_integer" 1 ["value"] spInteger := ⟨_, _, ok_integer F1 T, F1.kp, b_1, m na1⟩
  have g_is_between : Got l.prog w K mg base "is_between" 2 ["value", "least", "most"] spBetween := ⟨_, _, ok_between F2 g_is_integer, F2.kp, b_2, m na2⟩
  have g_is_sequence : Got l.prog w K mg base "is_sequence" 1 ["value"] (spSequence K) := ⟨_, _, ok_sequence F3 T, F3.kp, b_3, m na3⟩
  have g_is_row : Got l.prog w K mg base "is_row" 2 ["value", "length"] (spRow K) := ⟨_, _, ok_row F4 T g_is_sequence, F4.kp, b_4, m na4⟩
  have g_are_letters : Got l.prog w K mg base "are_letters" 1 ["value", "most"] spLetters := ⟨_, _, ok_letters F5 T, F5.kp, b_5, m na5⟩
  have g_is_alphabet : Got l.prog w K mg base "is_alphabet" 2 ["value"] spAlphabet := ⟨_, _, ok_alphabet F6 T g_are_letters, F6.kp, b_6, m na6⟩
  have g_is_symbol_mark : Got l.prog w K mg base "is_symbol_mark" 1 ["mark"] spMark := ⟨_, _, ok_mark F7, F7.kp, b_7, m na7⟩
  have g_is_symbol : Got l.prog w K mg base "is_symbol" 2 ["value"] spSymbol := ⟨_, _, ok_symbol F8 T g_is_symbol_mark, F8.kp, b_8, m na8⟩
  have g_is_sign : Got l.prog w K mg base "is_sign" 1 ["letters", "value"] spSign := ⟨_, _, ok_sign F9 T, F9.kp, b_9, m na9⟩
  have g_is_top : Got l.prog w K mg base "is_top" 3 ["value"] spTop := ⟨_, _, ok_top F10 T g_is_symbol, F10.kp, b_10, m na10⟩
  have g_is_move : Got l.prog w K mg base "is_move" 3 ["sign", "value"] spMove := ⟨_, _, ok_move F11 g_is_between, F11.kp, b_11, m na11⟩
  have g_is_deed : Got l.prog w K mg base "is_deed" 3 ["top", "deed", "symbol"] spDeed := ⟨_, _, ok_deed F12 T D g_is_symbol, F12.kp, b_12, m na12⟩
  have g_is_state : Got l.prog w K mg base "is_state" 3 ["states", "value"] spState := ⟨_, _, ok_state F13 g_is_between, F13.kp, b_13, m na13⟩
  have g_is_rule : Got l.prog w K mg base "is_rule" 4 ["letters", "states", "value"] (spRule K) := ⟨_, _, ok_rule F14 ⟨g_is_row, g_is_state, g_is_sign, g_is_top, g_is_move, g_is_deed, g_are_letters⟩, F14.kp, b_14, m na14⟩
  have g_check_arguments : Got l.prog w K mg base "check_arguments" 5 ["letters", "states", "rules", "yes"] (spCheck K) := ⟨_, _, ok_check F15 T ⟨g_is_alphabet, g_is_between, g_is_sequence, g_is_rule, g_is_state, mS, mR⟩, F15.kp, b_15, m na15⟩
  have g_symbols_of : Got l.prog w K mg base "symbols_of" 1 ["rules"] (spSymbols K) := ⟨_, _, ok_symbols F16 T, F16.kp, b_16, m na16⟩
  have g_acts_by_key : Got l.prog w K mg base "acts_by_key" 1 ["rules"] (spActs K) := ⟨_, _, ok_acts F17 T, F17.kp, b_17, m na17⟩
  have g_first_guess : Got l.prog w K mg base "first_guess" 1 ["acts"] spGuess := ⟨_, _, ok_guess F18 T, F18.kp, b_18, m na18⟩
  have MD : MDef l.prog w K mg base C fI e0 _ := ⟨MC, MM, m nC, ok_init FI T ⟨g_check_arguments, g_symbols_of, g_acts_by_key, g_first_guess⟩ MC, b4, ⟨ds3, v3, b3⟩, kb, sE⟩
  have TN : mg "min" = none := PySem.W.mg_none_of X G z_min
  have TX : mg "max" = none := PySem.W.mg_none_of X G z_max
  have g_istext : Got l.prog w K mg base "is_text" 1 ["letters", "value"] spIsText := ⟨_, _, ok_isText F19 T ⟨cL⟩, F19.kp, b_19, m na19⟩
  have g_chtext : Got l.prog w K mg base "check_text" 2 ["machine", "text"] (spCheckText K C) := ⟨_, _, ok_checkText F21 MC g_istext, F21.kp, b_21, m na21⟩
  have g_chplain : Got l.prog w K mg base "check_plain" 3 ["machine", "text"] (spCheckPlain K C) := ⟨_, _, ok_checkPlain F22 MC g_chtext, F22.kp, b_22, m na22⟩
  have g_issurf : Got l.prog w K mg base "is_surface" 4 ["machine", "text", "value"] (spIsSurf K C) := ⟨_, _, ok_isSurf F20 T MC ⟨g_is_row, g_is_between, g_is_state⟩, F20.kp, b_20, m na20⟩
  have g_chsurf : Got l.prog w K mg base "check_surface" 5 ["machine", "text", "surface"] (spCheckSurf K C) := ⟨_, _, ok_checkSurf F23 g_issurf, F23.kp, b_23, m na23⟩
  have g_signs : Got l.prog w K mg base "signs_of" 1 ["text"] spSigns := ⟨_, _, ok_signs F24, F24.kp, b_24, m na24⟩
  have RC : RCls K R := ⟨⟨r1, r2, r3, r4⟩, n1, n2, n3, n4, n5⟩
  have HC : HCls K HS := ⟨⟨q1, q2, q3, q4⟩, o1, o2, o3, o4⟩
  have bRI := FRI.binds (ps := ["self", "machine", "text", "standing"]) fun _ _ _ _ _ _ us hl => match us, hl with | [_, _, _, _], _ => rfl
  have bRT := FRT.binds (ps := ["self"]) fun _ _ _ _ _ _ us hl => match us, hl with | [_], _ => rfl
  have bRF := FRF.binds (ps := ["self"]) fun _ _ _ _ _ _ us hl => match us, hl with | [_], _ => rfl
  have bRA := FRA.binds (ps := ["self", "act"]) fun _ _ _ _ _ _ us hl => match us, hl with | [_, _], _ => rfl
  have bAc := FAc.binds (ps := ["self", "state", "sign", "top"]) fun _ _ _ _ _ _ us hl => match us, hl with | [_, _, _, _], _ => rfl
  have bHI := FHI.binds (ps := ["self", "run"]) fun _ _ _ _ _ _ us hl => match us, hl with | [_, _], _ => rfl
  have bHN := FHN.binds (ps := ["self", "run"]) fun _ _ _ _ _ _ us hl => match us, hl with | [_, _], _ => rfl
  have okT := ok_rTop (P := l.prog) (w := w) (mg := mg) (base := base) FRT RC
  have okAc := ok_actsM (P := l.prog) (w := w) (mg := mg) (base := base) FAc MC
  have XD : XDef l.prog w K mg base C R HS := ⟨RC, HC, m nR, m nHS, ⟨_, _, ⟨k1, k2, k3, k4⟩, ok_rInit FRI T RC g_signs, bRI⟩, ⟨_, _, ⟨h1, h2, h3, h4⟩, ok_hInit FHI T HC RC, bHI⟩, ⟨_, _, ⟨ta, tb, tc⟩, okT, bRT⟩, ⟨_, _, ⟨qa, qb, qc⟩, ok_rFit FRF RC MC ⟨ta, tb, tc⟩ okT bRT ⟨ca, cb, cc⟩ okAc bAc, bRF⟩, ⟨_, _, ⟨aa, ab, ac⟩, ok_rApply FRA RC, bRA⟩, ⟨_, _, ⟨pa, pb, pc⟩, ok_hNote FHN T TX TN HC RC, bHN⟩⟩
  have g_excur : Got l.prog w K mg base "excursion" 6 ["machine", "text", "surface", "limit"] (spExcur K C) := ⟨_, _, ok_excur F25 T XD g_chplain g_chsurf, F25.kp, b_25, m na25⟩
  have g_same : Got l.prog w K mg base "_law_same" 5 ["told", "due"] (spSame K 3) := ⟨_, _, ok_same F27 T F26 b_26 (m na26) b_27 (m na27) 3, F27.kp, b_27, m na27⟩
  have g_cell : Got l.prog w K mg base "_law_cell" 1 ["script", "k"] (spCellA K) := ⟨_, _, ok_cell F28 T, F28.kp, b_28, m na28⟩
  have g_digits : Got l.prog w K mg base "_law_digits" 1 ["cell", "sizes"] (spDigits K) := ⟨_, _, ok_digits F29 T, F29.kp, b_29, m na29⟩
  have g_alpha : Got l.prog w K mg base "_law_alphabet" 1 ["row"] (spAlpha K) := ⟨_, _, ok_alpha F30, F30.kp, b_30, m na30⟩
  have g_syms : Got l.prog w K mg base "_law_symbols" 1 ["digit"] spSyms := ⟨_, _, ok_syms F31, F31.kp, b_31, m na31⟩
  have g_act : Got l.prog w K mg base "_law_act" 1 ["row", "states", "symbols", "sign", "top"] (spAct K) := ⟨_, _, ok_act F32 T, F32.kp, b_32, m na32⟩
  have g_caller : Got l.prog w K mg base "_law_caller" 1 ["letters", "one", "two", "modes"] (spCaller K) := ⟨_, _, ok_caller F33 T, F33.kp, b_33, m na33⟩
  have g_scanner : Got l.prog w K mg base "_law_scanner" 1 ["letters", "one", "two"] spSkel := ⟨_, _, ok_scanner F34 T, F34.kp, b_34, m na34⟩
  have g_restorer : Got l.prog w K mg base "_law_restorer" 1 ["letters", "one", "two"] spSkel5 := ⟨_, _, ok_restorer F35 T, F35.kp, b_35, m na35⟩
  have g_climber : Got l.prog w K mg base "_law_climber" 1 ["letters", "one", "two"] spSkel := ⟨_, _, ok_climber F36, F36.kp, b_36, m na36⟩
  have g_machine : Got l.prog w K mg base "_law_machine" 2 ["script", "at"] (spMach K) := ⟨_, _, ok_machine F37 T ⟨g_cell, g_digits, g_alpha, g_syms, g_act, g_caller, g_restorer, g_scanner, g_climber⟩, F37.kp, b_37, m na37⟩
  have g_lettered : Got l.prog w K mg base "_law_lettered" 2 ["script", "at", "drawn"] (spLettered K) := ⟨_, _, ok_lettered F38 T ⟨g_cell, g_digits, g_alpha, g_syms, g_act, g_caller, g_restorer, g_scanner, g_climber⟩, F38.kp, b_38, m na38⟩
  have g_symboled : Got l.prog w K mg base "_law_symboled" 2 ["script", "at", "drawn"] (spSymboled K) := ⟨_, _, ok_symboled F39 T ⟨g_cell, g_digits, g_alpha, g_syms, g_act, g_caller, g_restorer, g_scanner, g_climber⟩, F39.kp, b_39, m na39⟩
  have g_text : Got l.prog w K mg base "_law_text" 2 ["script", "at", "letters", "upto"] (spText K) := ⟨_, _, ok_text F40 T ⟨g_cell, g_digits, g_alpha, g_syms, g_act, g_caller, g_restorer, g_scanner, g_climber⟩, F40.kp, b_40, m na40⟩
  have g_lsign : Got l.prog w K mg base "_law_sign" 1 ["text", "place"] spSignAt := ⟨_, _, ok_signAt F41 T, F41.kp, b_41, m na41⟩
  have g_table : Got l.prog w K mg base "_law_table" 1 ["rules"] (spTable K) := ⟨_, _, ok_table F42, F42.kp, b_42, m na42⟩
  have g_ltop : Got l.prog w K mg base "_law_top" 1 ["stack"] (spTopL K) := ⟨_, _, ok_topL F43 T, F43.kp, b_43, m na43⟩
  have g_walk : Got l.prog w K mg base "_law_walk" 2 ["table", "text", "surface", "limit"] (spWalk K) := ⟨_, _, ok_walk F44 T g_lsign g_ltop, F44.kp, b_44, m na44⟩
  have g_once : Got l.prog w K mg base "_law_each_once" 1 ["values"] (spOnceS K) := ⟨_, _, ok_onceS F45 T, F45.kp, b_45, m na45⟩
  have g_known : Got l.prog w K mg base "_law_known" 2 ["rules"] (spKnown K) := ⟨_, _, ok_known F46 T g_once, F46.kp, b_46, m na46⟩
  have g_exc : Got l.prog w K mg base "_law_excursion" 1 ["walk"] (spExc K) := ⟨_, _, ok_exc F47 T TX TN, F47.kp, b_47, m na47⟩
  have g_right : Got l.prog w K mg base "_law_excursions_right" 7 ["machine", "table", "text", "surface", "digit", "limit", "most", "far"] (spRight K C) := ⟨_, _, ok_right F48 T g_walk g_exc g_excur g_same, F48.kp, b_48, m na48⟩
  exact ok_law FL T ⟨g_cell, g_digits, g_machine, g_lettered, g_symboled, g_text, g_table, g_known, g_right⟩ MD
end Mk

set_option Elab.async false
set_option maxRecDepth 100000
set_option maxHeartbeats 0
namespace Mk
open PySem L2 Pk
theorem glo_na {K : PySem.W.Frag} {x : Str} (c : (He.Fa.glo x).ok K = true) : PySem.W.nsIn K mainGlobals x = some (some (.ref (He.ga K x))) := He.eqO_ok c
theorem fun_of {K : PySem.W.Frag} {x qual : Str} {st : Stmt} {f : Addr} {fd : FuncData} (F : FunD K x qual (defArgs st) (defBody st) (defScope st) [] [] f fd) : Fun K x qual st f fd := by
  obtain ⟨⟨oc, od, dV, kV, doc, pm, an, cdv, ct, osl, hfd, lk, co, hd, _⟩, kp⟩ := F
  have e : dV = .none := by
    rcases hd with ⟨_, e⟩ | ⟨n, _⟩
    · exact e
    · exact absurd rfl n
  subst e
  exact ⟨⟨oc, od, kV, doc, pm, an, cdv, ct, osl, hfd, lk, co⟩, kp⟩
/-- a tuple in the head's part -/
def tupA (K : PySem.W.Frag) (a : Addr) (vs : List V) : Bool := match K.lookup a with
  | some ⟨.type c, _, .seq its _, _⟩ => decide (c = "tuple") && (decide (its.size ≤ sizeLine) && He.relAll vs its.toList)
  | _ => false
theorem tupA_ok {K : PySem.W.Frag} {a : Addr} {vs : List V} (h : tupA K a vs = true) (H : Hp) : SqT K H a vs := by
  unfold tupA at h
  cases q : K.lookup a with
  | none =>
    rw [q] at h
    cases h
  | some o =>
    obtain ⟨oc, od, dt, osl⟩ := o
    rw [q] at h
    cases oc with
    | type c =>
      cases dt with
      | seq its n =>
        obtain ⟨h1, h2⟩ := He.ba (show (decide (c = "tuple") && (decide (its.size ≤ sizeLine) && He.relAll vs its.toList)) = true from h)
        obtain ⟨h3, h4⟩ := He.ba h2
        exact .inr ⟨_, its, n, q, congrArg Value.type (of_decide_eq_true h1), rfl, of_decide_eq_true h3, He.relAll_ok h4⟩
      | _ => cases h
    | _ => cases dt <;> cases h
/-! what the facts look at: the names' objects, what they name; the ways of the classes -/
def kidsQ (g : Addr → Option Obj) (a : Addr) : List Addr := match g a with
  | some o => He.refsD o
  | none => []
def asQ (names cs : List Str) (g : Addr → Option Obj) : List Addr :=
  (fun K0 : PySem.W.Frag => (fun A1 B1 : List Addr => (fun B2 : List Addr => (fun B3 : List Addr => mainGlobals :: (A1 ++ (A1.flatMap (kidsQ g) ++ (B2 ++ (B3 ++ B3.flatMap (kidsQ g)))))) (B2.flatMap (kidsQ g))) (B1.flatMap (kidsQ g)))
    (names.map (He.ga K0)) ((cs.map (He.ga K0)).flatMap (kidsQ g))) (He.frG g [mainGlobals])
abbrev AlQ : Type := He.AlD × Bool × Option (List (Option (Str × Int) × Option Int))
/-- the table of the moves -/
def intQ : Value → Option Int
  | .int i _ => some i
  | _ => none
def movW (K : PySem.W.Frag) (a : Addr) : Option (List (Option (Str × Int) × Option Int)) := match K.lookup a with
  | some ⟨.type c, none, .dict es _, sl⟩ => (match decide (c = "dict") && (sl.isEmpty && !(a == sysModules)) with
    | true => some (es.toList.map fun e => (He.keyOf e, intQ e.val))
    | false => none)
  | _ => none
def movV (P : Params) : Option (List (Option (Str × Int) × Option Int)) := some [(some ("left", PyData.keyHash P "left"), some (-1)), (some ("stay", PyData.keyHash P "stay"), some 0), (some ("right", PyData.keyHash P "right"), some 1)]
def tabQ (b : Bool) (K : PySem.W.Frag) : Option (List (Option (Str × Int) × Option Int)) := match b with
  | true => movW K (He.ga K "MOVES")
  | false => none
def tabV (b : Bool) (P : Params) : Option (List (Option (Str × Int) × Option Int)) := match b with
  | true => movV P
  | false => none
theorem ent_of {e : DictEntry} {x : Str} {hh i : Int} (h : (He.keyOf e, intQ e.val) = (some (x, hh), some i)) : ∃ t s, e = ⟨hh, .str x t, .int i s⟩ := by
  injection h with h1 h2
  obtain ⟨eh, ek, ev⟩ := e
  cases ek with
  | str y t =>
    have h3 : (some (y, eh) : Option (Str × Int)) = some (x, hh) := h1
    injection h3 with h3
    injection h3 with a b
    cases ev with
    | int j s =>
      have h4 : (some j : Option Int) = some i := h2
      injection h4 with h4
      subst a b h4
      exact ⟨t, s, rfl⟩
    | _ => cases h2
  | _ => cases h1
theorem movW_ok {K : PySem.W.Frag} {P : Params} {a : Addr} (h : movW K a = movV P) : ∃ (n : Nat) (k1 k2 k3 v1 v2 v3 : Tok), K.lookup a = some ⟨.type "dict", none, .dict #[⟨PyData.keyHash P "left", .str "left" k1, .int (-1) v1⟩, ⟨PyData.keyHash P "stay", .str "stay" k2, .int 0 v2⟩, ⟨PyData.keyHash P "right", .str "right" k3, .int 1 v3⟩] n, #[]⟩ ∧ (a == sysModules) = false := by
  unfold movW at h
  cases q : K.lookup a with
  | none =>
    rw [q] at h
    cases h
  | some o =>
    obtain ⟨oc, od, dt, osl⟩ := o
    rw [q] at h
    cases oc with
    | type c =>
      cases od with
      | none =>
        cases dt with
        | dict es n =>
          have h1 : (match decide (c = "dict") && (osl.isEmpty && !(a == sysModules)) with
            | true => some (es.toList.map fun e => (He.keyOf e, intQ e.val))
            | false => none) = movV P := h
          cases z : decide (c = "dict") && (osl.isEmpty && !(a == sysModules)) with
          | false =>
            rw [z] at h1
            cases h1
          | true =>
            rw [z] at h1
            obtain ⟨z1, z2⟩ := He.ba z
            obtain ⟨z3, z4⟩ := He.ba z2
            have e1 : c = "dict" := of_decide_eq_true z1
            have e2 : osl = #[] := Array.isEmpty_iff.mp z3
            have e3 : (a == sysModules) = false := by
              cases y : a == sysModules with
              | false => rfl
              | true =>
                rw [y] at z4
                cases z4
            subst e1 e2
            have h2 := Option.some.inj h1
            obtain ⟨L⟩ := es
            have hl : L.length = 3 := by
              have z := congrArg List.length h2
              rw [List.length_map] at z
              exact z
            match L, hl, h2 with
            | [x1, x2, x3], _, h2 =>
              injection h2 with a1 h2
              injection h2 with a2 h2
              injection h2 with a3 h2
              obtain ⟨t1, s1, rfl⟩ := ent_of a1
              obtain ⟨t2, s2, rfl⟩ := ent_of a2
              obtain ⟨t3, s3, rfl⟩ := ent_of a3
              exact ⟨n, t1, t2, t3, s1, s2, s3, rfl, e3⟩
        | _ => cases h
      | some b => cases dt <;> cases h
    | _ => cases od <;> cases dt <;> cases h
def obsQ (fa : List He.Fa) (fn : List He.DefD) (ex : PySem.W.Frag → Bool) (tb : Bool) (names cs : List Str) (g : Addr → Option Obj) : AlQ := (fun K : PySem.W.Frag => ((He.obsD fa fn K, ex K, tabQ tb K) : AlQ)) (He.frG g (asQ names cs g))
def SaysQ (fa : List He.Fa) (fn : List He.DefD) (ex : PySem.W.Frag → Bool) (tb : Bool) (w : World) (K : PySem.W.Frag) : Prop := He.SaysD fa fn K ∧ ex K = true ∧ tabQ tb K = tabV tb w.params
def hookQ (fa : List He.Fa) (fn : List He.DefD) (ex : PySem.W.Frag → Bool) (tb : Bool) (names cs : List Str) : PySem.W.Hook where
  α := AlQ
  obs := fun s => obsQ fa fn ex tb names cs s.heap.get?
  val := fun w => (He.valD fn, true, tabV tb w.params)
  says := fun w h => ∃ K : PySem.W.Frag, K.In h ∧ SaysQ fa fn ex tb w K
  of := fun _ _ e => ⟨_, He.frG_in, congrArg (fun z : AlQ => z.1) e, congrArg (fun z : AlQ => z.2.1) e, congrArg (fun z : AlQ => z.2.2) e⟩
  keeps := fun _ _ _ ⟨K, hK, c⟩ k => ⟨K, PySem.W.Frag.In.keeps hK k, c⟩
theorem obsQ_eq {fa : List He.Fa} {fn : List He.DefD} {ex : PySem.W.Frag → Bool} {tb : Bool} {names cs : List Str} {g : Addr → Option Obj} {s : Shared} (h : ∀ a, g a = s.heap.get? a) : obsQ fa fn ex tb names cs g = (hookQ fa fn ex tb names cs).obs s := by
  have e : g = s.heap.get? := funext h
  rw [e] <;> rfl
/-- an own error class in the head's part -/
def oexB (K : PySem.W.Frag) (C : Addr) : Bool := match K.lookup C with
  | some ⟨.type "type", _, .cls cd, sl⟩ => (match cd.mro, sl.toList with
    | .ref C' :: bm, [_, _, _, _, some (.builtin n), _] => C' == C && n == "ValueError.__new__" && !cd.hasDel && cd.hasDict && PySem.HandSPX.refsVE bm
    | _, _ => false)
  | _ => false
theorem oexB_ok {K : PySem.W.Frag} {C : Addr} (q : oexB K C = true) : ∃ nm q N bs bm sn sub ab col dd k0 k1 k2 k3 k5, K.lookup C = some (excClassObj nm q C N bs bm true sn sub ab col dd k0 k1 k2 k3 k5 "ValueError.__new__") ∧ PySem.HandSPX.refsVE bm = true := by
  unfold oexB at q
  split at q
  · rename_i dd cd sl ho
    split at q
    · rename_i C' bm k0 k1 k2 k3 n k5 hm hs
      simp only [Bool.and_eq_true, beq_iff_eq, Bool.not_eq_true'] at q
      obtain ⟨⟨⟨⟨rfl, rfl⟩, hdel⟩, ht⟩, hok⟩ := q
      obtain ⟨nm, bs, mro, ns, qn, hd, sn, sub, ab, col, del⟩ := cd
      dsimp only at hm hdel ht hok
      subst hm hdel ht
      have hsl : sl = #[k0, k1, k2, k3, some (.builtin "ValueError.__new__"), k5] := by
        obtain ⟨l⟩ := sl
        simp only at hs
        rw [hs]
      subst hsl
      exact ⟨nm, qn, ns, bs, bm, sn, sub, ab, col, dd, k0, k1, k2, k3, k5, ho, hok⟩
    · cases q
  · cases q
def hfa : List He.Fa := [.glo "is_integer", .glo "is_between", .glo "is_sequence", .glo "is_row", .glo "are_letters", .glo "is_alphabet", .glo "is_symbol_mark", .glo "is_symbol", .glo "is_sign", .glo "is_top", .glo "is_move", .glo "is_deed", .glo "is_state", .glo "is_rule", .glo "check_arguments", .glo "symbols_of", .glo "acts_by_key", .glo "first_guess", .glo "is_text", .glo "is_surface", .glo "check_text", .glo "check_plain", .glo "check_surface", .glo "signs_of", .glo "excursion", .glo "_law_whole", .glo "_law_same", .glo "_law_cell", .glo "_law_digits", .glo "_law_alphabet", .glo "_law_symbols", .glo "_law_act", .glo "_law_caller", .glo "_law_scanner", .glo "_law_restorer", .glo "_law_climber", .glo "_law_machine", .glo "_law_lettered", .glo "_law_symboled", .glo "_law_text", .glo "_law_sign", .glo "_law_table", .glo "_law_top", .glo "_law_walk", .glo "_law_each_once", .glo "_law_known", .glo "_law_excursion", .glo "_law_excursions_right", .glo "law", .glo "Machine", .glo "DEEDS", .int "MOST_STATES" 2000, .int "MOST_RULES" 20000, .int "MOST_LETTERS" 400, .free "isinstance", .free "int", .free "bool", .free "str", .free "tuple", .free "list", .free "len", .free "range", .free "all", .free "sorted", .free "set", .free "abs", .free "max", .free "min", .glo "Run", .glo "Heights"]
def hfn0 : He.DefD := ⟨("is_integer", none), "is_integer", "is_integer", defArgs sInteger, defBody sInteger, defScope sInteger, [], []⟩
def hfn1 : He.DefD := ⟨("is_between", none), "is_between", "is_between", defArgs sBetween, defBody sBetween, defScope sBetween, [], []⟩
def hfn2 : He.DefD := ⟨("is_sequence", none), "is_sequence", "is_sequence", defArgs sSequence, defBody sSequence, defScope sSequence, [], []⟩
def hfn3 : He.DefD := ⟨("is_row", none), "is_row", "is_row", defArgs sRow, defBody sRow, defScope sRow, [], []⟩
def hfn4 : He.DefD := ⟨("are_letters", none), "are_letters", "are_letters", defArgs sLetters, defBody sLetters, defScope sLetters, [], []⟩
def hfn5 : He.DefD := ⟨("is_alphabet", none), "is_alphabet", "is_alphabet", defArgs sAlphabet, defBody sAlphabet, defScope sAlphabet, [], []⟩
def hfn6 : He.DefD := ⟨("is_symbol_mark", none), "is_symbol_mark", "is_symbol_mark", defArgs sMark, defBody sMark, defScope sMark, [], []⟩
def hfn7 : He.DefD := ⟨("is_symbol", none), "is_symbol", "is_symbol", defArgs sSymbol, defBody sSymbol, defScope sSymbol, [], []⟩
def hfn8 : He.DefD := ⟨("is_sign", none), "is_sign", "is_sign", defArgs sSign, defBody sSign, defScope sSign, [], []⟩
def hfn9 : He.DefD := ⟨("is_top", none), "is_top", "is_top", defArgs sTop, defBody sTop, defScope sTop, [], []⟩
def hfn10 : He.DefD := ⟨("is_move", none), "is_move", "is_move", defArgs sMove, defBody sMove, defScope sMove, [], []⟩
def hfn11 : He.DefD := ⟨("is_deed", none), "is_deed", "is_deed", defArgs sDeed, defBody sDeed, defScope sDeed, [], []⟩
def hfn12 : He.DefD := ⟨("is_state", none), "is_state", "is_state", defArgs sState, defBody sState, defScope sState, [], []⟩
def hfn13 : He.DefD := ⟨("is_rule", none), "is_rule", "is_rule", defArgs sRule, defBody sRule, defScope sRule, [], []⟩
def hfn14 : He.DefD := ⟨("check_arguments", none), "check_arguments", "check_arguments", defArgs sCheck, defBody sCheck, defScope sCheck, [], []⟩
def hfn15 : He.DefD := ⟨("symbols_of", none), "symbols_of", "symbols_of", defArgs sSymbols, defBody sSymbols, defScope sSymbols, [], []⟩
def hfn16 : He.DefD := ⟨("acts_by_key", none), "acts_by_key", "acts_by_key", defArgs sActs, defBody sActs, defScope sActs, [], []⟩
def hfn17 : He.DefD := ⟨("first_guess", none), "first_guess", "first_guess", defArgs sGuess, defBody sGuess, defScope sGuess, [], []⟩
def hfn18 : He.DefD := ⟨("is_text", none), "is_text", "is_text", defArgs sIsText, defBody sIsText, defScope sIsText, [], []⟩
def hfn19 : He.DefD := ⟨("is_surface", none), "is_surface", "is_surface", defArgs sIsSurf, defBody sIsSurf, defScope sIsSurf, [], []⟩
def hfn20 : He.DefD := ⟨("check_text", none), "check_text", "check_text", defArgs sCheckText, defBody sCheckText, defScope sCheckText, [], []⟩
def hfn21 : He.DefD := ⟨("check_plain", none), "check_plain", "check_plain", defArgs sCheckPlain, defBody sCheckPlain, defScope sCheckPlain, [], []⟩
def hfn22 : He.DefD := ⟨("check_surface", none), "check_surface", "check_surface", defArgs sCheckSurf, defBody sCheckSurf, defScope sCheckSurf, [], []⟩
def hfn23 : He.DefD := ⟨("signs_of", none), "signs_of", "signs_of", defArgs sSigns, defBody sSigns, defScope sSigns, [], []⟩
def hfn24 : He.DefD := ⟨("excursion", none), "excursion", "excursion", defArgs sExcur, defBody sExcur, defScope sExcur, [], []⟩
def hfn25 : He.DefD := ⟨("_law_whole", none), "_law_whole", "_law_whole", defArgs sWhole, defBody sWhole, defScope sWhole, [], []⟩
def hfn26 : He.DefD := ⟨("_law_same", none), "_law_same", "_law_same", defArgs sSame, defBody sSame, defScope sSame, [], []⟩
def hfn27 : He.DefD := ⟨("_law_cell", none), "_law_cell", "_law_cell", defArgs sCell, defBody sCell, defScope sCell, [], []⟩
def hfn28 : He.DefD := ⟨("_law_digits", none), "_law_digits", "_law_digits", defArgs sDigits, defBody sDigits, defScope sDigits, [], []⟩
def hfn29 : He.DefD := ⟨("_law_alphabet", none), "_law_alphabet", "_law_alphabet", defArgs sAlpha, defBody sAlpha, defScope sAlpha, [], []⟩
def hfn30 : He.DefD := ⟨("_law_symbols", none), "_law_symbols", "_law_symbols", defArgs sSyms, defBody sSyms, defScope sSyms, [], []⟩
def hfn31 : He.DefD := ⟨("_law_act", none), "_law_act", "_law_act", defArgs sAct, defBody sAct, defScope sAct, [], []⟩
def hfn32 : He.DefD := ⟨("_law_caller", none), "_law_caller", "_law_caller", defArgs sCaller, defBody sCaller, defScope sCaller, [], []⟩
def hfn33 : He.DefD := ⟨("_law_scanner", none), "_law_scanner", "_law_scanner", defArgs sScanner, defBody sScanner, defScope sScanner, [], []⟩
def hfn34 : He.DefD := ⟨("_law_restorer", none), "_law_restorer", "_law_restorer", defArgs sRestorer, defBody sRestorer, defScope sRestorer, [], []⟩
def hfn35 : He.DefD := ⟨("_law_climber", none), "_law_climber", "_law_climber", defArgs sClimber, defBody sClimber, defScope sClimber, [], []⟩
def hfn36 : He.DefD := ⟨("_law_machine", none), "_law_machine", "_law_machine", defArgs sMachine, defBody sMachine, defScope sMachine, [], []⟩
def hfn37 : He.DefD := ⟨("_law_lettered", none), "_law_lettered", "_law_lettered", defArgs sLettered, defBody sLettered, defScope sLettered, [], []⟩
def hfn38 : He.DefD := ⟨("_law_symboled", none), "_law_symboled", "_law_symboled", defArgs sSymboled, defBody sSymboled, defScope sSymboled, [], []⟩
def hfn39 : He.DefD := ⟨("_law_text", none), "_law_text", "_law_text", defArgs sText, defBody sText, defScope sText, [], []⟩
def hfn40 : He.DefD := ⟨("_law_sign", none), "_law_sign", "_law_sign", defArgs sSignAt, defBody sSignAt, defScope sSignAt, [], []⟩
def hfn41 : He.DefD := ⟨("_law_table", none), "_law_table", "_law_table", defArgs sTable, defBody sTable, defScope sTable, [], []⟩
def hfn42 : He.DefD := ⟨("_law_top", none), "_law_top", "_law_top", defArgs sTopOf, defBody sTopOf, defScope sTopOf, [], []⟩
def hfn43 : He.DefD := ⟨("_law_walk", none), "_law_walk", "_law_walk", defArgs sWalk, defBody sWalk, defScope sWalk, [], []⟩
def hfn44 : He.DefD := ⟨("_law_each_once", none), "_law_each_once", "_law_each_once", defArgs sOnce, defBody sOnce, defScope sOnce, [], []⟩
def hfn45 : He.DefD := ⟨("_law_known", none), "_law_known", "_law_known", defArgs sKnown, defBody sKnown, defScope sKnown, [], []⟩
def hfn46 : He.DefD := ⟨("_law_excursion", none), "_law_excursion", "_law_excursion", defArgs sExc, defBody sExc, defScope sExc, [], []⟩
def hfn47 : He.DefD := ⟨("_law_excursions_right", none), "_law_excursions_right", "_law_excursions_right", defArgs sRight, defBody sRight, defScope sRight, [], []⟩
def hfn48 : He.DefD := ⟨("law", none), "law", "law", defArgs sLaw, defBody sLaw, defScope sLaw, [], []⟩
def hfn49 : He.DefD := ⟨("Machine", some "__init__"), "__init__", "Machine.__init__", defArgs sInit, defBody sInit, defScope sInit, [.adr (He.dflAt ("Machine", some "__init__") 0)], []⟩
def hfn50 : He.DefD := ⟨("Run", some "__init__"), "__init__", "Run.__init__", defArgs sRInit, defBody sRInit, defScope sRInit, [], []⟩
def hfn51 : He.DefD := ⟨("Run", some "top"), "top", "Run.top", defArgs sRTop, defBody sRTop, defScope sRTop, [], []⟩
def hfn52 : He.DefD := ⟨("Run", some "fitting"), "fitting", "Run.fitting", defArgs sRFit, defBody sRFit, defScope sRFit, [], []⟩
def hfn53 : He.DefD := ⟨("Run", some "apply"), "apply", "Run.apply", defArgs sRApply, defBody sRApply, defScope sRApply, [], []⟩
def hfn54 : He.DefD := ⟨("Machine", some "acts"), "acts", "Machine.acts", defArgs sActsM, defBody sActsM, defScope sActsM, [], []⟩
def hfn55 : He.DefD := ⟨("Heights", some "__init__"), "__init__", "Heights.__init__", defArgs sHInit, defBody sHInit, defScope sHInit, [], []⟩
def hfn56 : He.DefD := ⟨("Heights", some "note"), "note", "Heights.note", defArgs sHNote, defBody sHNote, defScope sHNote, [], []⟩
def hfn : List He.DefD := [hfn0, hfn1, hfn2, hfn3, hfn4, hfn5, hfn6, hfn7, hfn8, hfn9, hfn10, hfn11, hfn12, hfn13, hfn14, hfn15, hfn16, hfn17, hfn18, hfn19, hfn20, hfn21, hfn22, hfn23, hfn24, hfn25, hfn26, hfn27, hfn28, hfn29, hfn30, hfn31, hfn32, hfn33, hfn34, hfn35, hfn36, hfn37, hfn38, hfn39, hfn40, hfn41, hfn42, hfn43, hfn44, hfn45, hfn46, hfn47, hfn48, hfn49, hfn50, hfn51, hfn52, hfn53, hfn54, hfn55, hfn56]
def hexL (K : PySem.W.Frag) : List Bool := [decide (PySem.W.plainGet K (He.ga K "Machine") Str.empty = true),
  decide (PySem.W.hasDictIn K (He.ga K "Machine") = true),
  decide (PySem.W.plainOver K (He.ga K "Machine") = true),
  decide (PySem.W.findIn K (.ref (He.ga K "Machine")) "__setattr__" = some (some (.builtin "object.__setattr__"))),
  decide (PySem.W.findIn K (.ref (He.ga K "Machine")) "letters" = some none),
  decide (PySem.W.findIn K (.ref (He.ga K "Machine")) "states" = some none),
  decide (PySem.W.findIn K (.ref (He.ga K "Machine")) "rules" = some none),
  decide (PySem.W.findIn K (.ref (He.ga K "Machine")) "yes" = some none),
  decide (PySem.W.findIn K (.ref (He.ga K "Machine")) "symbols" = some none),
  decide (PySem.W.findIn K (.ref (He.ga K "Machine")) "_acts" = some none),
  decide (PySem.W.findIn K (.ref (He.ga K "Machine")) "guess" = some none),
  decide (PySem.W.makesIn K (He.ga K "Machine") = true),
  decide (PySem.W.findIn K (.ref (He.ga K "Machine")) "__init__" = some (some (.ref (He.ma K (He.ga K "Machine") "__init__")))),
  decide (PySem.W.isFn K (.ref (He.ma K (He.ga K "Machine") "__init__")) = true),
  decide (PySem.W.keepIn K (.ref (He.ga K "Machine")) = true),
  tupA K (He.dflAt ("Machine", some "__init__") 0 K) [],
  tupA K (He.ga K "DEEDS") [.str "keep", .str "pop", .str "push", .str "swap"],
  decide (PySem.W.plainGet K (He.ga K "Run") Str.empty = true),
  decide (PySem.W.hasDictIn K (He.ga K "Run") = true),
  decide (PySem.W.plainOver K (He.ga K "Run") = true),
  decide (PySem.W.findIn K (.ref (He.ga K "Run")) "__setattr__" = some (some (.builtin "object.__setattr__"))),
  decide (PySem.W.plainGet K (He.ga K "Heights") Str.empty = true),
  decide (PySem.W.hasDictIn K (He.ga K "Heights") = true),
  decide (PySem.W.plainOver K (He.ga K "Heights") = true),
  decide (PySem.W.findIn K (.ref (He.ga K "Heights")) "__setattr__" = some (some (.builtin "object.__setattr__"))),
  decide (PySem.W.findIn K (.ref (He.ga K "Run")) "machine" = some none),
  decide (PySem.W.findIn K (.ref (He.ga K "Run")) "signs" = some none),
  decide (PySem.W.findIn K (.ref (He.ga K "Run")) "state" = some none),
  decide (PySem.W.findIn K (.ref (He.ga K "Run")) "place" = some none),
  decide (PySem.W.findIn K (.ref (He.ga K "Run")) "stack" = some none),
  decide (PySem.W.findIn K (.ref (He.ga K "Heights")) "first" = some none),
  decide (PySem.W.findIn K (.ref (He.ga K "Heights")) "rise" = some none),
  decide (PySem.W.findIn K (.ref (He.ga K "Heights")) "low" = some none),
  decide (PySem.W.findIn K (.ref (He.ga K "Heights")) "high" = some none),
  decide (PySem.W.makesIn K (He.ga K "Run") = true),
  decide (PySem.W.findIn K (.ref (He.ga K "Run")) "__init__" = some (some (.ref (He.ma K (He.ga K "Run") "__init__")))),
  decide (PySem.W.isFn K (.ref (He.ma K (He.ga K "Run") "__init__")) = true),
  decide (PySem.W.keepIn K (.ref (He.ga K "Run")) = true),
  decide (PySem.W.makesIn K (He.ga K "Heights") = true),
  decide (PySem.W.findIn K (.ref (He.ga K "Heights")) "__init__" = some (some (.ref (He.ma K (He.ga K "Heights") "__init__")))),
  decide (PySem.W.isFn K (.ref (He.ma K (He.ga K "Heights") "__init__")) = true),
  decide (PySem.W.keepIn K (.ref (He.ga K "Heights")) = true),
  decide (PySem.W.findIn K (.ref (He.ga K "Heights")) "note" = some (some (.ref (He.ma K (He.ga K "Heights") "note")))),
  decide (PySem.W.isFn K (.ref (He.ma K (He.ga K "Heights") "note")) = true),
  decide (PySem.W.keepIn K (.ref (He.ma K (He.ga K "Heights") "note")) = true),
  decide (PySem.W.findIn K (.ref (He.ga K "Run")) "fitting" = some (some (.ref (He.ma K (He.ga K "Run") "fitting")))),
  decide (PySem.W.isFn K (.ref (He.ma K (He.ga K "Run") "fitting")) = true),
  decide (PySem.W.keepIn K (.ref (He.ma K (He.ga K "Run") "fitting")) = true),
  decide (PySem.W.findIn K (.ref (He.ga K "Run")) "top" = some (some (.ref (He.ma K (He.ga K "Run") "top")))),
  decide (PySem.W.isFn K (.ref (He.ma K (He.ga K "Run") "top")) = true),
  decide (PySem.W.keepIn K (.ref (He.ma K (He.ga K "Run") "top")) = true),
  decide (PySem.W.findIn K (.ref (He.ga K "Run")) "apply" = some (some (.ref (He.ma K (He.ga K "Run") "apply")))),
  decide (PySem.W.isFn K (.ref (He.ma K (He.ga K "Run") "apply")) = true),
  decide (PySem.W.keepIn K (.ref (He.ma K (He.ga K "Run") "apply")) = true),
  decide (PySem.W.findIn K (.ref (He.ga K "Machine")) "acts" = some (some (.ref (He.ma K (He.ga K "Machine") "acts")))),
  decide (PySem.W.isFn K (.ref (He.ma K (He.ga K "Machine") "acts")) = true),
  decide (PySem.W.keepIn K (.ref (He.ma K (He.ga K "Machine") "acts")) = true)]
def hex_ (K : PySem.W.Frag) : Bool := (hexL K).all id
abbrev hR : PySem.W.OpenRow := PySem.W.OpenLaw.row PySem.Challenge.rw_pilerecall_k09_excursion_whole
def hnd0 : List Str := ["is_integer", "is_between", "is_sequence", "is_row", "are_letters", "is_alphabet", "is_symbol_mark", "is_symbol", "is_sign", "is_top", "is_move", "is_deed", "is_state", "is_rule", "check_arguments", "symbols_of", "acts_by_key", "first_guess", "is_text", "is_surface", "check_text", "check_plain", "check_surface", "signs_of", "excursion", "_law_whole", "_law_same", "_law_cell", "_law_digits", "_law_alphabet"]
def hnd1 : List Str := ["_law_symbols", "_law_act", "_law_caller", "_law_scanner", "_law_restorer", "_law_climber", "_law_machine", "_law_lettered", "_law_symboled", "_law_text", "_law_sign", "_law_table", "_law_top", "_law_walk", "_law_each_once", "_law_known", "_law_excursion", "_law_excursions_right", "law", "Machine", "DEEDS", "Run", "Heights"]
def hnd : List Str := hnd0 ++ hnd1
def hcs : List Str := ["Machine", "Run", "Heights"]
abbrev hk : PySem.W.Hook := hookQ hfa hfn hex_ false hnd hcs
def hob (s : PySem.W.SharedT) : AlQ := obsQ hfa hfn hex_ false hnd hcs (HandSHeadRun.getT s)
theorem hob_eq (s : PySem.W.SharedT) : hob s = hk.obs s.abs := obsQ_eq (HandSHeadRun.getT_eq s)
def hnm0 : List Str := ["RecallError", "BadMachine", "BadText", "Guesses", "BadSurface", "UnlikeLetters", "MOST_STATES", "MOST_RULES", "MOST_LETTERS", "DEEDS", "is_integer", "is_between", "is_sequence", "is_row", "are_letters", "is_alphabet", "is_text", "is_symbol_mark", "is_symbol", "is_sign", "is_top", "is_move", "is_deed", "is_state", "is_rule", "is_surface", "check_text", "check_plain", "check_surface", "signs_of"]
def hnm1 : List Str := ["Run", "Heights", "excursion", "other_states", "shifted_states", "joined_size", "entering_rules", "rewinding_rules", "shifted_rules", "joined_rules", "check_arguments", "symbols_of", "acts_by_key", "first_guess", "Machine", "_law_whole", "_law_same", "_law_cell", "_law_digits", "_law_alphabet", "_law_symbols", "_law_act", "_law_caller", "_law_scanner", "_law_restorer", "_law_climber", "_law_machine", "_law_lettered", "_law_symboled", "_law_text"]
def hnm2 : List Str := ["_law_sign", "_law_table", "_law_top", "_law_walk", "_law_each_once", "_law_known", "_law_excursion", "_law_excursions_right"]
def hnm : List Str := hnm0 ++ hnm1 ++ hnm2
theorem hrun (w : World) : HandSHeadRun.RunEq hR (PySem.W.view hR.prog [75]) hk hob 9000 hnm w := by
  intro os
  kernel_rfl
theorem hfacts {w : World} {K : PySem.W.Frag} {h : Heap} {mg : Str → Option Value} {fa : Addr} (X : K.In h) (G : h.Ns mainGlobals mg) (hf : mg ("law" : Str) = some (.ref fa)) (cx : SaysQ hfa hfn hex_ false w K) :
    ∃ fd : FuncData, (∀ (s : Shared) (v : Value), BindsTo s fd ⟨[v], []⟩ [("script", v)]) ∧ ∀ base : Heap, K.In base → base.Ns mainGlobals mg → FnOk (PySem.Challenge.rw_pilerecall_k09_excursion_whole).prog w K mg base CX0 8 fa fd ["script"] (spLaw K) := by
  have c : He.SaysD hfa hfn K := cx.1
  have b : ∀ (i : Nat) {x : Bool}, (hexL K)[i]? = some x → x = true := fun i x hx => List.all_eq_true.mp (show (hexL K).all id = true from cx.2.1) x (List.mem_of_getElem? hx)
  have d0 : ∃ fd, FunD K hfn0.name hfn0.qual hfn0.params hfn0.body hfn0.scope (hfn0.dvs K) (hfn0.kws K) (He.fAd K hfn0.at_) fd := c.def_ 0 (d := hfn0) rfl
  have d1 : ∃ fd, FunD K hfn1.name hfn1.qual hfn1.params hfn1.body hfn1.scope (hfn1.dvs K) (hfn1.kws K) (He.fAd K hfn1.at_) fd := c.def_ 1 (d := hfn1) rfl
  have d2 : ∃ fd, FunD K hfn2.name hfn2.qual hfn2.params hfn2.body hfn2.scope (hfn2.dvs K) (hfn2.kws K) (He.fAd K hfn2.at_) fd := c.def_ 2 (d := hfn2) rfl
  have d3 : ∃ fd, FunD K hfn3.name hfn3.qual hfn3.params hfn3.body hfn3.scope (hfn3.dvs K) (hfn3.kws K) (He.fAd K hfn3.at_) fd := c.def_ 3 (d := hfn3) rfl
  have d4 : ∃ fd, FunD K hfn4.name hfn4.qual hfn4.params hfn4.body hfn4.scope (hfn4.dvs K) (hfn4.kws K) (He.fAd K hfn4.at_) fd := c.def_ 4 (d := hfn4) rfl
  have d5 : ∃ fd, FunD K hfn5.name hfn5.qual hfn5.params hfn5.body hfn5.scope (hfn5.dvs K) (hfn5.kws K) (He.fAd K hfn5.at_) fd := c.def_ 5 (d := hfn5) rfl
  have d6 : ∃ fd, FunD K hfn6.name hfn6.qual hfn6.params hfn6.body hfn6.scope (hfn6.dvs K) (hfn6.kws K) (He.fAd K hfn6.at_) fd := c.def_ 6 (d := hfn6) rfl
  have d7 : ∃ fd, FunD K hfn7.name hfn7.qual hfn7.params hfn7.body hfn7.scope (hfn7.dvs K) (hfn7.kws K) (He.fAd K hfn7.at_) fd := c.def_ 7 (d := hfn7) rfl
  have d8 : ∃ fd, FunD K hfn8.name hfn8.qual hfn8.params hfn8.body hfn8.scope (hfn8.dvs K) (hfn8.kws K) (He.fAd K hfn8.at_) fd := c.def_ 8 (d := hfn8) rfl
  have d9 : ∃ fd, FunD K hfn9.name hfn9.qual hfn9.params hfn9.body hfn9.scope (hfn9.dvs K) (hfn9.kws K) (He.fAd K hfn9.at_) fd := c.def_ 9 (d := hfn9) rfl
  have d10 : ∃ fd, FunD K hfn10.name hfn10.qual hfn10.params hfn10.body hfn10.scope (hfn10.dvs K) (hfn10.kws K) (He.fAd K hfn10.at_) fd := c.def_ 10 (d := hfn10) rfl
  have d11 : ∃ fd, FunD K hfn11.name hfn11.qual hfn11.params hfn11.body hfn11.scope (hfn11.dvs K) (hfn11.kws K) (He.fAd K hfn11.at_) fd := c.def_ 11 (d := hfn11) rfl
  have d12 : ∃ fd, FunD K hfn12.name hfn12.qual hfn12.params hfn12.body hfn12.scope (hfn12.dvs K) (hfn12.kws K) (He.fAd K hfn12.at_) fd := c.def_ 12 (d := hfn12) rfl
  have d13 : ∃ fd, FunD K hfn13.name hfn13.qual hfn13.params hfn13.body hfn13.scope (hfn13.dvs K) (hfn13.kws K) (He.fAd K hfn13.at_) fd := c.def_ 13 (d := hfn13) rfl
  have d14 : ∃ fd, FunD K hfn14.name hfn14.qual hfn14.params hfn14.body hfn14.scope (hfn14.dvs K) (hfn14.kws K) (He.fAd K hfn14.at_) fd := c.def_ 14 (d := hfn14) rfl
  have d15 : ∃ fd, FunD K hfn15.name hfn15.qual hfn15.params hfn15.body hfn15.scope (hfn15.dvs K) (hfn15.kws K) (He.fAd K hfn15.at_) fd := c.def_ 15 (d := hfn15) rfl
  have d16 : ∃ fd, FunD K hfn16.name hfn16.qual hfn16.params hfn16.body hfn16.scope (hfn16.dvs K) (hfn16.kws K) (He.fAd K hfn16.at_) fd := c.def_ 16 (d := hfn16) rfl
  have d17 : ∃ fd, FunD K hfn17.name hfn17.qual hfn17.params hfn17.body hfn17.scope (hfn17.dvs K) (hfn17.kws K) (He.fAd K hfn17.at_) fd := c.def_ 17 (d := hfn17) rfl
  have d18 : ∃ fd, FunD K hfn18.name hfn18.qual hfn18.params hfn18.body hfn18.scope (hfn18.dvs K) (hfn18.kws K) (He.fAd K hfn18.at_) fd := c.def_ 18 (d := hfn18) rfl
  have d19 : ∃ fd, FunD K hfn19.name hfn19.qual hfn19.params hfn19.body hfn19.scope (hfn19.dvs K) (hfn19.kws K) (He.fAd K hfn19.at_) fd := c.def_ 19 (d := hfn19) rfl
  have d20 : ∃ fd, FunD K hfn20.name hfn20.qual hfn20.params hfn20.body hfn20.scope (hfn20.dvs K) (hfn20.kws K) (He.fAd K hfn20.at_) fd := c.def_ 20 (d := hfn20) rfl
  have d21 : ∃ fd, FunD K hfn21.name hfn21.qual hfn21.params hfn21.body hfn21.scope (hfn21.dvs K) (hfn21.kws K) (He.fAd K hfn21.at_) fd := c.def_ 21 (d := hfn21) rfl
  have d22 : ∃ fd, FunD K hfn22.name hfn22.qual hfn22.params hfn22.body hfn22.scope (hfn22.dvs K) (hfn22.kws K) (He.fAd K hfn22.at_) fd := c.def_ 22 (d := hfn22) rfl
  have d23 : ∃ fd, FunD K hfn23.name hfn23.qual hfn23.params hfn23.body hfn23.scope (hfn23.dvs K) (hfn23.kws K) (He.fAd K hfn23.at_) fd := c.def_ 23 (d := hfn23) rfl
  have d24 : ∃ fd, FunD K hfn24.name hfn24.qual hfn24.params hfn24.body hfn24.scope (hfn24.dvs K) (hfn24.kws K) (He.fAd K hfn24.at_) fd := c.def_ 24 (d := hfn24) rfl
  have d25 : ∃ fd, FunD K hfn25.name hfn25.qual hfn25.params hfn25.body hfn25.scope (hfn25.dvs K) (hfn25.kws K) (He.fAd K hfn25.at_) fd := c.def_ 25 (d := hfn25) rfl
  have d26 : ∃ fd, FunD K hfn26.name hfn26.qual hfn26.params hfn26.body hfn26.scope (hfn26.dvs K) (hfn26.kws K) (He.fAd K hfn26.at_) fd := c.def_ 26 (d := hfn26) rfl
  have d27 : ∃ fd, FunD K hfn27.name hfn27.qual hfn27.params hfn27.body hfn27.scope (hfn27.dvs K) (hfn27.kws K) (He.fAd K hfn27.at_) fd := c.def_ 27 (d := hfn27) rfl
  have d28 : ∃ fd, FunD K hfn28.name hfn28.qual hfn28.params hfn28.body hfn28.scope (hfn28.dvs K) (hfn28.kws K) (He.fAd K hfn28.at_) fd := c.def_ 28 (d := hfn28) rfl
  have d29 : ∃ fd, FunD K hfn29.name hfn29.qual hfn29.params hfn29.body hfn29.scope (hfn29.dvs K) (hfn29.kws K) (He.fAd K hfn29.at_) fd := c.def_ 29 (d := hfn29) rfl
  have d30 : ∃ fd, FunD K hfn30.name hfn30.qual hfn30.params hfn30.body hfn30.scope (hfn30.dvs K) (hfn30.kws K) (He.fAd K hfn30.at_) fd := c.def_ 30 (d := hfn30) rfl
  have d31 : ∃ fd, FunD K hfn31.name hfn31.qual hfn31.params hfn31.body hfn31.scope (hfn31.dvs K) (hfn31.kws K) (He.fAd K hfn31.at_) fd := c.def_ 31 (d := hfn31) rfl
  have d32 : ∃ fd, FunD K hfn32.name hfn32.qual hfn32.params hfn32.body hfn32.scope (hfn32.dvs K) (hfn32.kws K) (He.fAd K hfn32.at_) fd := c.def_ 32 (d := hfn32) rfl
  have d33 : ∃ fd, FunD K hfn33.name hfn33.qual hfn33.params hfn33.body hfn33.scope (hfn33.dvs K) (hfn33.kws K) (He.fAd K hfn33.at_) fd := c.def_ 33 (d := hfn33) rfl
  have d34 : ∃ fd, FunD K hfn34.name hfn34.qual hfn34.params hfn34.body hfn34.scope (hfn34.dvs K) (hfn34.kws K) (He.fAd K hfn34.at_) fd := c.def_ 34 (d := hfn34) rfl
  have d35 : ∃ fd, FunD K hfn35.name hfn35.qual hfn35.params hfn35.body hfn35.scope (hfn35.dvs K) (hfn35.kws K) (He.fAd K hfn35.at_) fd := c.def_ 35 (d := hfn35) rfl
  have d36 : ∃ fd, FunD K hfn36.name hfn36.qual hfn36.params hfn36.body hfn36.scope (hfn36.dvs K) (hfn36.kws K) (He.fAd K hfn36.at_) fd := c.def_ 36 (d := hfn36) rfl
  have d37 : ∃ fd, FunD K hfn37.name hfn37.qual hfn37.params hfn37.body hfn37.scope (hfn37.dvs K) (hfn37.kws K) (He.fAd K hfn37.at_) fd := c.def_ 37 (d := hfn37) rfl
  have d38 : ∃ fd, FunD K hfn38.name hfn38.qual hfn38.params hfn38.body hfn38.scope (hfn38.dvs K) (hfn38.kws K) (He.fAd K hfn38.at_) fd := c.def_ 38 (d := hfn38) rfl
  have d39 : ∃ fd, FunD K hfn39.name hfn39.qual hfn39.params hfn39.body hfn39.scope (hfn39.dvs K) (hfn39.kws K) (He.fAd K hfn39.at_) fd := c.def_ 39 (d := hfn39) rfl
  have d40 : ∃ fd, FunD K hfn40.name hfn40.qual hfn40.params hfn40.body hfn40.scope (hfn40.dvs K) (hfn40.kws K) (He.fAd K hfn40.at_) fd := c.def_ 40 (d := hfn40) rfl
  have d41 : ∃ fd, FunD K hfn41.name hfn41.qual hfn41.params hfn41.body hfn41.scope (hfn41.dvs K) (hfn41.kws K) (He.fAd K hfn41.at_) fd := c.def_ 41 (d := hfn41) rfl
  have d42 : ∃ fd, FunD K hfn42.name hfn42.qual hfn42.params hfn42.body hfn42.scope (hfn42.dvs K) (hfn42.kws K) (He.fAd K hfn42.at_) fd := c.def_ 42 (d := hfn42) rfl
  have d43 : ∃ fd, FunD K hfn43.name hfn43.qual hfn43.params hfn43.body hfn43.scope (hfn43.dvs K) (hfn43.kws K) (He.fAd K hfn43.at_) fd := c.def_ 43 (d := hfn43) rfl
  have d44 : ∃ fd, FunD K hfn44.name hfn44.qual hfn44.params hfn44.body hfn44.scope (hfn44.dvs K) (hfn44.kws K) (He.fAd K hfn44.at_) fd := c.def_ 44 (d := hfn44) rfl
  have d45 : ∃ fd, FunD K hfn45.name hfn45.qual hfn45.params hfn45.body hfn45.scope (hfn45.dvs K) (hfn45.kws K) (He.fAd K hfn45.at_) fd := c.def_ 45 (d := hfn45) rfl
  have d46 : ∃ fd, FunD K hfn46.name hfn46.qual hfn46.params hfn46.body hfn46.scope (hfn46.dvs K) (hfn46.kws K) (He.fAd K hfn46.at_) fd := c.def_ 46 (d := hfn46) rfl
  have d47 : ∃ fd, FunD K hfn47.name hfn47.qual hfn47.params hfn47.body hfn47.scope (hfn47.dvs K) (hfn47.kws K) (He.fAd K hfn47.at_) fd := c.def_ 47 (d := hfn47) rfl
  have d48 : ∃ fd, FunD K hfn48.name hfn48.qual hfn48.params hfn48.body hfn48.scope (hfn48.dvs K) (hfn48.kws K) (He.fAd K hfn48.at_) fd := c.def_ 48 (d := hfn48) rfl
  have d49 : ∃ fd, FunD K hfn49.name hfn49.qual hfn49.params hfn49.body hfn49.scope (hfn49.dvs K) (hfn49.kws K) (He.fAd K hfn49.at_) fd := c.def_ 49 (d := hfn49) rfl
  have d50 : ∃ fd, FunD K hfn50.name hfn50.qual hfn50.params hfn50.body hfn50.scope (hfn50.dvs K) (hfn50.kws K) (He.fAd K hfn50.at_) fd := c.def_ 50 (d := hfn50) rfl
  have d51 : ∃ fd, FunD K hfn51.name hfn51.qual hfn51.params hfn51.body hfn51.scope (hfn51.dvs K) (hfn51.kws K) (He.fAd K hfn51.at_) fd := c.def_ 51 (d := hfn51) rfl
  have d52 : ∃ fd, FunD K hfn52.name hfn52.qual hfn52.params hfn52.body hfn52.scope (hfn52.dvs K) (hfn52.kws K) (He.fAd K hfn52.at_) fd := c.def_ 52 (d := hfn52) rfl
  have d53 : ∃ fd, FunD K hfn53.name hfn53.qual hfn53.params hfn53.body hfn53.scope (hfn53.dvs K) (hfn53.kws K) (He.fAd K hfn53.at_) fd := c.def_ 53 (d := hfn53) rfl
  have d54 : ∃ fd, FunD K hfn54.name hfn54.qual hfn54.params hfn54.body hfn54.scope (hfn54.dvs K) (hfn54.kws K) (He.fAd K hfn54.at_) fd := c.def_ 54 (d := hfn54) rfl
  have d55 : ∃ fd, FunD K hfn55.name hfn55.qual hfn55.params hfn55.body hfn55.scope (hfn55.dvs K) (hfn55.kws K) (He.fAd K hfn55.at_) fd := c.def_ 55 (d := hfn55) rfl
  have d56 : ∃ fd, FunD K hfn56.name hfn56.qual hfn56.params hfn56.body hfn56.scope (hfn56.dvs K) (hfn56.kws K) (He.fAd K hfn56.at_) fd := c.def_ 56 (d := hfn56) rfl
  obtain ⟨fd0, d0⟩ := d0
  obtain ⟨fd1, d1⟩ := d1
  obtain ⟨fd2, d2⟩ := d2
  obtain ⟨fd3, d3⟩ := d3
  obtain ⟨fd4, d4⟩ := d4
  obtain ⟨fd5, d5⟩ := d5
  obtain ⟨fd6, d6⟩ := d6
  obtain ⟨fd7, d7⟩ := d7
  obtain ⟨fd8, d8⟩ := d8
  obtain ⟨fd9, d9⟩ := d9
  obtain ⟨fd10, d10⟩ := d10
  obtain ⟨fd11, d11⟩ := d11
  obtain ⟨fd12, d12⟩ := d12
  obtain ⟨fd13, d13⟩ := d13
  obtain ⟨fd14, d14⟩ := d14
  obtain ⟨fd15, d15⟩ := d15
  obtain ⟨fd16, d16⟩ := d16
  obtain ⟨fd17, d17⟩ := d17
  obtain ⟨fd18, d18⟩ := d18
  obtain ⟨fd19, d19⟩ := d19
  obtain ⟨fd20, d20⟩ := d20
  obtain ⟨fd21, d21⟩ := d21
  obtain ⟨fd22, d22⟩ := d22
  obtain ⟨fd23, d23⟩ := d23
  obtain ⟨fd24, d24⟩ := d24
  obtain ⟨fd25, d25⟩ := d25
  obtain ⟨fd26, d26⟩ := d26
  obtain ⟨fd27, d27⟩ := d27
  obtain ⟨fd28, d28⟩ := d28
  obtain ⟨fd29, d29⟩ := d29
  obtain ⟨fd30, d30⟩ := d30
  obtain ⟨fd31, d31⟩ := d31
  obtain ⟨fd32, d32⟩ := d32
  obtain ⟨fd33, d33⟩ := d33
  obtain ⟨fd34, d34⟩ := d34
  obtain ⟨fd35, d35⟩ := d35
  obtain ⟨fd36, d36⟩ := d36
  obtain ⟨fd37, d37⟩ := d37
  obtain ⟨fd38, d38⟩ := d38
  obtain ⟨fd39, d39⟩ := d39
  obtain ⟨fd40, d40⟩ := d40
  obtain ⟨fd41, d41⟩ := d41
  obtain ⟨fd42, d42⟩ := d42
  obtain ⟨fd43, d43⟩ := d43
  obtain ⟨fd44, d44⟩ := d44
  obtain ⟨fd45, d45⟩ := d45
  obtain ⟨fd46, d46⟩ := d46
  obtain ⟨fd47, d47⟩ := d47
  obtain ⟨fd48, d48⟩ := d48
  obtain ⟨fd49, d49⟩ := d49
  obtain ⟨fd50, d50⟩ := d50
  obtain ⟨fd51, d51⟩ := d51
  obtain ⟨fd52, d52⟩ := d52
  obtain ⟨fd53, d53⟩ := d53
  obtain ⟨fd54, d54⟩ := d54
  obtain ⟨fd55, d55⟩ := d55
  obtain ⟨fd56, d56⟩ := d56
  exact all_mk (l := PySem.Challenge.rw_pilerecall_k09_excursion_whole) X G hf
    (glo_na (c.fact 0 rfl))
    (fun_of d0)
    (glo_na (c.fact 1 rfl))
    (fun_of d1)
    (glo_na (c.fact 2 rfl))
    (fun_of d2)
    (glo_na (c.fact 3 rfl))
    (fun_of d3)
    (glo_na (c.fact 4 rfl))
    (fun_of d4)
    (glo_na (c.fact 5 rfl))
    (fun_of d5)
    (glo_na (c.fact 6 rfl))
    (fun_of d6)
    (glo_na (c.fact 7 rfl))
    (fun_of d7)
    (glo_na (c.fact 8 rfl))
    (fun_of d8)
    (glo_na (c.fact 9 rfl))
    (fun_of d9)
    (glo_na (c.fact 10 rfl))
    (fun_of d10)
    (glo_na (c.fact 11 rfl))
    (fun_of d11)
    (glo_na (c.fact 12 rfl))
    (fun_of d12)
    (glo_na (c.fact 13 rfl))
    (fun_of d13)
    (glo_na (c.fact 14 rfl))
    (fun_of d14)
    (glo_na (c.fact 15 rfl))
    (fun_of d15)
    (glo_na (c.fact 16 rfl))
    (fun_of d16)
    (glo_na (c.fact 17 rfl))
    (fun_of d17)
    (glo_na (c.fact 18 rfl))
    (fun_of d18)
    (glo_na (c.fact 19 rfl))
    (fun_of d19)
    (glo_na (c.fact 20 rfl))
    (fun_of d20)
    (glo_na (c.fact 21 rfl))
    (fun_of d21)
    (glo_na (c.fact 22 rfl))
    (fun_of d22)
    (glo_na (c.fact 23 rfl))
    (fun_of d23)
    (glo_na (c.fact 24 rfl))
    (fun_of d24)
    (glo_na (c.fact 25 rfl))
    (fun_of d25)
    (glo_na (c.fact 26 rfl))
    (fun_of d26)
    (glo_na (c.fact 27 rfl))
    (fun_of d27)
    (glo_na (c.fact 28 rfl))
    (fun_of d28)
    (glo_na (c.fact 29 rfl))
    (fun_of d29)
    (glo_na (c.fact 30 rfl))
    (fun_of d30)
    (glo_na (c.fact 31 rfl))
    (fun_of d31)
    (glo_na (c.fact 32 rfl))
    (fun_of d32)
    (glo_na (c.fact 33 rfl))
    (fun_of d33)
    (glo_na (c.fact 34 rfl))
    (fun_of d34)
    (glo_na (c.fact 35 rfl))
    (fun_of d35)
    (glo_na (c.fact 36 rfl))
    (fun_of d36)
    (glo_na (c.fact 37 rfl))
    (fun_of d37)
    (glo_na (c.fact 38 rfl))
    (fun_of d38)
    (glo_na (c.fact 39 rfl))
    (fun_of d39)
    (glo_na (c.fact 40 rfl))
    (fun_of d40)
    (glo_na (c.fact 41 rfl))
    (fun_of d41)
    (glo_na (c.fact 42 rfl))
    (fun_of d42)
    (glo_na (c.fact 43 rfl))
    (fun_of d43)
    (glo_na (c.fact 44 rfl))
    (fun_of d44)
    (glo_na (c.fact 45 rfl))
    (fun_of d45)
    (glo_na (c.fact 46 rfl))
    (fun_of d46)
    (glo_na (c.fact 47 rfl))
    (fun_of d47)
    (glo_na (c.fact 48 rfl))
    (fun_of d48)
    (glo_na (c.fact 49 rfl))
    (of_decide_eq_true (b 0 rfl))
    (of_decide_eq_true (b 1 rfl))
    (of_decide_eq_true (b 2 rfl))
    (of_decide_eq_true (b 3 rfl))
    (of_decide_eq_true (b 4 rfl))
    (of_decide_eq_true (b 5 rfl))
    (of_decide_eq_true (b 6 rfl))
    (of_decide_eq_true (b 7 rfl))
    (of_decide_eq_true (b 8 rfl))
    (of_decide_eq_true (b 9 rfl))
    (of_decide_eq_true (b 10 rfl))
    (of_decide_eq_true (b 11 rfl))
    (of_decide_eq_true (b 12 rfl))
    (of_decide_eq_true (b 13 rfl))
    (of_decide_eq_true (b 14 rfl))
    d49
    (tupA_ok (b 15 rfl))
    (glo_na (c.fact 50 rfl))
    (tupA_ok (b 16 rfl))
    (He.int_ok X G (c.fact 51 rfl))
    (He.int_ok X G (c.fact 52 rfl))
    (He.int_ok X G (c.fact 53 rfl))
    (He.eqO_ok (c.fact 54 rfl))
    (He.eqO_ok (c.fact 55 rfl))
    (He.eqO_ok (c.fact 56 rfl))
    (He.eqO_ok (c.fact 57 rfl))
    (He.eqO_ok (c.fact 58 rfl))
    (He.eqO_ok (c.fact 59 rfl))
    (He.eqO_ok (c.fact 60 rfl))
    (He.eqO_ok (c.fact 61 rfl))
    (He.eqO_ok (c.fact 62 rfl))
    (He.eqO_ok (c.fact 63 rfl))
    (He.eqO_ok (c.fact 64 rfl))
    (He.eqO_ok (c.fact 65 rfl))
    (He.eqO_ok (c.fact 66 rfl))
    (He.eqO_ok (c.fact 67 rfl))
    (glo_na (c.fact 68 rfl))
    (glo_na (c.fact 69 rfl))
    (fun_of d50)
    (fun_of d51)
    (fun_of d52)
    (fun_of d53)
    (fun_of d54)
    (fun_of d55)
    (fun_of d56)
    (of_decide_eq_true (b 17 rfl))
    (of_decide_eq_true (b 18 rfl))
    (of_decide_eq_true (b 19 rfl))
    (of_decide_eq_true (b 20 rfl))
    (of_decide_eq_true (b 21 rfl))
    (of_decide_eq_true (b 22 rfl))
    (of_decide_eq_true (b 23 rfl))
    (of_decide_eq_true (b 24 rfl))
    (of_decide_eq_true (b 25 rfl))
    (of_decide_eq_true (b 26 rfl))
    (of_decide_eq_true (b 27 rfl))
    (of_decide_eq_true (b 28 rfl))
    (of_decide_eq_true (b 29 rfl))
    (of_decide_eq_true (b 30 rfl))
    (of_decide_eq_true (b 31 rfl))
    (of_decide_eq_true (b 32 rfl))
    (of_decide_eq_true (b 33 rfl))
    (of_decide_eq_true (b 34 rfl))
    (of_decide_eq_true (b 35 rfl))
    (of_decide_eq_true (b 36 rfl))
    (of_decide_eq_true (b 37 rfl))
    (of_decide_eq_true (b 38 rfl))
    (of_decide_eq_true (b 39 rfl))
    (of_decide_eq_true (b 40 rfl))
    (of_decide_eq_true (b 41 rfl))
    (of_decide_eq_true (b 42 rfl))
    (of_decide_eq_true (b 43 rfl))
    (of_decide_eq_true (b 44 rfl))
    (of_decide_eq_true (b 45 rfl))
    (of_decide_eq_true (b 46 rfl))
    (of_decide_eq_true (b 47 rfl))
    (of_decide_eq_true (b 48 rfl))
    (of_decide_eq_true (b 49 rfl))
    (of_decide_eq_true (b 50 rfl))
    (of_decide_eq_true (b 51 rfl))
    (of_decide_eq_true (b 52 rfl))
    (of_decide_eq_true (b 53 rfl))
    (of_decide_eq_true (b 54 rfl))
    (of_decide_eq_true (b 55 rfl))
    (of_decide_eq_true (b 56 rfl))
end Mk
open PySem PySem.W PySem.Calls PyProof.Rows
theorem PySem.Challenge.cw_pilerecall_k09_excursion_whole_holds : PySem.Challenge.rw_pilerecall_k09_excursion_whole.Holds := by
  w_on; o_law
  refine HandSHeadRun.head_any (r := OpenLaw.row PySem.Challenge.rw_pilerecall_k09_excursion_whole) (q := view (OpenLaw.row PySem.Challenge.rw_pilerecall_k09_excursion_whole).prog [75]) (H := Mk.hk) (ob := Mk.hob) (M := 9000) (loose := Mk.hnm) (d := HandSHeadRun.topDef (OpenLaw.row PySem.Challenge.rw_pilerecall_k09_excursion_whole).prog 75) (kwd := []) Mk.hob_eq
    (by kernel_rfl) (fun s => by kernel_rfl) Mk.hrun (by kernel_rfl) (by kernel_rfl) (by kernel_rfl) (by rfl) (by first | assumption | decide +kernel) (by decide +kernel) ⟨rfl, rfl, rfl, rfl, rfl, by decide +kernel⟩ ?hw ?hc
  case hw => w_witness2
  case hc =>
    refine L2.walk_ofE (l := PySem.Challenge.rw_pilerecall_k09_excursion_whole) (n := 63) (k := 8) (x := "script") (CX := L2.CX0) rfl (by decide) (by kernel_rfl) ⟨rfl, by decide, by decide⟩ ?F (fun _ _ _ _ z => z)
    intro w mg fa h Y G hmg0
    obtain ⟨K, KX, c⟩ := Y
    have hmg : mg ("law" : PySem.Str) = some (.ref fa) := by
      have e : (HandSHeadRun.topDef (OpenLaw.row PySem.Challenge.rw_pilerecall_k09_excursion_whole).prog 75).name = ("law" : PySem.Str) := by kernel_rfl
      rw [← e]
      exact hmg0
    obtain ⟨fd, hb, hF⟩ := Mk.hfacts (w := w) KX G hmg c
    exact ⟨K, fd, Mk.spLaw K, KX, hb, fun H a ns hl _ hS => ⟨a, ns, rfl, hS, fun _ => rfl⟩, hF⟩

