import PyProof.Rows.All
import Wide.All
import OpenK.AllK
import Wide.FinOn
import HandS.ForMost
import HandS.Wide
import HandS.EndBits
import HandS.IsInst
import HandS.Conv
import HandS.Defaults
import HandS.Walk
import HandS.Steps
import HandS.ForExc
import HandS.Codes
import HandS.HotCalls
import HandS.ExcInitHot
import HandS.ExcField
import KE.KExcIs
import HandS.TupSets
import HandS.SetBool
import HandS.Dict
import HandS.SortOrd
import HandS.SortRule
import HandS.SetKeys
import HandS.DictComp
import PyProof.DictMoreH
import HandS.SetFor
import HandS.SortInts
import HandS.Strs
import HandS.MakeKw
import KE.KStateDown
import HandS.Base
import HandS.Call
import HandS.Ends
import HandS.Head0
import HandS.Head1
import HandS.Head2
import HandS.HeadEnd
import HandS.HeadHook1
import HandS.HeadHook2
import HandS.HeadHook3
import HandS.HeadHook4
import PySem.Challenge.RW_pilerecall_k01_bad_machines
set_option Elab.async false
set_option maxRecDepth 100000
set_option maxHeartbeats 4000000
namespace Pk
open PySem L2

/-! deep data in the heap -/
theorem Same.tup {K : PySem.W.Frag} {H H' : Hp} {a : Addr} {xs : List V} (e : Same H H') (h : SqT K H a xs) : SqT K H' a xs := by
  rcases h with (h | ⟨o, h⟩) | h
  · exact .inl (.inl (e _ _ h))
  · exact .inl (.inr ⟨o, e _ _ h⟩)
  · exact .inr h
mutual
theorem dp_mono {K : PySem.W.Frag} {H H' : Hp} (e : Same H H') : ∀ (d : PyData) (v : V), Dp K H v d → Dp K H' v d
  | .none, _, h => by cases h; exact .non
  | .bool _, _, h => by cases h; exact .bl _
  | .int _, _, h => by cases h; exact .int _
  | .str _, _, h => by cases h; exact .str _
  | .list ds, _, h => by
    cases h with
    | lst hs ha => exact .lst (e.seq hs) (dpa_mono e ds _ ha)
  | .tuple ds, _, h => by
    cases h with
    | tup hs ha => exact .tup (Same.tup e hs) (dpa_mono e ds _ ha)
  | .dict _, _, h => by cases h
theorem dpa_mono {K : PySem.W.Frag} {H H' : Hp} (e : Same H H') : ∀ (ds : List PyData) (vs : List V), DpAll K H vs ds → DpAll K H' vs ds
  | [], _, h => by cases h; exact .nil
  | d :: ds, _, h => by
    cases h with
    | cons h1 h2 => exact .cons (dp_mono e d _ h1) (dpa_mono e ds _ h2)
end
theorem dpa_len {K : PySem.W.Frag} {H : Hp} : ∀ {ds : List PyData} {vs : List V}, DpAll K H vs ds → vs.length = ds.length
  | [], _, h => by cases h; rfl
  | _ :: _, _, h => by
    cases h with
    | cons _ h2 => rw [List.length_cons, List.length_cons, dpa_len h2]
theorem dpa_get {K : PySem.W.Frag} {H : Hp} : ∀ {ds : List PyData} {vs : List V} {i : Nat} {v : V}, DpAll K H vs ds → vs[i]? = some v → ∃ d, ds[i]? = some d ∧ Dp K H v d
  | [], _, i, v, h, e => by cases h; simp at e
  | d :: ds, _, 0, v, h, e => by
    cases h with
    | cons h1 h2 => simp at e; subst e; exact ⟨d, rfl, h1⟩
  | d :: ds, _, i + 1, v, h, e => by
    cases h with
    | cons h1 h2 =>
      obtain ⟨x, e1, e2⟩ := dpa_get (i := i) (v := v) h2 (by simpa using e)
      exact ⟨x, by simpa using e1, e2⟩
theorem dpa_append {K : PySem.W.Frag} {H : Hp} : ∀ {ds es : List PyData} {vs us : List V}, DpAll K H vs ds → DpAll K H us es → DpAll K H (vs ++ us) (ds ++ es)
  | [], _, _, _, h, g => by cases h; exact g
  | _ :: _, _, _, _, h, g => by
    cases h with
    | cons h1 h2 => exact .cons h1 (dpa_append h2 g)
theorem same_new {H : Hp} {p : Addr} {o : HO} (h : H p = none) : Same H (upd H p o) := fun b u e => by
  rw [upd_ne (ne_of_none e h)]
  exact e
/-- what H0 did not know may change -/
theorem same_mut {H0 H : Hp} {p : Addr} {o : HO} (e : Same H0 H) (h : H0 p = none) : Same H0 (upd H p o) := fun b u q => by
  rw [upd_ne (ne_of_none q h)]
  exact e b u q
/-- the heap without what stands at q -/
def hide (q : Addr) (H : Hp) : Hp := fun b => if b = q then none else H b
theorem hide_ne {q b : Addr} {H : Hp} (h : b ≠ q) : hide q H b = H b := if_neg h
theorem hide_same {q : Addr} {H : Hp} : hide q H q = none := if_pos rfl
theorem hide_le {q : Addr} {H : Hp} : Same (hide q H) H := fun b o e => by
  by_cases h : b = q
  · rw [h, hide_same] at e
    cases e
  · rw [hide_ne h] at e
    exact e
theorem hide_upd {q : Addr} {H : Hp} {o : HO} : hide q (upd H q o) = hide q H := by
  funext b
  by_cases h : b = q
  · rw [h, hide_same, hide_same]
  · rw [hide_ne h, hide_ne h, upd_ne h]
theorem hide_new {q r : Addr} {H : Hp} {o : HO} (h : r ≠ q) : hide q (upd H r o) = upd (hide q H) r o := by
  funext b
  by_cases e : b = q
  · rw [e, hide_same, upd_ne h.symm, hide_same]
  · rw [hide_ne e]
    by_cases e2 : b = r
    · rw [e2, upd_same, upd_same]
    · rw [upd_ne e2, upd_ne e2, hide_ne e]
theorem hide_base {q : Addr} {H0 H : Hp} (e : Same H0 H) (h : H0 q = none) : Same H0 (hide q H) := fun b o z => by
  rw [hide_ne (ne_of_none z h)]
  exact e b o z
theorem hide_mono {q : Addr} {H H' : Hp} (e : Same H H') : Same (hide q H) (hide q H') := fun b o z => by
  by_cases h : b = q
  · rw [h, hide_same] at z
    cases z
  · rw [hide_ne h] at z ⊢
    exact e b o z
theorem hide_none {q r : Addr} {H : Hp} (h : H r = none) : hide q H r = none := by
  by_cases e : r = q
  · rw [e, hide_same]
  · rw [hide_ne e, h]
/-- of H' what H did not know -/
def newOnly (H H' : Hp) : Hp := fun b => match H b with
  | none => H' b
  | some _ => none
theorem newOnly_at {H H' : Hp} {a : Addr} {o : HO} (h : H a = none) (e : H' a = some o) : newOnly H H' a = some o := by
  unfold newOnly
  rw [h]
  exact e
theorem newOnly_hide {H H' : Hp} {q : Addr} {o : HO} (h : H q = some o) : Same (newOnly H H') (hide q H') := fun b u e => by
  unfold newOnly at e
  cases z : H b with
  | none =>
    rw [z] at e
    rw [hide_ne (ne_of_none h z).symm]
    exact e
  | some y =>
    rw [z] at e
    cases e
theorem mapInt {ns : List Int} {i : Nat} {v : V} (h : (ns.map V.int)[i]? = some v) : ∃ z, ns[i]? = some z ∧ v = V.int z := by
  rw [List.getElem?_map] at h
  cases e : ns[i]? with
  | none => rw [e] at h; cases h
  | some z => rw [e] at h; exact ⟨z, rfl, (Option.some.inj h).symm⟩

/-- the built-in names that are used -/
structure TB (mg : Str → Option Value) : Prop where
  isi : mg "isinstance" = none
  int : mg "int" = none
  bool : mg "bool" = none
  str : mg "str" = none
  tuple : mg "tuple" = none
  list : mg "list" = none
  len : mg "len" = none
  range : mg "range" = none
  sum : mg "sum" = none
  abs : mg "abs" = none

theorem lt_pow_natAbs {i : Int} {n : Nat} (h : i.natAbs < 2 ^ n) : -(2 ^ n : Int) < i ∧ i < (2 ^ n : Int) := by
  have e : ((2 ^ n : Nat) : Int) = (2 : Int) ^ n := by simp
  omega
end Pk

set_option Elab.async false
set_option maxRecDepth 100000
set_option maxHeartbeats 4000000
namespace Mk
open PySem L2 Pk
def top (i : Nat) : Stmt := PySem.Challenge.pw_pilerecall_k01_bad_machines.main.body.getD i (.Pass ⟨0, 0, 0, 0⟩)
abbrev sInteger : Stmt := top 25
abbrev sBetween : Stmt := top 26
abbrev sSequence : Stmt := top 27
abbrev sRow : Stmt := top 28
abbrev sLetters : Stmt := top 29
abbrev sAlphabet : Stmt := top 30
abbrev sMark : Stmt := top 31
abbrev sSymbol : Stmt := top 32
abbrev sSign : Stmt := top 33
abbrev sTop : Stmt := top 34
abbrev sMove : Stmt := top 35
abbrev sDeed : Stmt := top 36
abbrev sState : Stmt := top 37
abbrev sRule : Stmt := top 38
/-- the built-in names -/
structure TM (mg : PySem.Str → Option Value) : Prop where
  isi : mg "isinstance" = none
  int : mg "int" = none
  bool : mg "bool" = none
  str : mg "str" = none
  tuple : mg "tuple" = none
  list : mg "list" = none
  len : mg "len" = none
  range : mg "range" = none
  all : mg "all" = none
  sorted : mg "sorted" = none
  set : mg "set" = none
  abs : mg "abs" = none
/-- a list or a tuple, by a bit -/
def SqB (b : Bool) (K : PySem.W.Frag) (H : Hp) (a : Addr) (xs : List V) : Prop := match b with
  | true => SqL K H a xs
  | false => SqT K H a xs
theorem SqB.any {b : Bool} {K : PySem.W.Frag} {H : Hp} {a : Addr} {xs : List V} (h : SqB b K H a xs) : SqL K H a xs ∨ SqT K H a xs := by
  cases b
  · exact .inr h
  · exact .inl h
theorem SqB.mono {b : Bool} {K : PySem.W.Frag} {H H' : Hp} {a : Addr} {xs : List V} (e : Same H H') (h : SqB b K H a xs) : SqB b K H' a xs := by
  cases b
  · exact Same.tup e h
  · exact e.seq h
def sqTy (b : Bool) : String := if b = true then "list" else "tuple"
theorem tyx_sq {b : Bool} {K : PySem.W.Frag} {H : Hp} {a : Addr} {xs : List V} (h : SqB b K H a xs) : TyX K H (.ref a) (.type (sqTy b)) := by
  cases b with
  | false =>
    rcases (show SqT K H a xs from h) with (h | ⟨o, h⟩) | ⟨o, its, n, h, hc, _⟩
    · exact .base (.tup h)
    · exact .fTuple h
    · exact .kTuple h hc
  | true =>
    rcases (show SqL K H a xs from h) with (h | ⟨o, h⟩) | ⟨o, its, n, h, hc, _⟩
    · exact .base (.lst h)
    · exact .base (.frz h)
    · exact .kList h hc
section
variable {P : Program} {w : World} {K : PySem.W.Frag} {mg : PySem.Str → Option Value} {base : Heap}
/-- the def x stands, is reached by its name, and keeps sp -/
def Got (P : Program) (w : World) (K : PySem.W.Frag) (mg : PySem.Str → Option Value) (base : Heap) (x : PySem.Str) (k : Nat) (ps : List PySem.Str) (sp : Sp) : Prop :=
  ∃ f fd, FnOk P w K mg base CX0 k f fd ps sp ∧ PySem.W.keepIn K (.ref f) = true ∧ Binds K fd ps [] ∧ mg x = some (.ref f)
theorem pe_got {X : Cx} {x : PySem.Str} {k : Nat} {ps : List PySem.Str} {sp : Sp} {p pos : Pos} {e : Expr} {es : List Expr} {t : TA} (h : Got X.prog X.w X.K X.mg X.base x k ps sp) (hr : Room k X.A) (hg : Gl X x) (ha : PA X (e :: es) t)
    (hdb : (x == ("__debug__" : PySem.Str)) = false := by decide) (he : starEach (e :: es) X.env = (false, eval e X.env) :: starEach es X.env := by rfl) (hpl : (backTo pos (starEach es X.env)).any (·.1) = false := by rfl) :
    PE X (.Call (.Name x p) (e :: es) [] pos) (tCall sp [] E0 t) := by
  obtain ⟨f, fd, G, kp, b, g⟩ := h
  exact pe_call G hr hg g kp b .nil pass0 ha hdb he hpl
/-! is_integer, is_between -/
def spInteger : Sp := fun vs H Q _ => ∃ n : Int, vs = [.int n] ∧ Q (.bl true) H
theorem scInteger : FnScope ["value"] ["value"] (defScope sInteger) := ⟨rfl, rfl, rfl, by decide +kernel, rfl, by decide +kernel, by decide +kernel⟩
theorem ok_integer {f : Addr} {fd : FuncData} (F : Fun K "is_integer" "is_integer" sInteger f fd) (T : TM mg) : FnOk P w K mg base CX0 1 f fd ["value"] spInteger := by
  refine F.ok scInteger (fun vs H Q E h => ?_) (fun cdv A outer s H vs Q E hr h => ?_)
  · obtain ⟨n, rfl, _⟩ := h
    rfl
  · obtain ⟨n, rfl, k⟩ := h
    refine ⟨_, pss_one (ps_ret (pe_and (pe_callB call_isi (by rfl) T.isi (by decide +kernel) (pa_cons (pv 0) (pa_cons (pe_bltn (v := .ty "int") (by rfl) T.int PyProof.Rows.Boot.int rfl) pa_nil)))
      (pe_one (pe_not (pe_callB call_isi (by rfl) T.isi (by decide +kernel) (pa_cons (pv 0) (pa_cons (pe_bltn (v := .ty "bool") (by rfl) T.bool PyProof.Rows.Boot.bool rfl) pa_nil))))))), ?_⟩
    refine ⟨_, rfl, _, _, _, _, true, rfl, .ty _, .base (.int _), kit_ty (by decide +kernel), _, rfl, ?_⟩
    refine iteT ?_
    exact ⟨_, rfl, _, _, _, _, false, rfl, .ty _, .base (.int _), kit_ty (by decide +kernel), _, rfl, k⟩
def spBetween : Sp := fun vs H Q _ => ∃ n lo hi : Int, vs = [.int n, .int lo, .int hi] ∧ Q (.bl (decide (lo ≤ n) && decide (n ≤ hi))) H
theorem scBetween : FnScope ["value", "least", "most"] ["value", "least", "most"] (defScope sBetween) := ⟨rfl, rfl, rfl, by decide +kernel, rfl, by decide +kernel, by decide +kernel⟩
theorem ok_between {f : Addr} {fd : FuncData} (F : Fun K "is_between" "is_between" sBetween f fd) (G : Got P w K mg base "is_integer" 1 ["value"] spInteger) : FnOk P w K mg base CX0 2 f fd ["value", "least", "most"] spBetween := by
  refine F.ok scBetween (fun vs H Q E h => ?_) (fun cdv A outer s H vs Q E hr h => ?_)
  · obtain ⟨n, lo, hi, rfl, _⟩ := h
    rfl
  · obtain ⟨n, lo, hi, rfl, k⟩ := h
    refine ⟨_, pss_one (ps_ret (pe_and (pe_got G hr (by rfl) (pa_cons (pv 0) pa_nil)) (pe_one (pe_chain op_le op_le (pv 1) (pv 0) (pv 2))))), ?_⟩
    refine ⟨_, rfl, n, rfl, _, rfl, ?_⟩
    refine iteT ?_
    refine ⟨_, rfl, _, rfl, _, _, rfl, rfl, _, rfl, ?_⟩
    refine ite2 (fun c => ?_) (fun c => ?_)
    · refine ⟨_, rfl, _, _, rfl, rfl, ?_⟩
      rw [c] at k
      exact k
    · rw [Bool.eq_false_iff.mpr c] at k
      exact k
/-! is_sequence, is_row -/
def spSequence (K : PySem.W.Frag) : Sp := fun vs H Q _ => ∃ (a : Addr) (b : Bool) (xs : List V), vs = [.ref a] ∧ SqB b K H a xs ∧ ∀ H', Same H H' → Q (.bl true) H'
theorem scSequence : FnScope ["value"] ["value"] (defScope sSequence) := ⟨rfl, rfl, rfl, by decide +kernel, rfl, by decide +kernel, by decide +kernel⟩
theorem kit_seq {K : PySem.W.Frag} (b : Bool) : PySem.W.kitAny K (.type (sqTy b)) [.type "list", .type "tuple"] = some true := by
  cases b
  · exact kitAny_cons (b := false) (kit_ty (by decide +kernel)) (fun _ => kitAny_cons (b := true) (kit_ty (by decide +kernel)) (fun z => nomatch z) fun _ => rfl) fun _ => rfl
  · exact kitAny_cons (b := true) (kit_ty (by decide +kernel)) (fun z => nomatch z) fun _ => rfl
theorem ok_sequence {f : Addr} {fd : FuncData} (F : Fun K "is_sequence" "is_sequence" sSequence f fd) (T : TM mg) : FnOk P w K mg base CX0 1 f fd ["value"] (spSequence K) := by
  refine F.ok scSequence (fun vs H Q E h => ?_) (fun cdv A outer s H vs Q E hr h => ?_)
  · obtain ⟨a, b, xs, rfl, _⟩ := h
    rfl
  · obtain ⟨a, b, xs, rfl, hS, k⟩ := h
    refine ⟨_, pss_one (ps_ret (pe_callB call_isiT (by rfl) T.isi (by decide +kernel) (pa_cons (pv 0) (pa_cons (pe_tup (pa_cons (pe_bltn (v := .ty "list") (by rfl) T.list PyProof.Rows.Boot.list rfl) (pa_cons (pe_bltn (v := .ty "tuple") (by rfl) T.tuple PyProof.Rows.Boot.tuple rfl) pa_nil))) pa_nil)))), ?_⟩
    refine ⟨_, rfl, by decide, fun p hp => ?_⟩
    exact ⟨_, p, _, _, _, true, rfl, upd_same, .cons (.ty _) (.cons (.ty _) .nil), tyx_sq (hS.mono (same_new hp)), kit_seq b, k _ (same_new hp)⟩
def spRow (K : PySem.W.Frag) : Sp := fun vs H Q _ => ∃ (a : Addr) (b : Bool) (xs : List V) (n : Int), vs = [.ref a, .int n] ∧ SqB b K H a xs ∧ ∀ H', Same H H' → Q (.bl (decide ((xs.length : Int) = n))) H'
theorem scRow : FnScope ["value", "length"] ["value", "length"] (defScope sRow) := ⟨rfl, rfl, rfl, by decide +kernel, rfl, by decide +kernel, by decide +kernel⟩
theorem ok_row {f : Addr} {fd : FuncData} (F : Fun K "is_row" "is_row" sRow f fd) (T : TM mg) (G : Got P w K mg base "is_sequence" 1 ["value"] (spSequence K)) : FnOk P w K mg base CX0 2 f fd ["value", "length"] (spRow K) := by
  refine F.ok scRow (fun vs H Q E h => ?_) (fun cdv A outer s H vs Q E hr h => ?_)
  · obtain ⟨a, b, xs, n, rfl, _⟩ := h
    rfl
  · obtain ⟨a, b, xs, n, rfl, hS, k⟩ := h
    refine ⟨_, pss_one (ps_ret (pe_and (pe_got G hr (by rfl) (pa_cons (pv 0) pa_nil)) (pe_one (pe_cmpR op_eq (pe_callB call_len_seq (by rfl) T.len PySem.boot_len (pa_cons (pv 0) pa_nil)) (pv 1) (nomark _))))), ?_⟩
    refine ⟨_, rfl, a, b, xs, rfl, hS, fun H1 s1 => ⟨_, rfl, ?_⟩⟩
    refine iteT ?_
    refine ⟨_, rfl, a, xs, rfl, (hS.mono s1).any, _, rfl, rfl, ?_⟩
    have e : decide (V.int (xs.length : Int) = V.int n) = decide ((xs.length : Int) = n) := by simp
    rw [e]
    exact k H1 s1
end
end Mk

set_option Elab.async false
set_option maxRecDepth 100000
set_option maxHeartbeats 4000000
namespace Mk
open PySem L2 Pk
section
variable {P : Program} {w : World} {K : PySem.W.Frag} {mg : PySem.Str → Option Value} {base : Heap}
/-! are_letters -/
def lowC (c : Nat) : Bool := decide (97 ≤ c) && decide (c ≤ 122)
def lowB (x : PySem.Str) : Bool := x.cps.toList.all lowC
def spLetters : Sp := fun vs H Q _ => ∃ (x : PySem.Str) (m : Int), vs = [.str x, .int m] ∧ x.length ≤ 1000 ∧ ∀ H', Same H H' → Q (.bl (decide ((x.length : Int) ≤ m) && lowB x)) H'
theorem scLetters : FnScope ["value", "most", "letter"] ["value", "most"] (defScope sLetters) := ⟨rfl, rfl, rfl, by decide +kernel, rfl, by decide +kernel, by decide +kernel⟩
theorem lt_one (a b : Nat) : decide (([a] : List Nat) < [b]) = decide (a < b) := by
  rw [Bool.eq_iff_iff, decide_eq_true_eq, decide_eq_true_eq]
  constructor
  · intro h
    cases h with
    | rel h => exact h
    | cons h => cases h
  · intro h
    exact List.Lex.rel h
theorem ge_sign (c lo : Nat) (z : PySem.Str) (hz : z.cps.toList = [lo]) : (!decide ((⟨#[c]⟩ : PySem.Str).cps.toList < z.cps.toList)) = decide (lo ≤ c) := by
  rw [hz]
  show (!decide (([c] : List Nat) < [lo])) = _
  rw [lt_one]
  by_cases h : lo ≤ c
  · rw [decide_eq_true h, decide_eq_false (by omega)] <;> rfl
  · rw [decide_eq_false h, decide_eq_true (by omega)] <;> rfl
theorem le_sign (c hi : Nat) (z : PySem.Str) (hz : z.cps.toList = [hi]) : (!decide (z.cps.toList < (⟨#[c]⟩ : PySem.Str).cps.toList)) = decide (c ≤ hi) := by
  rw [hz]
  show (!decide (([hi] : List Nat) < [c])) = _
  rw [lt_one]
  by_cases h : c ≤ hi
  · rw [decide_eq_true h, decide_eq_false (by omega)] <;> rfl
  · rw [decide_eq_false h, decide_eq_true (by omega)] <;> rfl
theorem str_len (x : PySem.Str) : x.length = x.cps.size := rfl
theorem take_at {α : Type} {l : List α} {i : Nat} {c : α} (h : l[i]? = some c) : l.take (i + 1) = l.take i ++ [c] := by
  rw [List.take_add_one, h] <;> rfl
theorem ok_letters {f : Addr} {fd : FuncData} (F : Fun K "are_letters" "are_letters" sLetters f fd) (T : TM mg) : FnOk P w K mg base CX0 1 f fd ["value", "most"] spLetters := by
  refine F.ok scLetters (fun vs H Q E h => ?_) (fun cdv A outer s H vs Q E hr h => ?_)
  · obtain ⟨x, m, rfl, _⟩ := h
    rfl
  · obtain ⟨x, m, rfl, hl, k⟩ := h
    refine ⟨_, pss_cons (ps_if (PW.pt (pw_or (pt_not (pt_val (pe_callB call_isi (by rfl) T.isi (by decide +kernel) (pa_cons (pv 0) (pa_cons (pe_bltn (v := .ty "str") (by rfl) T.str PyProof.Rows.Boot.str rfl) pa_nil)))))
        (pw_or1 (pt_cmpR op_gt (pe_callB call_len_str (by rfl) T.len PySem.boot_len (pa_cons (pv 0) pa_nil)) (pv 1) (nomark _))))) (pss_one (ps_ret pe_bl)) pss_nil)
      (pss_one (ps_ret (pe_callB (cr_all rfl) (by rfl) T.all (by decide +kernel) (pa_cons (pe_lc (own := [("letter", 2)]) (g := gName 2) (tt := tYes) (by rfl) scLetters.nd (pi_str (pv 0))
        (blkOk_by (own := [("letter", 2)]) (N := ["value", "most", "letter"]) (sc := defScope sLetters) (by decide +kernel))
        (fun _ _ _ _ _ => pg_name (i := 2) scLetters.nd rfl (Or.inl rfl)) (fun _ _ _ _ _ => pts_nil) (fun _ _ _ _ _ => pe_chain op_le_str op_le_str pe_str (pv 2) pe_str)) pa_nil)))), ?_⟩
    have sz : x.length ≤ sizeLine := Nat.le_trans hl (by decide)
    refine ⟨_, rfl, _, _, _, _, true, rfl, .ty _, .base (.str _), kit_ty (by decide +kernel), _, rfl, ?_⟩
    refine iteF ?_
    refine ⟨_, rfl, x, rfl, sz, _, rfl, _, _, rfl, rfl, _, rfl, ?_⟩
    refine ite2 (fun c => ?_) (fun c => ?_)
    · have c' := of_decide_eq_true c
      have e : decide ((x.length : Int) ≤ m) = false := decide_eq_false (by omega)
      have q := k H (fun _ _ z => z)
      rw [e] at q
      exact q
    · have c' : ¬ ((x.length : Int) > m) := fun z => c (decide_eq_true z)
      have e : decide ((x.length : Int) ≤ m) = true := decide_eq_true (by omega)
      refine ⟨_, rfl, x, rfl, fun D hD => lc_it walk_str (fun i H' => Same H H' ∧ H' D = some (.lst (((x.cps.toList.take i).map lowC).map V.bl)))
        ⟨same_new hD, by rw [upd_same]; rfl⟩ (fun _ _ _ _ => trivial) ?_ ?_⟩
      · rintro i y H1 H2 hi ⟨s1, hD1⟩ ⟨rfl, c0, hc0, rfl⟩
        have hc1 : x.cps.toList[i]? = some c0 := by rw [Array.getElem?_toList]; exact hc0
        refine ⟨rfl, ?_⟩
        have acc : ∀ b : Bool, b = lowC c0 → ∃ ac, H2 D = some (.lst ac) ∧ ac.length < sizeLine ∧ Same H (upd H2 D (.lst (ac ++ [V.bl b]))) ∧ (upd H2 D (.lst (ac ++ [V.bl b]))) D = some (.lst (((x.cps.toList.take (i + 1)).map lowC).map V.bl)) := by
          rintro b rfl
          refine ⟨_, hD1, ?_, same_mut s1 hD, ?_⟩
          · rw [List.length_map, List.length_map, List.length_take, Array.length_toList]
            have q : x.cps.size ≤ 1000 := hl
            exact Nat.lt_of_le_of_lt (Nat.le_trans (Nat.min_le_right _ _) q) (by decide)
          · rw [upd_same, take_at hc1, List.map_append, List.map_append]
            rfl
        refine ⟨_, rfl, _, _, rfl, rfl, _, rfl, ?_⟩
        rw [ge_sign c0 97 _ (by decide +kernel)]
        refine ite2 (fun a => ?_) (fun a => ?_)
        · refine ⟨_, _, rfl, rfl, ?_⟩
          rw [le_sign c0 122 _ (by decide +kernel)]
          exact acc _ (by unfold lowC; rw [a] <;> rfl)
        · exact acc _ (by unfold lowC; rw [Bool.eq_false_iff.mpr a] <;> rfl)
      · rintro H1 ⟨s1, hD1⟩
        refine ⟨D, _, rfl, SqL.of hD1, ?_⟩
        have q := k H1 s1
        rw [e] at q
        have full : x.cps.toList.take x.cps.size = x.cps.toList := List.take_of_length_le (by rw [Array.length_toList]; exact Nat.le_refl _)
        rw [full, List.all_map]
        exact q
end
end Mk

set_option Elab.async false
set_option maxRecDepth 100000
set_option maxHeartbeats 4000000
namespace Mk
open PySem L2 Pk
abbrev rLeS : R2 := fun x y H Q => ∃ i j, x = V.str i ∧ y = V.str j ∧ Q (V.bl !decide (j.cps.toList < i.cps.toList)) H
theorem ch_sign {σ : L2.St} {H : Hp} {i c lo hi : Nat} {zl zh : PySem.Str} {Q : VK} (hl : zl.cps.toList = [lo]) (hh : zh.cps.toList = [hi]) (e : σ[i]? = some (some (.str ⟨#[c]⟩))) (q : Q (.bl (decide (lo ≤ c) && decide (c ≤ hi))) H) :
    tChain rLeS rLeS (tC (.str zl)) (tVar i) (tC (.str zh)) σ H Q := by
  refine ⟨_, e, _, _, rfl, rfl, _, rfl, ?_⟩
  rw [ge_sign c lo _ hl]
  refine ite2 (fun a => ?_) (fun a => ?_)
  · refine ⟨_, _, rfl, rfl, ?_⟩
    rw [le_sign c hi _ hh]
    rw [a] at q
    exact q
  · rw [Bool.eq_false_iff.mpr a] at q
    exact q
/-- x or y, of which x gives a bool -/
theorem or_bool {ta tb : TE} {σ : L2.St} {H : Hp} {Q : VK} {a : Bool} (h : ∀ Q' : VK, Q' (.bl a) H → ta σ H Q') (g : a = false → tb σ H Q) (q : a = true → Q (.bl true) H) : tOrV ta tb σ H Q := by
  refine h _ ⟨a, rfl, ?_⟩
  cases a
  · exact iteF (g rfl)
  · exact iteT (q rfl)
section
variable {P : Program} {w : World} {K : PySem.W.Frag} {mg : PySem.Str → Option Value} {base : Heap}
/-! is_symbol_mark -/
def markC (c : Nat) : Bool := (decide (97 ≤ c) && decide (c ≤ 122)) || ((decide (65 ≤ c) && decide (c ≤ 90)) || (decide (48 ≤ c) && decide (c ≤ 57)))
def spMark : Sp := fun vs H Q _ => ∃ c : Nat, vs = [.str ⟨#[c]⟩] ∧ Q (.bl (markC c)) H
theorem scMark : FnScope ["mark"] ["mark"] (defScope sMark) := ⟨rfl, rfl, rfl, by decide +kernel, rfl, by decide +kernel, by decide +kernel⟩
theorem ok_mark {f : Addr} {fd : FuncData} (F : Fun K "is_symbol_mark" "is_symbol_mark" sMark f fd) : FnOk P w K mg base CX0 1 f fd ["mark"] spMark := by
  refine F.ok scMark (fun vs H Q E h => ?_) (fun cdv A outer s H vs Q E hr h => ?_)
  · obtain ⟨c, rfl, _⟩ := h
    rfl
  · obtain ⟨c, rfl, k⟩ := h
    refine ⟨_, pss_one (ps_ret (pe_or (pe_chain op_le_str op_le_str pe_str (pv 0) pe_str) (pe_or (pe_chain op_le_str op_le_str pe_str (pv 0) pe_str) (pe_one (pe_chain op_le_str op_le_str pe_str (pv 0) pe_str))))), ?_⟩
    unfold markC at k
    have a0 : ∀ {zl zh : PySem.Str} {lo hi : Nat}, zl.cps.toList = [lo] → zh.cps.toList = [hi] → ∀ {H : Hp} {Q' : VK}, Q' (.bl (decide (lo ≤ c) && decide (c ≤ hi))) H → tChain rLeS rLeS (tC (.str zl)) (tVar 0) (tC (.str zh)) (L2.start ["mark"] [.str ⟨#[c]⟩]) H Q' :=
      by
        intro zl zh lo hi hl hh H Q' q
        exact ch_sign hl hh rfl q
    refine or_bool (a := decide (97 ≤ c) && decide (c ≤ 122)) (fun Q' q => a0 (by decide +kernel) (by decide +kernel) q) (fun e => ?_) (fun e => ?_)
    · rw [e, Bool.false_or] at k
      refine or_bool (a := decide (65 ≤ c) && decide (c ≤ 90)) (fun Q' q => a0 (by decide +kernel) (by decide +kernel) q) (fun e => ?_) (fun e => ?_)
      · rw [e, Bool.false_or] at k
        exact a0 (by decide +kernel) (by decide +kernel) k
      · rw [e, Bool.true_or] at k
        exact k
    · rw [e, Bool.true_or] at k
      exact k
/-! is_symbol -/
def symB (x : PySem.Str) : Bool := (decide (1 ≤ x.length) && decide (x.length ≤ 8)) && x.cps.toList.all markC
def spSymbol : Sp := fun vs H Q _ => ∃ x : PySem.Str, vs = [.str x] ∧ x.length ≤ 1000 ∧ ∀ H', Same H H' → Q (.bl (symB x)) H'
theorem scSymbol : FnScope ["value", "mark"] ["value"] (defScope sSymbol) := ⟨rfl, rfl, rfl, by decide +kernel, rfl, by decide +kernel, by decide +kernel⟩
theorem ok_symbol {f : Addr} {fd : FuncData} (F : Fun K "is_symbol" "is_symbol" sSymbol f fd) (T : TM mg) (G : Got P w K mg base "is_symbol_mark" 1 ["mark"] spMark) : FnOk P w K mg base CX0 2 f fd ["value"] spSymbol := by
  refine F.ok scSymbol (fun vs H Q E h => ?_) (fun cdv A outer s H vs Q E hr h => ?_)
  · obtain ⟨x, rfl, _⟩ := h
    rfl
  · obtain ⟨x, rfl, hl, k⟩ := h
    refine ⟨_, pss_cons (ps_if (PW.pt (pw_or (pt_not (pt_val (pe_callB call_isi (by rfl) T.isi (by decide +kernel) (pa_cons (pv 0) (pa_cons (pe_bltn (v := .ty "str") (by rfl) T.str PyProof.Rows.Boot.str rfl) pa_nil)))))
        (pw_or1 (pt_not (pt_chain op_le op_le pe_int (pe_callB call_len_str (by rfl) T.len PySem.boot_len (pa_cons (pv 0) pa_nil)) pe_int))))) (pss_one (ps_ret pe_bl)) pss_nil)
      (pss_one (ps_ret (pe_callB (cr_all rfl) (by rfl) T.all (by decide +kernel) (pa_cons (pe_lc (own := [("mark", 1)]) (g := gName 1) (tt := tYes) (by rfl) scSymbol.nd (pi_str (pv 0))
        (blkOk_by (own := [("mark", 1)]) (N := ["value", "mark"]) (sc := defScope sSymbol) (by decide +kernel))
        (fun _ _ _ _ _ => pg_name (i := 1) scSymbol.nd rfl (Or.inl rfl)) (fun _ _ _ _ _ => pts_nil) (fun _ _ _ _ _ => pe_got G hr (by rfl) (pa_cons (pv 1) pa_nil))) pa_nil)))), ?_⟩
    have sz : x.length ≤ sizeLine := Nat.le_trans hl (by decide)
    refine ⟨_, rfl, _, _, _, _, true, rfl, .ty _, .base (.str _), kit_ty (by decide +kernel), _, rfl, ?_⟩
    refine iteF ?_
    unfold symB at k
    refine ⟨_, rfl, x, rfl, sz, _, _, rfl, rfl, _, rfl, ?_⟩
    have stop : (decide (1 ≤ x.length) && decide (x.length ≤ 8)) = false → Q (.bl false) H := fun e => by
      have q := k H (fun _ _ z => z)
      rw [e] at q
      exact q
    refine ite2 (fun c1 => ?_) (fun c1 => ?_)
    · have c1' : (1 : Int) ≤ (x.length : Int) := of_decide_eq_true c1
      refine ⟨_, _, rfl, rfl, _, rfl, ?_⟩
      refine ite2 (fun c2 => ?_) (fun c2 => ?_)
      · have c2' : ¬ ((x.length : Int) ≤ 8) := by simpa using c2
        exact stop (by rw [decide_eq_false (p := x.length ≤ 8) (by omega), Bool.and_false])
      · have c2' : (x.length : Int) ≤ 8 := by simpa using c2
        have e : (decide (1 ≤ x.length) && decide (x.length ≤ 8)) = true := by rw [decide_eq_true (by omega), decide_eq_true (by omega)] <;> rfl
        refine ⟨_, rfl, x, rfl, fun D hD => lc_it walk_str (fun i H' => Same H H' ∧ H' D = some (.lst (((x.cps.toList.take i).map markC).map V.bl)))
          ⟨same_new hD, by rw [upd_same]; rfl⟩ (fun _ _ _ _ => trivial) ?_ ?_⟩
        · rintro i y H1 H2 hi ⟨s1, hD1⟩ ⟨rfl, c0, hc0, rfl⟩
          have hc1 : x.cps.toList[i]? = some c0 := by rw [Array.getElem?_toList]; exact hc0
          refine ⟨rfl, ?_⟩
          refine ⟨_, rfl, c0, rfl, _, hD1, ?_, same_mut s1 hD, ?_⟩
          · rw [List.length_map, List.length_map, List.length_take, Array.length_toList]
            have q : x.cps.size ≤ 1000 := hl
            exact Nat.lt_of_le_of_lt (Nat.le_trans (Nat.min_le_right _ _) q) (by decide)
          · rw [upd_same, take_at hc1, List.map_append, List.map_append]
            rfl
        · rintro H1 ⟨s1, hD1⟩
          refine ⟨D, _, rfl, SqL.of hD1, ?_⟩
          have q := k H1 s1
          rw [e] at q
          have full : x.cps.toList.take x.cps.size = x.cps.toList := List.take_of_length_le (by rw [Array.length_toList]; exact Nat.le_refl _)
          rw [full, List.all_map]
          exact q
    · have c1' : ¬ ((1 : Int) ≤ (x.length : Int)) := fun z => c1 (decide_eq_true z)
      refine ⟨_, rfl, ?_⟩
      exact iteT (stop (by rw [decide_eq_false (p := 1 ≤ x.length) (by omega), Bool.false_and]))
end
end Mk

set_option Elab.async false
set_option maxRecDepth 100000
set_option maxHeartbeats 4000000
namespace Mk
open PySem L2 Pk
section
variable {P : Program} {w : World} {K : PySem.W.Frag} {mg : PySem.Str → Option Value} {base : Heap}
/-! is_alphabet -/
structure Alpha (x : PySem.Str) : Prop where
  low : lowB x = true
  pos : 1 ≤ x.length
  most : x.length ≤ 26
  up : ∀ (i c d : Nat), x.cps.toList[i]? = some c → x.cps.toList[i + 1]? = some d → c < d
def spAlphabet : Sp := fun vs H Q _ => ∃ x : PySem.Str, vs = [.str x] ∧ Alpha x ∧ ∀ H', Same H H' → Q (.bl true) H'
theorem scAlphabet : FnScope ["value", "at"] ["value"] (defScope sAlphabet) := ⟨rfl, rfl, rfl, by decide +kernel, rfl, by decide +kernel, by decide +kernel⟩
theorem dec_str (x y : PySem.Str) : decide (V.str x = V.str y) = decide (x = y) := by simp
theorem same_tr {H H' H'' : Hp} (a : Same H H') (b : Same H' H'') : Same H H'' := a.trans b
theorem ok_alphabet {f : Addr} {fd : FuncData} (F : Fun K "is_alphabet" "is_alphabet" sAlphabet f fd) (T : TM mg) (G : Got P w K mg base "are_letters" 1 ["value", "most"] spLetters) : FnOk P w K mg base CX0 2 f fd ["value"] spAlphabet := by
  refine F.ok scAlphabet (fun vs H Q E h => ?_) (fun cdv A outer s H vs Q E hr h => ?_)
  · obtain ⟨x, rfl, _⟩ := h
    rfl
  · obtain ⟨x, rfl, a, k⟩ := h
    have most := a.most
    have pos := a.pos
    refine ⟨_, pss_cons (ps_if (PW.pt (pw_or (pt_not (pt_val (pe_got G hr (by rfl) (pa_cons (pv 0) (pa_cons pe_int pa_nil)))))
        (pw_or1 (pt_cmpR op_eq (pv 0) pe_str (nomark _))))) (pss_one (ps_ret pe_bl)) pss_nil)
      (pss_one (ps_ret (pe_callB (cr_all rfl) (by rfl) T.all (by decide +kernel) (pa_cons (pe_lc (own := [("at", 1)]) (g := gName 1) (tt := tYes) (by rfl) scAlphabet.nd
        (pi_range1 (by rfl) T.range (pa_cons (pe_op op_sub (pe_callB call_len_str (by rfl) T.len PySem.boot_len (pa_cons (pv 0) pa_nil)) pe_int) pa_nil))
        (blkOk_by (own := [("at", 1)]) (N := ["value", "at"]) (sc := defScope sAlphabet) (by decide +kernel))
        (fun _ _ _ _ _ => pg_name (i := 1) scAlphabet.nd rfl (Or.inl rfl)) (fun _ _ _ _ _ => pts_nil)
        (fun _ _ _ _ _ => pe_cmpR op_lt_str (pe_ix ix_str (pv 0) (pv 1) fun _ _ => rfl) (pe_ix ix_str (pv 0) (pe_op op_add (pv 1) pe_int) fun _ _ => rfl) (nomark _))) pa_nil)))), ?_⟩
    have sz : x.length ≤ sizeLine := Nat.le_trans most (by decide)
    refine ⟨_, rfl, x, 26, rfl, Nat.le_trans most (by decide), fun H1 s1 => ⟨_, rfl, ?_⟩⟩
    rw [a.low, decide_eq_true (p := (x.length : Int) ≤ 26) (by omega)]
    refine iteF ?_
    refine ⟨_, rfl, rfl, _, rfl, ?_⟩
    have ne : ¬ x = (PySem.Str.ofString "") := fun e => by
      rw [e] at pos
      exact absurd pos (by decide +kernel)
    rw [dec_str, decide_eq_false ne]
    refine iteF ?_
    have sz2 : x.cps.size = x.length := rfl
    refine ⟨_, rfl, x, rfl, sz, _, _, rfl, rfl, _, rfl, by omega, by omega, fun D hD => lc_range (lo := 0) (n := ((x.length : Int) - 1).toNat) (fun i H' => Same H H' ∧ H' D = some (.lst ((List.replicate i true).map V.bl)))
        ⟨same_tr s1 (same_new hD), by rw [upd_same]; rfl⟩ ?_ ?_⟩
    · rintro i H2 hi ⟨s2, hD2⟩
      have h1 : i < x.cps.toList.length := by rw [Array.length_toList]; omega
      have h2 : i + 1 < x.cps.toList.length := by rw [Array.length_toList]; omega
      have e1 : x.cps.toList[i]? = some x.cps.toList[i] := List.getElem?_eq_getElem h1
      have e2 : x.cps.toList[i + 1]? = some x.cps.toList[i + 1] := List.getElem?_eq_getElem h2
      have lt := a.up i _ _ e1 e2
      refine ⟨rfl, ?_⟩
      refine ⟨_, rfl, _, rfl, x, _, _, rfl, rfl, sz, (by rw [Int.zero_add]; exact atI_nat e1), _, rfl, _, rfl, _, _, rfl, rfl, x, _, _, rfl, rfl, sz, (by rw [Int.zero_add]; exact atI_nat (j := i + 1) e2), _, _, rfl, rfl, _, hD2, ?_, same_mut s2 (s1.free hD), ?_⟩
      · rw [List.length_map, List.length_replicate]
        exact Nat.lt_of_lt_of_le (show i < 26 by omega) (by decide)
      · rw [upd_same, List.replicate_succ', List.map_append]
        show some (HO.lst (_ ++ [V.bl (decide (([x.cps.toList[i]] : List Nat) < [x.cps.toList[i + 1]]))])) = _
        rw [lt_one, decide_eq_true lt]
        rfl
    · rintro H2 ⟨s2, hD2⟩
      refine ⟨D, _, rfl, SqL.of hD2, ?_⟩
      rw [show (List.replicate ((x.length : Int) - 1).toNat true).all id = true by simp]
      exact k H2 s2
/-! is_sign -/
def Sgn (letters s : PySem.Str) : Prop := ∃ c : Nat, s = ⟨#[c]⟩ ∧ (c = 60 ∨ c = 62 ∨ c ∈ letters.cps.toList)
def spSign : Sp := fun vs H Q _ => ∃ l s : PySem.Str, vs = [.str l, .str s] ∧ Sgn l s ∧ Q (.bl true) H
theorem scSign : FnScope ["letters", "value"] ["letters", "value"] (defScope sSign) := ⟨rfl, rfl, rfl, by decide +kernel, rfl, by decide +kernel, by decide +kernel⟩
theorem ok_sign {f : Addr} {fd : FuncData} (F : Fun K "is_sign" "is_sign" sSign f fd) (T : TM mg) : FnOk P w K mg base CX0 1 f fd ["letters", "value"] spSign := by
  refine F.ok scSign (fun vs H Q E h => ?_) (fun cdv A outer s H vs Q E hr h => ?_)
  · obtain ⟨l, s, rfl, _⟩ := h
    rfl
  · obtain ⟨l, _, rfl, ⟨c, rfl, hc⟩, k⟩ := h
    refine ⟨_, pss_one (ps_ret (pe_and (pe_callB call_isi (by rfl) T.isi (by decide +kernel) (pa_cons (pv 1) (pa_cons (pe_bltn (v := .ty "str") (by rfl) T.str PyProof.Rows.Boot.str rfl) pa_nil)))
      (pe_and (pe_cmpR op_eq (pe_callB call_len_str (by rfl) T.len PySem.boot_len (pa_cons (pv 1) pa_nil)) pe_int (nomark _))
      (pe_one (pe_or (pe_cmpR op_in_sign (pv 1) pe_str rfl) (pe_one (pe_cmpR op_in_sign (pv 1) (pv 0) rfl))))))), ?_⟩
    refine ⟨_, rfl, _, _, _, _, true, rfl, .ty _, .base (.str _), kit_ty (by decide +kernel), _, rfl, ?_⟩
    refine iteT ?_
    refine ⟨_, rfl, _, rfl, (show 1 ≤ sizeLine by decide), rfl, _, rfl, ?_⟩
    refine iteT ?_
    refine or_bool (a := decide (c ∈ (PySem.Str.ofString "<>").cps.toList)) (fun Q' q => ⟨_, rfl, c, _, rfl, rfl, q⟩) (fun e => ?_) fun _ => k
    refine ⟨_, rfl, _, rfl, c, l, rfl, rfl, ?_⟩
    have e' : c ∉ ([60, 62] : List Nat) := of_decide_eq_false e
    have m : c ∈ l.cps.toList := by
      rcases hc with z | z | z
      · exact absurd (by rw [z]; decide) e'
      · exact absurd (by rw [z]; decide) e'
      · exact z
    rw [decide_eq_true m]
    exact k
end
end Mk

set_option Elab.async false
set_option maxRecDepth 100000
set_option maxHeartbeats 4000000
namespace Mk
open PySem L2 Pk
/-- x and y, of which x gives a bool -/
theorem and_bool {ta tb : TE} {σ : L2.St} {H : Hp} {Q : VK} {a : Bool} (h : ∀ Q' : VK, Q' (.bl a) H → ta σ H Q') (g : a = true → tb σ H Q) (q : a = false → Q (.bl false) H) : tAndV ta tb σ H Q := by
  refine h _ ⟨a, rfl, ?_⟩
  cases a
  · exact iteF (q rfl)
  · exact iteT (g rfl)
theorem skip_if {tA : TT} {ta u : TS} {D : Ends} {σ : L2.St} {H : Hp} (h : ∀ R : Bool → Hp → Prop, (∀ H1, Same H H1 → R false H1) → tA σ H R) (g : ∀ H1, Same H H1 → u D σ H1) : tSeq (tIfS tA ta tNext) u D σ H :=
  h _ fun H1 s1 => iteF (g H1 s1)
section
variable {P : Program} {w : World} {K : PySem.W.Frag} {mg : PySem.Str → Option Value} {base : Heap}
abbrev nil0 : PySem.Str := PySem.Str.ofString ""
/-! is_top -/
def Top (x : PySem.Str) : Prop := symB x = true ∨ x = nil0
theorem top_len {x : PySem.Str} (h : Top x) : x.length ≤ 8 := by
  rcases h with h | h
  · unfold symB at h
    rw [Bool.and_eq_true, Bool.and_eq_true, decide_eq_true_eq, decide_eq_true_eq] at h
    exact h.1.2
  · rw [h]
    decide +kernel
def spTop : Sp := fun vs H Q _ => ∃ x : PySem.Str, vs = [.str x] ∧ Top x ∧ ∀ H', Same H H' → Q (.bl true) H'
theorem scTop : FnScope ["value"] ["value"] (defScope sTop) := ⟨rfl, rfl, rfl, by decide +kernel, rfl, by decide +kernel, by decide +kernel⟩
theorem ok_top {f : Addr} {fd : FuncData} (F : Fun K "is_top" "is_top" sTop f fd) (T : TM mg) (G : Got P w K mg base "is_symbol" 2 ["value"] spSymbol) : FnOk P w K mg base CX0 3 f fd ["value"] spTop := by
  refine F.ok scTop (fun vs H Q E h => ?_) (fun cdv A outer s H vs Q E hr h => ?_)
  · obtain ⟨x, rfl, _⟩ := h
    rfl
  · obtain ⟨x, rfl, ht, k⟩ := h
    refine ⟨_, pss_one (ps_ret (pe_or (pe_got G hr (by rfl) (pa_cons (pv 0) pa_nil)) (pe_one (pe_and (pe_callB call_isi (by rfl) T.isi (by decide +kernel) (pa_cons (pv 0) (pa_cons (pe_bltn (v := .ty "str") (by rfl) T.str PyProof.Rows.Boot.str rfl) pa_nil)))
      (pe_one (pe_cmpR op_eq (pv 0) pe_str (nomark _))))))), ?_⟩
    refine ⟨_, rfl, x, rfl, Nat.le_trans (top_len ht) (by decide), fun H1 s1 => ⟨_, rfl, ?_⟩⟩
    rcases ht with e | e
    · rw [e]
      exact iteT (k H1 s1)
    · refine ite2 (fun _ => k H1 s1) fun _ => ?_
      refine ⟨_, rfl, _, _, _, _, true, rfl, .ty _, .base (.str _), kit_ty (by decide +kernel), _, rfl, ?_⟩
      refine iteT ?_
      refine ⟨_, rfl, rfl, ?_⟩
      rw [dec_str, e, decide_eq_true rfl]
      exact k H1 s1
/-! is_move -/
abbrev lt0 : PySem.Str := PySem.Str.ofString "<"
abbrev gt0 : PySem.Str := PySem.Str.ofString ">"
structure Mv (s : PySem.Str) (v : Int) : Prop where
  lo : -1 ≤ v
  hi : v ≤ 1
  l : s = lt0 → v ≠ -1
  r : s = gt0 → v ≠ 1
def spMove : Sp := fun vs H Q _ => ∃ (s : PySem.Str) (v : Int), vs = [.str s, .int v] ∧ Mv s v ∧ Q (.bl true) H
theorem scMove : FnScope ["sign", "value"] ["sign", "value"] (defScope sMove) := ⟨rfl, rfl, rfl, by decide +kernel, rfl, by decide +kernel, by decide +kernel⟩
theorem dec_intV (x y : Int) : decide (V.int x = V.int y) = decide (x = y) := by simp
theorem ok_move {f : Addr} {fd : FuncData} (F : Fun K "is_move" "is_move" sMove f fd) (G : Got P w K mg base "is_between" 2 ["value", "least", "most"] spBetween) : FnOk P w K mg base CX0 3 f fd ["sign", "value"] spMove := by
  refine F.ok scMove (fun vs H Q E h => ?_) (fun cdv A outer s H vs Q E hr h => ?_)
  · obtain ⟨x, v, rfl, _⟩ := h
    rfl
  · obtain ⟨x, v, rfl, m, k⟩ := h
    refine ⟨_, pss_cons (ps_if (pt_not (pt_val (pe_got G hr (by rfl) (pa_cons (pv 1) (pa_cons (pe_un un_neg pe_int) (pa_cons pe_int pa_nil)))))) (pss_one (ps_ret pe_bl)) pss_nil)
      (pss_one (ps_ret (pe_not (pe_or (pe_and (pe_cmpR op_eq (pv 0) pe_str (nomark _)) (pe_one (pe_cmpR op_eq (pv 1) (pe_un un_neg pe_int) (nomark _))))
        (pe_one (pe_and (pe_cmpR op_eq (pv 0) pe_str (nomark _)) (pe_one (pe_cmpR op_eq (pv 1) pe_int (nomark _))))))))), ?_⟩
    refine ⟨_, rfl, _, rfl, v, -1, 1, rfl, _, rfl, ?_⟩
    rw [decide_eq_true m.lo, decide_eq_true m.hi]
    refine iteF ?_
    have fin : ∀ b : Bool, b = false → ∃ c, V.bl b = V.bl c ∧ Q (.bl (!c)) H := fun b e => by
      rw [e]
      exact ⟨false, rfl, k⟩
    dsimp only [tNext, tRet, tNotV]
    refine or_bool (a := decide (x = lt0) && decide (v = -1)) (fun Q' q => ?_) (fun e => ?_) (fun e => ?_)
    · refine and_bool (a := decide (x = lt0)) (fun Q2 q2 => ⟨_, rfl, rfl, by rw [dec_str]; exact q2⟩) (fun e => ?_) (fun e => ?_)
      · refine ⟨_, rfl, _, rfl, rfl, ?_⟩
        rw [dec_intV]
        rw [e] at q
        exact q
      · rw [e] at q
        exact q
    · refine and_bool (a := decide (x = gt0)) (fun Q2 q2 => ⟨_, rfl, rfl, by rw [dec_str]; exact q2⟩) (fun e => ?_) (fun e => ?_)
      · refine ⟨_, rfl, rfl, ?_⟩
        rw [dec_intV, decide_eq_false (m.r (of_decide_eq_true e))]
        exact fin _ rfl
      · exact fin _ rfl
    · rw [Bool.and_eq_true, decide_eq_true_eq, decide_eq_true_eq] at e
      exact absurd e.2 (m.l e.1)
/-! is_deed -/
abbrev keep0 : PySem.Str := PySem.Str.ofString "keep"
abbrev pop0 : PySem.Str := PySem.Str.ofString "pop"
abbrev push0 : PySem.Str := PySem.Str.ofString "push"
abbrev swap0 : PySem.Str := PySem.Str.ofString "swap"
structure Deed (t d s : PySem.Str) : Prop where
  one : d = keep0 ∨ d = pop0 ∨ d = push0 ∨ d = swap0
  low : t = nil0 → d = keep0 ∨ d = push0
  sym : d = push0 ∨ d = swap0 → symB s = true
  no : d = keep0 ∨ d = pop0 → s = nil0
/-- the module's tuple DEEDS -/
def Deeds (K : PySem.W.Frag) (mg : PySem.Str → Option Value) : Prop := ∃ a, mg "DEEDS" = some (.ref a) ∧ ∀ H : Hp, SqT K H a [.str keep0, .str pop0, .str push0, .str swap0]
def spDeed : Sp := fun vs H Q _ => ∃ t d s : PySem.Str, vs = [.str t, .str d, .str s] ∧ Deed t d s ∧ ∀ H', Same H H' → Q (.bl true) H'
theorem scDeed : FnScope ["top", "deed", "symbol"] ["top", "deed", "symbol"] (defScope sDeed) := ⟨rfl, rfl, rfl, by decide +kernel, rfl, by decide +kernel, by decide +kernel⟩
theorem ok_deed {f : Addr} {fd : FuncData} (F : Fun K "is_deed" "is_deed" sDeed f fd) (T : TM mg) (D : Deeds K mg) (G : Got P w K mg base "is_symbol" 2 ["value"] spSymbol) : FnOk P w K mg base CX0 3 f fd ["top", "deed", "symbol"] spDeed := by
  refine F.ok scDeed (fun vs H Q E h => ?_) (fun cdv A outer s H vs Q E hr h => ?_)
  · obtain ⟨t, d, x, rfl, _⟩ := h
    rfl
  · obtain ⟨t, d, x, rfl, m, k⟩ := h
    obtain ⟨aD, gD, hD⟩ := D
    refine ⟨_, pss_cons (ps_if (PW.pt (pw_or (pt_not (pt_val (pe_callB call_isi (by rfl) T.isi (by decide +kernel) (pa_cons (pv 1) (pa_cons (pe_bltn (v := .ty "str") (by rfl) T.str PyProof.Rows.Boot.str rfl) pa_nil)))))
        (pw_or1 (pt_cmpR op_notIn_seq (pv 1) (pe_glob (v := .ref aD) (by rfl) gD rfl) rfl)))) (pss_one (ps_ret pe_bl)) pss_nil)
      (pss_cons (ps_if (PW.pt (pw_and (pt_cmpR op_eq (pv 0) pe_str (nomark _)) (pw_and1 (pt_cmpR op_notIn_seq (pv 1) (pe_tup (pa_cons pe_str (pa_cons pe_str pa_nil))) rfl)))) (pss_one (ps_ret pe_bl)) pss_nil)
      (pss_cons (ps_if (pt_cmpR op_in_seq (pv 1) (pe_tup (pa_cons pe_str (pa_cons pe_str pa_nil))) rfl) (pss_one (ps_ret (pe_got G hr (by rfl) (pa_cons (pv 2) pa_nil)))) pss_nil)
      (pss_one (ps_ret (pe_and (pe_callB call_isi (by rfl) T.isi (by decide +kernel) (pa_cons (pv 2) (pa_cons (pe_bltn (v := .ty "str") (by rfl) T.str PyProof.Rows.Boot.str rfl) pa_nil)))
        (pe_one (pe_cmpR op_eq (pv 2) pe_str (nomark _)))))))), ?_⟩
    refine ⟨_, rfl, _, _, _, _, true, rfl, .ty _, .base (.str _), kit_ty (by decide +kernel), _, rfl, ?_⟩
    refine iteF ?_
    have rest : ∀ H1 : Hp, Same H H1 → (∀ H2, Same H1 H2 → Q (.bl true) H2) := fun H1 s1 H2 s2 => k H2 (s1.trans s2)
    have inD : inV (.str d) [.str keep0, .str pop0, .str push0, .str swap0] = true := by
      rcases m.one with e | e | e | e <;> rw [e] <;> decide +kernel
    refine ⟨_, rfl, aD, _, rfl, .inr (hD H), rfl, rfl, _, rfl, ?_⟩
    rw [inD]
    refine iteF ?_
    have two : ∀ {a b : PySem.Str} {p : Addr} {H1 : Hp}, SqT K (upd H1 p (.tup [.str a, .str b])) p [.str a, .str b] := .inl (.inl upd_same)
    dsimp only [tNext]
    refine skip_if (fun R r => ?_) (fun H1 s1 => ?_)
    · refine ⟨_, rfl, rfl, _, rfl, ?_⟩
      refine ite2 (fun e => ?_) (fun _ => r H (fun _ _ z => z))
      rw [dec_str, decide_eq_true_eq] at e
      refine ⟨_, rfl, by decide, fun p hp => ⟨p, _, rfl, .inr two, rfl, rfl, _, rfl, ?_⟩⟩
      have z : inV (.str d) [.str keep0, .str push0] = true := by
        rcases m.low e with e | e <;> rw [e] <;> decide +kernel
      rw [z]
      exact r _ (same_new hp)
    · by_cases e : d = push0 ∨ d = swap0
      · have z : inV (.str d) [.str push0, .str swap0] = true := by
          rcases e with e | e <;> rw [e] <;> decide +kernel
        refine ⟨_, rfl, by decide, fun p hp => ⟨p, _, rfl, .inr two, rfl, rfl, _, rfl, ?_⟩⟩
        rw [z]
        refine iteT ?_
        have y := m.sym e
        refine ⟨_, rfl, x, rfl, Nat.le_trans (top_len (.inl y)) (by decide), fun H2 s2 => ?_⟩
        rw [y]
        exact k H2 ((s1.trans (same_new hp)).trans s2)
      · have e2 : d = keep0 ∨ d = pop0 := by
          rcases m.one with z | z | z | z
          · exact .inl z
          · exact .inr z
          · exact absurd (.inl z) e
          · exact absurd (.inr z) e
        have z : inV (.str d) [.str push0, .str swap0] = false := by
          rcases e2 with e | e <;> rw [e] <;> decide +kernel
        refine ⟨_, rfl, by decide, fun p hp => ⟨p, _, rfl, .inr two, rfl, rfl, _, rfl, ?_⟩⟩
        rw [z]
        refine iteF ?_
        refine ⟨_, rfl, _, _, _, _, true, rfl, .ty _, .base (.str _), kit_ty (by decide +kernel), _, rfl, ?_⟩
        refine iteT ?_
        refine ⟨_, rfl, rfl, ?_⟩
        rw [dec_str, m.no e2, decide_eq_true rfl]
        exact k _ (s1.trans (same_new hp))
end
end Mk

set_option Elab.async false
set_option maxRecDepth 100000
set_option maxHeartbeats 4000000
namespace Mk
open PySem L2 Pk
def gSq (b : Bool) (K : PySem.W.Frag) (n : Nat) (t : TGs) : TG := match b with
  | true => gLst K n t
  | false => gTup K n t
theorem pg_sq {X : Cx} {pos : Pos} {es : List Expr} {k : Nat} {t : TGs} {n : Nat} (b : Bool) (hc : X.calm = true) (h : PGs X es t)
    (hn : (assignEach es X.env).length = n := by rfl) (hst : (assignEach es X.env).findIdx? (·.1) = none := by rfl) : PG X (.Tuple es k pos) (gSq b X.K n t) := by
  cases b
  · exact pg_tup hc h hn hst
  · exact pg_lst hc h hn hst
theorem gsq_of {b : Bool} {K : PySem.W.Frag} {n : Nat} {t : TGs} {v : V} {σ : L2.St} {H : Hp} {Q} (h : ∃ a xs, v = .ref a ∧ SqB b K H a xs ∧ xs.length = n ∧ t xs σ H Q) : gSq b K n t v σ H Q := by
  cases b
  · exact h
  · exact h
/-- a rule -/
structure Rl where
  st : Int
  sg : PySem.Str
  tp : PySem.Str
  af : Int
  mv : Int
  de : PySem.Str
  sy : PySem.Str
  sa : PySem.Str
  deriving DecidableEq
def Rl.vs (r : Rl) : List V := [.int r.st, .str r.sg, .str r.tp, .int r.af, .int r.mv, .str r.de, .str r.sy, .str r.sa]
structure RlOk (l : PySem.Str) (n : Int) (r : Rl) : Prop where
  st : 0 ≤ r.st ∧ r.st ≤ n - 1
  sg : Sgn l r.sg
  tp : Top r.tp
  af : 0 ≤ r.af ∧ r.af ≤ n - 1
  mv : Mv r.sg r.mv
  de : Deed r.tp r.de r.sy
  sa : lowB r.sa = true ∧ r.sa.length ≤ 3
section
variable {P : Program} {w : World} {K : PySem.W.Frag} {mg : PySem.Str → Option Value} {base : Heap}
/-! is_state -/
def spState : Sp := fun vs H Q _ => ∃ n v : Int, vs = [.int n, .int v] ∧ Q (.bl (decide (0 ≤ v) && decide (v ≤ n - 1))) H
theorem scState : FnScope ["states", "value"] ["states", "value"] (defScope sState) := ⟨rfl, rfl, rfl, by decide +kernel, rfl, by decide +kernel, by decide +kernel⟩
theorem ok_state {f : Addr} {fd : FuncData} (F : Fun K "is_state" "is_state" sState f fd) (G : Got P w K mg base "is_between" 2 ["value", "least", "most"] spBetween) : FnOk P w K mg base CX0 3 f fd ["states", "value"] spState := by
  refine F.ok scState (fun vs H Q E h => ?_) (fun cdv A outer s H vs Q E hr h => ?_)
  · obtain ⟨n, v, rfl, _⟩ := h
    rfl
  · obtain ⟨n, v, rfl, k⟩ := h
    refine ⟨_, pss_one (ps_ret (pe_got G hr (by rfl) (pa_cons (pv 1) (pa_cons pe_int (pa_cons (pe_op op_sub (pv 0) pe_int) pa_nil))))), ?_⟩
    exact ⟨_, rfl, _, rfl, _, _, rfl, rfl, v, 0, n - 1, rfl, k⟩
/-! is_rule -/
structure RuleDefs (P : Program) (w : World) (K : PySem.W.Frag) (mg : PySem.Str → Option Value) (base : Heap) : Prop where
  row : Got P w K mg base "is_row" 2 ["value", "length"] (spRow K)
  state : Got P w K mg base "is_state" 3 ["states", "value"] spState
  sign : Got P w K mg base "is_sign" 1 ["letters", "value"] spSign
  top : Got P w K mg base "is_top" 3 ["value"] spTop
  move : Got P w K mg base "is_move" 3 ["sign", "value"] spMove
  deed : Got P w K mg base "is_deed" 3 ["top", "deed", "symbol"] spDeed
  letters : Got P w K mg base "are_letters" 1 ["value", "most"] spLetters
def spRule (K : PySem.W.Frag) : Sp := fun vs H Q _ => ∃ (l : PySem.Str) (n : Int) (a : Addr) (b : Bool) (r : Rl), vs = [.str l, .int n, .ref a] ∧ SqB b K H a r.vs ∧ RlOk l n r ∧ ∀ H', Same H H' → Q (.bl true) H'
abbrev nRule : List PySem.Str := ["letters", "states", "value", "state", "sign", "top", "after", "move", "deed", "symbol", "said"]
theorem scRule : FnScope nRule ["letters", "states", "value"] (defScope sRule) := ⟨rfl, rfl, rfl, by decide +kernel, rfl, by decide +kernel, by decide +kernel⟩
theorem ok_rule {f : Addr} {fd : FuncData} (F : Fun K "is_rule" "is_rule" sRule f fd) (G : RuleDefs P w K mg base) : FnOk P w K mg base CX0 4 f fd ["letters", "states", "value"] (spRule K) := by
  refine F.ok scRule (fun vs H Q E h => ?_) (fun cdv A outer s H vs Q E hr h => ?_)
  · obtain ⟨l, n, a, b, r, rfl, _⟩ := h
    rfl
  · obtain ⟨l, n, a, b, r, rfl, hS, ok, k⟩ := h
    have h2 := hr.mono (show 2 ≤ 3 by decide)
    have h1 := hr.mono (show 1 ≤ 3 by decide)
    refine ⟨_, pss_cons (ps_if (pt_not (pt_val (pe_got G.row h2 (by rfl) (pa_cons (pv 2) (pa_cons pe_int pa_nil))))) (pss_one (ps_ret pe_bl)) pss_nil)
      (pss_cons (ps_asg (pv 2) (pg_sq b (by rfl) (pgs_cons (pg_name (i := 3) scRule.nd rfl (Or.inl rfl)) (pgs_cons (pg_name (i := 4) scRule.nd rfl (Or.inl rfl)) (pgs_cons (pg_name (i := 5) scRule.nd rfl (Or.inl rfl))
        (pgs_cons (pg_name (i := 6) scRule.nd rfl (Or.inl rfl)) (pgs_cons (pg_name (i := 7) scRule.nd rfl (Or.inl rfl)) (pgs_cons (pg_name (i := 8) scRule.nd rfl (Or.inl rfl)) (pgs_cons (pg_name (i := 9) scRule.nd rfl (Or.inl rfl)) (pgs_cons (pg_name (i := 10) scRule.nd rfl (Or.inl rfl)) pgs_nil))))))))))
      (pss_cons (ps_if (pt_not (PW.pt (pw_and (pt_val (pe_got G.state hr (by rfl) (pa_cons (pv 1) (pa_cons (pv 3) pa_nil)))) (pw_and (pt_val (pe_got G.sign h1 (by rfl) (pa_cons (pv 0) (pa_cons (pv 4) pa_nil)))) (pw_and1 (pt_val (pe_got G.top hr (by rfl) (pa_cons (pv 5) pa_nil))))))) ) (pss_one (ps_ret pe_bl)) pss_nil)
      (pss_cons (ps_if (pt_not (PW.pt (pw_and (pt_val (pe_got G.state hr (by rfl) (pa_cons (pv 1) (pa_cons (pv 6) pa_nil)))) (pw_and1 (pt_val (pe_got G.move hr (by rfl) (pa_cons (pv 4) (pa_cons (pv 7) pa_nil))))))) ) (pss_one (ps_ret pe_bl)) pss_nil)
      (pss_one (ps_ret (pe_and (pe_got G.deed hr (by rfl) (pa_cons (pv 5) (pa_cons (pv 8) (pa_cons (pv 9) pa_nil)))) (pe_one (pe_got G.letters h1 (by rfl) (pa_cons (pv 10) (pa_cons pe_int pa_nil)))))))))), ?_⟩
    refine ⟨_, rfl, a, b, r.vs, 8, rfl, hS, fun H1 s1 => ⟨_, rfl, ?_⟩⟩
    rw [show decide (((r.vs.length : Nat) : Int) = 8) = true from rfl]
    refine iteF ?_
    refine ⟨_, rfl, gsq_of ⟨a, r.vs, rfl, hS.mono s1, rfl, _, _, rfl, _, _, rfl, _, _, rfl, _, _, rfl, _, _, rfl, _, _, rfl, _, _, rfl, _, _, rfl, rfl, ?_⟩⟩
    refine ⟨_, rfl, _, rfl, n, r.st, rfl, _, rfl, ?_⟩
    rw [decide_eq_true ok.st.1, decide_eq_true ok.st.2]
    refine iteT ?_
    refine ⟨_, rfl, _, rfl, l, r.sg, rfl, ok.sg, _, rfl, ?_⟩
    refine iteT ?_
    refine ⟨_, rfl, r.tp, rfl, ok.tp, fun H2 s2 => ⟨_, rfl, ?_⟩⟩
    refine iteF ?_
    refine ⟨_, rfl, _, rfl, n, r.af, rfl, _, rfl, ?_⟩
    rw [decide_eq_true ok.af.1, decide_eq_true ok.af.2]
    refine iteT ?_
    refine ⟨_, rfl, _, rfl, r.sg, r.mv, rfl, ok.mv, _, rfl, ?_⟩
    refine iteF ?_
    refine ⟨_, rfl, _, rfl, _, rfl, r.tp, r.de, r.sy, rfl, ok.de, fun H3 s3 => ⟨_, rfl, ?_⟩⟩
    refine iteT ?_
    refine ⟨_, rfl, r.sa, 3, rfl, Nat.le_trans ok.sa.2 (by decide), fun H4 s4 => ?_⟩
    rw [ok.sa.1, decide_eq_true (p := (r.sa.length : Int) ≤ 3) (by have := ok.sa.2; omega)]
    exact k H4 (((s1.trans s2).trans s3).trans s4)
end
end Mk

set_option Elab.async false
set_option linter.unusedVariables false
set_option maxRecDepth 100000
set_option maxHeartbeats 8000000
namespace Mk
open PySem L2 Pk
/-! what a value is, by its data -/
def tyN : PyData → String
  | .none => "NoneType"
  | .bool _ => "bool"
  | .int _ => "int"
  | .str _ => "str"
  | .list _ => "list"
  | .tuple _ => "tuple"
  | .dict _ => "dict"
theorem dp_tyx {K : PySem.W.Frag} {H : Hp} {v : V} {d : PyData} (h : Dp K H v d) : TyX K H v (.type (tyN d)) := by
  cases h with
  | non => exact .base .non
  | bl b => exact .base (.bl b)
  | int i => exact .base (.int i)
  | str x => exact .base (.str x)
  | lst hs _ => exact tyx_sq (b := true) hs
  | tup hs _ => exact tyx_sq (b := false) hs
def isIntT : PyData → Bool
  | .int _ => true
  | .bool _ => true
  | _ => false
def isBoolT : PyData → Bool
  | .bool _ => true
  | _ => false
def isStrT : PyData → Bool
  | .str _ => true
  | _ => false
def isSeqT : PyData → Bool
  | .list _ => true
  | .tuple _ => true
  | _ => false
def isIntD : PyData → Bool
  | .int _ => true
  | _ => false
theorem kit_int {K : PySem.W.Frag} : ∀ d : PyData, PySem.W.kitOne K (.type (tyN d)) (.type "int") = some (isIntT d)
  | .none => (kit_ty (by decide +kernel) : PySem.W.kitOne K (.type "NoneType") (.type "int") = some false)
  | .bool _ => (kit_ty (by decide +kernel) : PySem.W.kitOne K (.type "bool") (.type "int") = some true)
  | .int _ => (kit_ty (by decide +kernel) : PySem.W.kitOne K (.type "int") (.type "int") = some true)
  | .str _ => (kit_ty (by decide +kernel) : PySem.W.kitOne K (.type "str") (.type "int") = some false)
  | .list _ => (kit_ty (by decide +kernel) : PySem.W.kitOne K (.type "list") (.type "int") = some false)
  | .tuple _ => (kit_ty (by decide +kernel) : PySem.W.kitOne K (.type "tuple") (.type "int") = some false)
  | .dict _ => (kit_ty (by decide +kernel) : PySem.W.kitOne K (.type "dict") (.type "int") = some false)
theorem kit_bool {K : PySem.W.Frag} : ∀ d : PyData, PySem.W.kitOne K (.type (tyN d)) (.type "bool") = some (isBoolT d)
  | .none => (kit_ty (by decide +kernel) : PySem.W.kitOne K (.type "NoneType") (.type "bool") = some false)
  | .bool _ => (kit_ty (by decide +kernel) : PySem.W.kitOne K (.type "bool") (.type "bool") = some true)
  | .int _ => (kit_ty (by decide +kernel) : PySem.W.kitOne K (.type "int") (.type "bool") = some false)
  | .str _ => (kit_ty (by decide +kernel) : PySem.W.kitOne K (.type "str") (.type "bool") = some false)
  | .list _ => (kit_ty (by decide +kernel) : PySem.W.kitOne K (.type "list") (.type "bool") = some false)
  | .tuple _ => (kit_ty (by decide +kernel) : PySem.W.kitOne K (.type "tuple") (.type "bool") = some false)
  | .dict _ => (kit_ty (by decide +kernel) : PySem.W.kitOne K (.type "dict") (.type "bool") = some false)
theorem kit_str {K : PySem.W.Frag} : ∀ d : PyData, PySem.W.kitOne K (.type (tyN d)) (.type "str") = some (isStrT d)
  | .none => (kit_ty (by decide +kernel) : PySem.W.kitOne K (.type "NoneType") (.type "str") = some false)
  | .bool _ => (kit_ty (by decide +kernel) : PySem.W.kitOne K (.type "bool") (.type "str") = some false)
  | .int _ => (kit_ty (by decide +kernel) : PySem.W.kitOne K (.type "int") (.type "str") = some false)
  | .str _ => (kit_ty (by decide +kernel) : PySem.W.kitOne K (.type "str") (.type "str") = some true)
  | .list _ => (kit_ty (by decide +kernel) : PySem.W.kitOne K (.type "list") (.type "str") = some false)
  | .tuple _ => (kit_ty (by decide +kernel) : PySem.W.kitOne K (.type "tuple") (.type "str") = some false)
  | .dict _ => (kit_ty (by decide +kernel) : PySem.W.kitOne K (.type "dict") (.type "str") = some false)
theorem kit_sq {K : PySem.W.Frag} (d : PyData) : PySem.W.kitAny K (.type (tyN d)) [.type "list", .type "tuple"] = some (isSeqT d) := by
  have go : ∀ (s : String) (a b : Bool), PySem.W.kitOne K (.type s) (.type "list") = some a → PySem.W.kitOne K (.type s) (.type "tuple") = some b → PySem.W.kitAny K (.type s) [.type "list", .type "tuple"] = some (a || b) := fun s a b h1 h2 => by
    cases a
    · cases b
      · exact kitAny_cons (b := false) h1 (fun _ => kitAny_cons (b := false) h2 (fun _ => rfl) fun z => nomatch z) fun z => nomatch z
      · exact kitAny_cons (b := false) h1 (fun _ => kitAny_cons (b := true) h2 (fun z => nomatch z) fun _ => rfl) fun z => nomatch z
    · exact kitAny_cons (b := true) h1 (fun z => nomatch z) fun _ => rfl
  match d with
  | .none => exact go "NoneType" false false (kit_ty (by decide +kernel)) (kit_ty (by decide +kernel))
  | .bool _ => exact go "bool" false false (kit_ty (by decide +kernel)) (kit_ty (by decide +kernel))
  | .int _ => exact go "int" false false (kit_ty (by decide +kernel)) (kit_ty (by decide +kernel))
  | .str _ => exact go "str" false false (kit_ty (by decide +kernel)) (kit_ty (by decide +kernel))
  | .list _ => exact go "list" true false (kit_ty (by decide +kernel)) (kit_ty (by decide +kernel))
  | .tuple _ => exact go "tuple" false true (kit_ty (by decide +kernel)) (kit_ty (by decide +kernel))
  | .dict _ => exact go "dict" false false (kit_ty (by decide +kernel)) (kit_ty (by decide +kernel))
theorem dp_seq {K : PySem.W.Frag} {H : Hp} {v : V} {d : PyData} (h : Dp K H v d) (e : isSeqT d = true) : ∃ (a : Addr) (b : Bool) (xs : List V) (ds : List PyData), v = .ref a ∧ SqB b K H a xs ∧ DpAll K H xs ds ∧ d = (if b = true then .list ds else .tuple ds) := by
  cases h with
  | lst hs ha => exact ⟨_, true, _, _, rfl, hs, ha, rfl⟩
  | tup hs ha => exact ⟨_, false, _, _, rfl, hs, ha, rfl⟩
  | _ => cases e
theorem dp_str {K : PySem.W.Frag} {H : Hp} {v : V} {d : PyData} (h : Dp K H v d) (e : isStrT d = true) : ∃ x, v = .str x ∧ d = .str x := by
  cases h with
  | str x => exact ⟨x, rfl, rfl⟩
  | _ => cases e
theorem dp_int {K : PySem.W.Frag} {H : Hp} {v : V} {d : PyData} (h : Dp K H v d) (e : isIntD d = true) : ∃ n, v = .int n ∧ d = .int n := by
  cases h with
  | int n => exact ⟨n, rfl, rfl⟩
  | _ => cases e
section
variable {P : Program} {w : World} {K : PySem.W.Frag} {mg : PySem.Str → Option Value} {base : Heap}
/-! is_integer, is_between, is_state, is_sequence, is_row: of any value -/
def spIntegerD (K : PySem.W.Frag) : Sp := fun vs H Q _ => ∃ v d, vs = [v] ∧ Dp K H v d ∧ Q (.bl (isIntD d)) H
theorem okD_integer {f : Addr} {fd : FuncData} (F : Fun K "is_integer" "is_integer" sInteger f fd) (T : TM mg) : FnOk P w K mg base CX0 1 f fd ["value"] (spIntegerD K) := by
  refine F.ok scInteger (fun vs H Q E h => ?_) (fun cdv A outer s H vs Q E hr h => ?_)
  · obtain ⟨v, d, rfl, _⟩ := h
    rfl
  · obtain ⟨v, d, rfl, hd, k⟩ := h
    refine ⟨_, pss_one (ps_ret (pe_and (pe_callB call_isi (by rfl) T.isi (by decide +kernel) (pa_cons (pv 0) (pa_cons (pe_bltn (v := .ty "int") (by rfl) T.int PyProof.Rows.Boot.int rfl) pa_nil)))
      (pe_one (pe_not (pe_callB call_isi (by rfl) T.isi (by decide +kernel) (pa_cons (pv 0) (pa_cons (pe_bltn (v := .ty "bool") (by rfl) T.bool PyProof.Rows.Boot.bool rfl) pa_nil))))))), ?_⟩
    refine ⟨_, rfl, _, _, _, _, isIntT d, rfl, .ty _, dp_tyx hd, kit_int d, _, rfl, ?_⟩
    refine ite2 (fun c => ⟨_, rfl, _, _, _, _, isBoolT d, rfl, .ty _, dp_tyx hd, kit_bool d, _, rfl, ?_⟩) (fun c => ?_)
    · have e : isIntD d = !isBoolT d := by cases d <;> first | rfl | cases c
      rw [e] at k
      exact k
    · have e : isIntD d = false := by cases d <;> first | rfl | exact absurd rfl c
      rw [e] at k
      exact k
def btw (lo hi : Int) : PyData → Bool
  | .int n => decide (lo ≤ n) && decide (n ≤ hi)
  | _ => false
def spBetweenD (K : PySem.W.Frag) : Sp := fun vs H Q _ => ∃ (v : V) (d : PyData) (lo hi : Int), vs = [v, .int lo, .int hi] ∧ Dp K H v d ∧ Q (.bl (btw lo hi d)) H
theorem okD_between {f : Addr} {fd : FuncData} (F : Fun K "is_between" "is_between" sBetween f fd) (G : Got P w K mg base "is_integer" 1 ["value"] (spIntegerD K)) : FnOk P w K mg base CX0 2 f fd ["value", "least", "most"] (spBetweenD K) := by
  refine F.ok scBetween (fun vs H Q E h => ?_) (fun cdv A outer s H vs Q E hr h => ?_)
  · obtain ⟨v, d, lo, hi, rfl, _⟩ := h
    rfl
  · obtain ⟨v, d, lo, hi, rfl, hd, k⟩ := h
    refine ⟨_, pss_one (ps_ret (pe_and (pe_got G hr (by rfl) (pa_cons (pv 0) pa_nil)) (pe_one (pe_chain op_le op_le (pv 1) (pv 0) (pv 2))))), ?_⟩
    refine ⟨_, rfl, v, d, rfl, hd, _, rfl, ?_⟩
    refine ite2 (fun c => ?_) (fun c => ?_)
    · obtain ⟨n, rfl, rfl⟩ := dp_int hd c
      refine ⟨_, rfl, _, rfl, _, _, rfl, rfl, _, rfl, ?_⟩
      refine ite2 (fun c => ?_) (fun c => ?_)
      · refine ⟨_, rfl, _, _, rfl, rfl, ?_⟩
        have k' : Q (.bl (decide (lo ≤ n) && decide (n ≤ hi))) H := k
        have c' : decide (lo ≤ n) = true := c
        rw [c'] at k'
        exact k'
      · have k' : Q (.bl (decide (lo ≤ n) && decide (n ≤ hi))) H := k
        have c' : decide (lo ≤ n) = false := Bool.eq_false_iff.mpr c
        rw [c'] at k'
        exact k'
    · have e : btw lo hi d = false := by cases d <;> first | rfl | exact absurd rfl c
      rw [e] at k
      exact k
def spStateD (K : PySem.W.Frag) : Sp := fun vs H Q _ => ∃ (n : Int) (v : V) (d : PyData), vs = [.int n, v] ∧ Dp K H v d ∧ Q (.bl (btw 0 (n - 1) d)) H
theorem okD_state {f : Addr} {fd : FuncData} (F : Fun K "is_state" "is_state" sState f fd) (G : Got P w K mg base "is_between" 2 ["value", "least", "most"] (spBetweenD K)) : FnOk P w K mg base CX0 3 f fd ["states", "value"] (spStateD K) := by
  refine F.ok scState (fun vs H Q E h => ?_) (fun cdv A outer s H vs Q E hr h => ?_)
  · obtain ⟨n, v, d, rfl, _⟩ := h
    rfl
  · obtain ⟨n, v, d, rfl, hd, k⟩ := h
    refine ⟨_, pss_one (ps_ret (pe_got G hr (by rfl) (pa_cons (pv 1) (pa_cons pe_int (pa_cons (pe_op op_sub (pv 0) pe_int) pa_nil))))), ?_⟩
    exact ⟨_, rfl, _, rfl, _, _, rfl, rfl, v, d, 0, n - 1, rfl, hd, k⟩
def spSequenceD (K : PySem.W.Frag) : Sp := fun vs H Q _ => ∃ (v : V) (d : PyData), vs = [v] ∧ Dp K H v d ∧ ∀ H', Same H H' → Q (.bl (isSeqT d)) H'
theorem okD_sequence {f : Addr} {fd : FuncData} (F : Fun K "is_sequence" "is_sequence" sSequence f fd) (T : TM mg) : FnOk P w K mg base CX0 1 f fd ["value"] (spSequenceD K) := by
  refine F.ok scSequence (fun vs H Q E h => ?_) (fun cdv A outer s H vs Q E hr h => ?_)
  · obtain ⟨v, d, rfl, _⟩ := h
    rfl
  · obtain ⟨v, d, rfl, hd, k⟩ := h
    refine ⟨_, pss_one (ps_ret (pe_callB call_isiT (by rfl) T.isi (by decide +kernel) (pa_cons (pv 0) (pa_cons (pe_tup (pa_cons (pe_bltn (v := .ty "list") (by rfl) T.list PyProof.Rows.Boot.list rfl) (pa_cons (pe_bltn (v := .ty "tuple") (by rfl) T.tuple PyProof.Rows.Boot.tuple rfl) pa_nil))) pa_nil)))), ?_⟩
    refine ⟨_, rfl, by decide, fun p hp => ?_⟩
    exact ⟨_, p, _, _, _, isSeqT d, rfl, upd_same, .cons (.ty _) (.cons (.ty _) .nil), dp_tyx (dp_mono (same_new hp) _ _ hd), kit_sq d, k _ (same_new hp)⟩
def seqLen : PyData → Option Nat
  | .list ds => some ds.length
  | .tuple ds => some ds.length
  | _ => none
def spRowD (K : PySem.W.Frag) : Sp := fun vs H Q _ => ∃ (v : V) (d : PyData) (n : Nat), vs = [v, .int (n : Int)] ∧ Dp K H v d ∧ ∀ H', Same H H' → Q (.bl (decide (seqLen d = some n))) H'
theorem okD_row {f : Addr} {fd : FuncData} (F : Fun K "is_row" "is_row" sRow f fd) (T : TM mg) (G : Got P w K mg base "is_sequence" 1 ["value"] (spSequenceD K)) : FnOk P w K mg base CX0 2 f fd ["value", "length"] (spRowD K) := by
  refine F.ok scRow (fun vs H Q E h => ?_) (fun cdv A outer s H vs Q E hr h => ?_)
  · obtain ⟨v, d, n, rfl, _⟩ := h
    rfl
  · obtain ⟨v, d, n, rfl, hd, k⟩ := h
    refine ⟨_, pss_one (ps_ret (pe_and (pe_got G hr (by rfl) (pa_cons (pv 0) pa_nil)) (pe_one (pe_cmpR op_eq (pe_callB call_len_seq (by rfl) T.len PySem.boot_len (pa_cons (pv 0) pa_nil)) (pv 1) (nomark _))))), ?_⟩
    refine ⟨_, rfl, v, d, rfl, hd, fun H1 s1 => ⟨_, rfl, ?_⟩⟩
    refine ite2 (fun c => ?_) (fun c => ?_)
    · obtain ⟨a, b, xs, ds, rfl, hs, ha, ed⟩ := dp_seq hd c
      have l := dpa_len ha
      have e : seqLen d = some xs.length := by rw [ed, l]; cases b <;> rfl
      refine ⟨_, rfl, a, xs, rfl, (hs.mono s1).any, _, rfl, rfl, ?_⟩
      have q := k H1 s1
      rw [e] at q
      have e2 : decide (V.int (xs.length : Int) = V.int (n : Int)) = decide (some xs.length = some n) := by
        by_cases z : xs.length = n
        · rw [z, decide_eq_true rfl, decide_eq_true rfl]
        · rw [decide_eq_false (fun u => z (by have := V.int.inj u; omega)), decide_eq_false (fun u => z (Option.some.inj u))]
      rw [e2]
      exact q
    · have q := k H1 s1
      have e : seqLen d = none := by cases d <;> first | rfl | exact absurd rfl c
      rw [e, decide_eq_false (fun z => nomatch z)] at q
      exact q
end
end Mk

set_option Elab.async false
set_option linter.unusedVariables false
set_option maxRecDepth 100000
set_option maxHeartbeats 8000000
namespace Mk
open PySem L2 Pk
/-- two promises of a def make one -/
theorem FnOk_or {P : Program} {w : World} {K : PySem.W.Frag} {mg : PySem.Str → Option Value} {base : Heap} {CX : CXT} {k : Nat} {f : Addr} {fd : FuncData} {ps : List PySem.Str} {sp1 sp2 sp : Sp} (a : FnOk P w K mg base CX k f fd ps sp1) (b : FnOk P w K mg base CX k f fd ps sp2)
    (h : ∀ vs H Q E, sp vs H Q E → sp1 vs H Q E ∨ sp2 vs H Q E) : FnOk P w K mg base CX k f fd ps sp where
  len := fun vs H Q E z => (h vs H Q E z).elim (a.len vs H Q E) (b.len vs H Q E)
  run := fun A outer s H args us vs Q E h1 h2 h3 h4 z => (h vs H Q E z).elim (a.run A outer s H args us vs Q E h1 h2 h3 h4) (b.run A outer s H args us vs Q E h1 h2 h3 h4)
def Short (m : Nat) (d : PyData) : Prop := ∀ x, d = .str x → x.length ≤ m
def letD (m : Int) : PyData → Bool
  | .str x => decide ((x.length : Int) ≤ m) && lowB x
  | _ => false
def symD : PyData → Bool
  | .str x => symB x
  | _ => false
def nilD : PyData → Bool
  | .str x => decide (x = nil0)
  | _ => false
def signB (l x : PySem.Str) : Bool := match x.cps.toList with
  | [c] => decide (c ∈ ([60, 62] : List Nat)) || decide (c ∈ l.cps.toList)
  | _ => false
def signD (l : PySem.Str) : PyData → Bool
  | .str x => signB l x
  | _ => false
def moveB (s : PySem.Str) (n : Int) : Bool := !((decide (s = lt0) && decide (n = -1)) || (decide (s = gt0) && decide (n = 1)))
def moveD (s : PySem.Str) : PyData → Bool
  | .int n => (decide (-1 ≤ n) && decide (n ≤ 1)) && moveB s n
  | _ => false
theorem not_str {d : PyData} (e : isStrT d = false) : letD 0 d = false ∧ symD d = false ∧ nilD d = false := by
  cases d <;> first | exact ⟨rfl, rfl, rfl⟩ | cases e
section
variable {P : Program} {w : World} {K : PySem.W.Frag} {mg : PySem.Str → Option Value} {base : Heap}
/-! are_letters -/
def spLettersN (K : PySem.W.Frag) : Sp := fun vs H Q _ => ∃ (v : V) (d : PyData) (m : Int), vs = [v, .int m] ∧ Dp K H v d ∧ isStrT d = false ∧ Q (.bl false) H
theorem okN_letters {f : Addr} {fd : FuncData} (F : Fun K "are_letters" "are_letters" sLetters f fd) (T : TM mg) : FnOk P w K mg base CX0 1 f fd ["value", "most"] (spLettersN K) := by
  refine F.ok scLetters (fun vs H Q E h => ?_) (fun cdv A outer s H vs Q E hr h => ?_)
  · obtain ⟨v, d, m, rfl, _⟩ := h
    rfl
  · obtain ⟨v, d, m, rfl, hd, e, k⟩ := h
    refine ⟨_, pss_cons (ps_if (PW.pt (pw_or (pt_not (pt_val (pe_callB call_isi (by rfl) T.isi (by decide +kernel) (pa_cons (pv 0) (pa_cons (pe_bltn (v := .ty "str") (by rfl) T.str PyProof.Rows.Boot.str rfl) pa_nil)))))
        (pw_or1 (pt_cmpR op_gt (pe_callB call_len_str (by rfl) T.len PySem.boot_len (pa_cons (pv 0) pa_nil)) (pv 1) (nomark _))))) (pss_one (ps_ret pe_bl)) pss_nil)
      (pss_one (ps_ret (pe_callB (cr_all rfl) (by rfl) T.all (by decide +kernel) (pa_cons (pe_lc (own := [("letter", 2)]) (g := gName 2) (tt := tYes) (by rfl) scLetters.nd (pi_str (pv 0))
        (blkOk_by (own := [("letter", 2)]) (N := ["value", "most", "letter"]) (sc := defScope sLetters) (by decide +kernel))
        (fun _ _ _ _ _ => pg_name (i := 2) scLetters.nd rfl (Or.inl rfl)) (fun _ _ _ _ _ => pts_nil) (fun _ _ _ _ _ => pe_chain op_le_str op_le_str pe_str (pv 2) pe_str)) pa_nil)))), ?_⟩
    exact ⟨_, rfl, _, _, _, _, false, rfl, .ty _, dp_tyx hd, by rw [kit_str, e], _, rfl, iteT k⟩
def spLettersD (K : PySem.W.Frag) : Sp := fun vs H Q _ => ∃ (v : V) (d : PyData) (m : Int), vs = [v, .int m] ∧ Dp K H v d ∧ Short 1000 d ∧ ∀ H', Same H H' → Q (.bl (letD m d)) H'
theorem okD_letters {f : Addr} {fd : FuncData} (F : Fun K "are_letters" "are_letters" sLetters f fd) (T : TM mg) : FnOk P w K mg base CX0 1 f fd ["value", "most"] (spLettersD K) := by
  refine FnOk_or (ok_letters F T) (okN_letters F T) fun vs H Q E ⟨v, d, m, e, hd, sh, k⟩ => ?_
  cases h : isStrT d with
  | true =>
    obtain ⟨x, rfl, rfl⟩ := dp_str hd h
    exact .inl ⟨x, m, e, sh x rfl, k⟩
  | false =>
    refine .inr ⟨v, d, m, e, hd, h, ?_⟩
    have z := k H (Same.refl _)
    have e2 : letD m d = false := by cases d <;> first | rfl | cases h
    rw [e2] at z
    exact z
/-! is_symbol -/
def spSymbolN (K : PySem.W.Frag) : Sp := fun vs H Q _ => ∃ (v : V) (d : PyData), vs = [v] ∧ Dp K H v d ∧ isStrT d = false ∧ Q (.bl false) H
theorem okN_symbol {f : Addr} {fd : FuncData} (F : Fun K "is_symbol" "is_symbol" sSymbol f fd) (T : TM mg) (G : Got P w K mg base "is_symbol_mark" 1 ["mark"] spMark) : FnOk P w K mg base CX0 2 f fd ["value"] (spSymbolN K) := by
  refine F.ok scSymbol (fun vs H Q E h => ?_) (fun cdv A outer s H vs Q E hr h => ?_)
  · obtain ⟨v, d, rfl, _⟩ := h
    rfl
  · obtain ⟨v, d, rfl, hd, e, k⟩ := h
    refine ⟨_, pss_cons (ps_if (PW.pt (pw_or (pt_not (pt_val (pe_callB call_isi (by rfl) T.isi (by decide +kernel) (pa_cons (pv 0) (pa_cons (pe_bltn (v := .ty "str") (by rfl) T.str PyProof.Rows.Boot.str rfl) pa_nil)))))
        (pw_or1 (pt_not (pt_chain op_le op_le pe_int (pe_callB call_len_str (by rfl) T.len PySem.boot_len (pa_cons (pv 0) pa_nil)) pe_int))))) (pss_one (ps_ret pe_bl)) pss_nil)
      (pss_one (ps_ret (pe_callB (cr_all rfl) (by rfl) T.all (by decide +kernel) (pa_cons (pe_lc (own := [("mark", 1)]) (g := gName 1) (tt := tYes) (by rfl) scSymbol.nd (pi_str (pv 0))
        (blkOk_by (own := [("mark", 1)]) (N := ["value", "mark"]) (sc := defScope sSymbol) (by decide +kernel))
        (fun _ _ _ _ _ => pg_name (i := 1) scSymbol.nd rfl (Or.inl rfl)) (fun _ _ _ _ _ => pts_nil) (fun _ _ _ _ _ => pe_got G hr (by rfl) (pa_cons (pv 1) pa_nil))) pa_nil)))), ?_⟩
    exact ⟨_, rfl, _, _, _, _, false, rfl, .ty _, dp_tyx hd, by rw [kit_str, e], _, rfl, iteT k⟩
def spSymbolD (K : PySem.W.Frag) : Sp := fun vs H Q _ => ∃ (v : V) (d : PyData), vs = [v] ∧ Dp K H v d ∧ Short 1000 d ∧ ∀ H', Same H H' → Q (.bl (symD d)) H'
theorem okD_symbol {f : Addr} {fd : FuncData} (F : Fun K "is_symbol" "is_symbol" sSymbol f fd) (T : TM mg) (G : Got P w K mg base "is_symbol_mark" 1 ["mark"] spMark) : FnOk P w K mg base CX0 2 f fd ["value"] (spSymbolD K) := by
  refine FnOk_or (ok_symbol F T G) (okN_symbol F T G) fun vs H Q E ⟨v, d, e, hd, sh, k⟩ => ?_
  cases h : isStrT d with
  | true =>
    obtain ⟨x, rfl, rfl⟩ := dp_str hd h
    exact .inl ⟨x, e, sh x rfl, k⟩
  | false =>
    refine .inr ⟨v, d, e, hd, h, ?_⟩
    have z := k H (Same.refl _)
    rw [(not_str h).2.1] at z
    exact z
/-! is_top -/
def topD (d : PyData) : Bool := symD d || nilD d
def spTopD (K : PySem.W.Frag) : Sp := fun vs H Q _ => ∃ (v : V) (d : PyData), vs = [v] ∧ Dp K H v d ∧ Short 1000 d ∧ ∀ H', Same H H' → Q (.bl (topD d)) H'
theorem okD_top {f : Addr} {fd : FuncData} (F : Fun K "is_top" "is_top" sTop f fd) (T : TM mg) (G : Got P w K mg base "is_symbol" 2 ["value"] (spSymbolD K)) : FnOk P w K mg base CX0 3 f fd ["value"] (spTopD K) := by
  refine F.ok scTop (fun vs H Q E h => ?_) (fun cdv A outer s H vs Q E hr h => ?_)
  · obtain ⟨v, d, rfl, _⟩ := h
    rfl
  · obtain ⟨v, d, rfl, hd, sh, k⟩ := h
    refine ⟨_, pss_one (ps_ret (pe_or (pe_got G hr (by rfl) (pa_cons (pv 0) pa_nil)) (pe_one (pe_and (pe_callB call_isi (by rfl) T.isi (by decide +kernel) (pa_cons (pv 0) (pa_cons (pe_bltn (v := .ty "str") (by rfl) T.str PyProof.Rows.Boot.str rfl) pa_nil)))
      (pe_one (pe_cmpR op_eq (pv 0) pe_str (nomark _))))))), ?_⟩
    refine ⟨_, rfl, v, d, rfl, hd, sh, fun H1 s1 => ⟨_, rfl, ?_⟩⟩
    have q := k H1 s1
    unfold topD at q
    refine ite2 (fun c => ?_) fun c => ?_
    · rw [c] at q
      exact q
    · rw [Bool.eq_false_iff.mpr c, Bool.false_or] at q
      refine ⟨_, rfl, _, _, _, _, isStrT d, rfl, .ty _, dp_tyx (dp_mono s1 _ _ hd), kit_str d, _, rfl, ite2 (fun c2 => ?_) fun c2 => ?_⟩
      · obtain ⟨x, rfl, rfl⟩ := dp_str hd c2
        refine ⟨_, rfl, rfl, ?_⟩
        rw [dec_str]
        exact q
      · rw [(not_str (Bool.eq_false_iff.mpr c2)).2.2] at q
        exact q
/-! is_sign -/
def spSignD (K : PySem.W.Frag) : Sp := fun vs H Q _ => ∃ (l : PySem.Str) (v : V) (d : PyData), vs = [.str l, v] ∧ Dp K H v d ∧ Short 1000 d ∧ Q (.bl (signD l d)) H
theorem okD_sign {f : Addr} {fd : FuncData} (F : Fun K "is_sign" "is_sign" sSign f fd) (T : TM mg) : FnOk P w K mg base CX0 1 f fd ["letters", "value"] (spSignD K) := by
  refine F.ok scSign (fun vs H Q E h => ?_) (fun cdv A outer s H vs Q E hr h => ?_)
  · obtain ⟨l, v, d, rfl, _⟩ := h
    rfl
  · obtain ⟨l, v, d, rfl, hd, sh, k⟩ := h
    refine ⟨_, pss_one (ps_ret (pe_and (pe_callB call_isi (by rfl) T.isi (by decide +kernel) (pa_cons (pv 1) (pa_cons (pe_bltn (v := .ty "str") (by rfl) T.str PyProof.Rows.Boot.str rfl) pa_nil)))
      (pe_and (pe_cmpR op_eq (pe_callB call_len_str (by rfl) T.len PySem.boot_len (pa_cons (pv 1) pa_nil)) pe_int (nomark _))
      (pe_one (pe_or (pe_cmpR op_in_sign (pv 1) pe_str rfl) (pe_one (pe_cmpR op_in_sign (pv 1) (pv 0) rfl))))))), ?_⟩
    refine ⟨_, rfl, _, _, _, _, isStrT d, rfl, .ty _, dp_tyx hd, kit_str d, _, rfl, ite2 (fun cS => ?_) fun cS => ?_⟩
    rotate_left
    · have e : signD l d = false := by cases d <;> first | rfl | exact absurd rfl cS
      rw [e] at k
      exact k
    obtain ⟨x, rfl, rfl⟩ := dp_str hd cS
    have lx := sh x rfl
    refine ⟨_, rfl, x, rfl, Nat.le_trans lx (by decide), rfl, _, rfl, ite2 (fun c2 => ?_) fun c2 => ?_⟩
    · have l1 : x.length = 1 := by
        have := V.int.inj (of_decide_eq_true c2)
        omega
      obtain ⟨c, hx⟩ : ∃ c, x.cps.toList = [c] := by
        have z : x.cps.toList.length = 1 := by rw [Array.length_toList]; exact l1
        cases h : x.cps.toList with
        | nil => rw [h] at z; cases z
        | cons c r =>
          rw [h] at z
          cases r with
          | nil => exact ⟨c, rfl⟩
          | cons d r => cases z
      have ex : x = ⟨#[c]⟩ := by
        cases x with
        | mk cps =>
          have : cps = #[c] := by
            apply Array.toList_inj.mp
            exact hx
          rw [this]
      have k' : Q (.bl (decide (c ∈ ([60, 62] : List Nat)) || decide (c ∈ l.cps.toList))) H := by
        have z : signD l (.str x) = (decide (c ∈ ([60, 62] : List Nat)) || decide (c ∈ l.cps.toList)) := by
          show signB l x = _
          unfold signB
          rw [hx]
        rw [← z]
        exact k
      subst ex
      clear cS
      refine or_bool (a := decide (c ∈ (PySem.Str.ofString "<>").cps.toList)) (fun Q' q => ⟨_, rfl, c, _, rfl, rfl, q⟩) (fun e => ?_) fun e => ?_
      · refine ⟨_, rfl, _, rfl, c, l, rfl, rfl, ?_⟩
        have e' : decide (c ∈ ([60, 62] : List Nat)) = false := e
        rw [e', Bool.false_or] at k'
        exact k'
      · have e' : decide (c ∈ ([60, 62] : List Nat)) = true := e
        rw [e', Bool.true_or] at k'
        exact k'
    · have z : signD l (.str x) = false := by
        show signB l x = false
        unfold signB
        split
        · rename_i c hx
          refine absurd (decide_eq_true ?_) c2
          have : x.length = 1 := by
            have z := congrArg List.length hx
            rw [Array.length_toList] at z
            exact z
          rw [this]
          rfl
        · rfl
      rw [z] at k
      exact k
/-! is_move -/
def spMoveD (K : PySem.W.Frag) : Sp := fun vs H Q _ => ∃ (s : PySem.Str) (v : V) (d : PyData), vs = [.str s, v] ∧ Dp K H v d ∧ Q (.bl (moveD s d)) H
theorem okD_move {f : Addr} {fd : FuncData} (F : Fun K "is_move" "is_move" sMove f fd) (G : Got P w K mg base "is_between" 2 ["value", "least", "most"] (spBetweenD K)) : FnOk P w K mg base CX0 3 f fd ["sign", "value"] (spMoveD K) := by
  refine F.ok scMove (fun vs H Q E h => ?_) (fun cdv A outer s H vs Q E hr h => ?_)
  · obtain ⟨x, v, d, rfl, _⟩ := h
    rfl
  · obtain ⟨x, v, d, rfl, hd, k⟩ := h
    refine ⟨_, pss_cons (ps_if (pt_not (pt_val (pe_got G hr (by rfl) (pa_cons (pv 1) (pa_cons (pe_un un_neg pe_int) (pa_cons pe_int pa_nil)))))) (pss_one (ps_ret pe_bl)) pss_nil)
      (pss_one (ps_ret (pe_not (pe_or (pe_and (pe_cmpR op_eq (pv 0) pe_str (nomark _)) (pe_one (pe_cmpR op_eq (pv 1) (pe_un un_neg pe_int) (nomark _))))
        (pe_one (pe_and (pe_cmpR op_eq (pv 0) pe_str (nomark _)) (pe_one (pe_cmpR op_eq (pv 1) pe_int (nomark _))))))))), ?_⟩
    refine ⟨_, rfl, _, rfl, v, d, -1, 1, rfl, hd, _, rfl, ?_⟩
    cases hb : btw (-1) 1 d with
    | false =>
      have e : moveD x d = false := by
        cases d <;> first | rfl | skip
        rename_i n
        have z : (decide (-1 ≤ n) && decide (n ≤ 1)) = false := hb
        show ((decide (-1 ≤ n) && decide (n ≤ 1)) && moveB x n) = false
        rw [z]; rfl
      rw [e] at k
      exact iteT k
    | true =>
      obtain ⟨n, rfl, rfl⟩ : ∃ n, v = .int n ∧ d = .int n := by
        cases hd with
        | int n => exact ⟨n, rfl, rfl⟩
        | _ => cases hb
      have z : (decide (-1 ≤ n) && decide (n ≤ 1)) = true := hb
      have k' : Q (.bl (moveB x n)) H := by
        have e : moveD x (.int n) = moveB x n := by
          show ((decide (-1 ≤ n) && decide (n ≤ 1)) && moveB x n) = _
          rw [z]; rfl
        rw [← e]; exact k
      refine iteF ?_
      dsimp only [tNext, tRet, tNotV]
      unfold moveB at k'
      refine or_bool (a := decide (x = lt0) && decide (n = -1)) (fun Q' q => ?_) (fun e => ?_) (fun e => ?_)
      · refine and_bool (a := decide (x = lt0)) (fun Q2 q2 => ⟨_, rfl, rfl, by rw [dec_str]; exact q2⟩) (fun e => ?_) (fun e => ?_)
        · refine ⟨_, rfl, _, rfl, rfl, ?_⟩
          rw [dec_intV]
          rw [e] at q
          exact q
        · rw [e] at q
          exact q
      · rw [e, Bool.false_or] at k'
        refine and_bool (a := decide (x = gt0)) (fun Q2 q2 => ⟨_, rfl, rfl, by rw [dec_str]; exact q2⟩) (fun e => ?_) (fun e => ?_)
        · refine ⟨_, rfl, rfl, ?_⟩
          rw [dec_intV]
          rw [e, Bool.true_and] at k'
          exact ⟨_, rfl, k'⟩
        · rw [e, Bool.false_and] at k'
          exact ⟨_, rfl, k'⟩
      · rw [e, Bool.true_or] at k'
        exact ⟨_, rfl, k'⟩
end
end Mk

set_option Elab.async false
set_option linter.unusedVariables false
set_option maxRecDepth 100000
set_option maxHeartbeats 16000000
namespace Mk
open PySem L2 Pk
theorem inV_strs (z : PySem.Str) (ys : List PySem.Str) : inV (.str z) (ys.map V.str) = decide (z ∈ ys) := by
  induction ys with
  | nil => rfl
  | cons y ys ih =>
    have e : inV (.str z) ((y :: ys).map V.str) = (eqV (.str y) (.str z) || inV (.str z) (ys.map V.str)) := rfl
    have e2 : eqV (.str y) (.str z) = (y == z) := rfl
    rw [e, ih, e2]
    by_cases c : y = z
    · rw [beq_iff_eq.mpr c, show decide (z ∈ y :: ys) = true from decide_eq_true (by rw [c]; exact List.mem_cons_self)]
      rfl
    · rw [beq_eq_false_iff_ne.mpr c, Bool.false_or]
      by_cases d : z ∈ ys
      · rw [decide_eq_true d, decide_eq_true (List.mem_cons_of_mem _ d)]
      · rw [decide_eq_false d, decide_eq_false (fun m => by
          rcases List.mem_cons.mp m with e | m
          · exact c e.symm
          · exact d m)]
/-- a right deed: top, deed, symbol -/
def deedD (t : PySem.Str) (x : PyData) (y : PyData) : Bool := match x with
  | .str d => decide (d ∈ [keep0, pop0, push0, swap0]) && (!(decide (t = nil0) && !decide (d ∈ [keep0, push0])) && (if decide (d ∈ [push0, swap0]) = true then symD y else nilD y))
  | _ => false
def items : PyData → Option (List PyData)
  | .list ds => some ds
  | .tuple ds => some ds
  | _ => none
def moveS (s x : PyData) : Bool := match s with
  | .str s => moveD s x
  | _ => false
def deedS (t x y : PyData) : Bool := match t with
  | .str t => deedD t x y
  | _ => false
def ruleD (l : PySem.Str) (n : Int) (d : PyData) : Bool := match items d with
  | some [a, b, c, e, f, g, h, i] => (btw 0 (n - 1) a && (signD l b && topD c)) && ((btw 0 (n - 1) e && moveS b f) && (deedS c g h && letD 3 i))
  | _ => false
section
variable {P : Program} {w : World} {K : PySem.W.Frag} {mg : PySem.Str → Option Value} {base : Heap}
/-! is_deed -/
def spDeedD (K : PySem.W.Frag) : Sp := fun vs H Q _ => ∃ (t : PySem.Str) (v1 v2 : V) (d1 d2 : PyData), vs = [.str t, v1, v2] ∧ Dp K H v1 d1 ∧ Dp K H v2 d2 ∧ Short 1000 d2 ∧ ∀ H', Same H H' → Q (.bl (deedD t d1 d2)) H'
theorem okD_deed {f : Addr} {fd : FuncData} (F : Fun K "is_deed" "is_deed" sDeed f fd) (T : TM mg) (D : Deeds K mg) (G : Got P w K mg base "is_symbol" 2 ["value"] (spSymbolD K)) : FnOk P w K mg base CX0 3 f fd ["top", "deed", "symbol"] (spDeedD K) := by
  refine F.ok scDeed (fun vs H Q E h => ?_) (fun cdv A outer s H vs Q E hr h => ?_)
  · obtain ⟨t, v1, v2, d1, d2, rfl, _⟩ := h
    rfl
  · obtain ⟨t, v1, v2, d1, d2, rfl, h1, h2, sh, k⟩ := h
    obtain ⟨aD, gD, hD⟩ := D
    refine ⟨_, pss_cons (ps_if (PW.pt (pw_or (pt_not (pt_val (pe_callB call_isi (by rfl) T.isi (by decide +kernel) (pa_cons (pv 1) (pa_cons (pe_bltn (v := .ty "str") (by rfl) T.str PyProof.Rows.Boot.str rfl) pa_nil)))))
        (pw_or1 (pt_cmpR op_notIn_seq (pv 1) (pe_glob (v := .ref aD) (by rfl) gD rfl) rfl)))) (pss_one (ps_ret pe_bl)) pss_nil)
      (C8.pss_cut (ps_if (PW.pt (pw_and (pt_cmpR op_eq (pv 0) pe_str (nomark _)) (pw_and1 (pt_cmpR op_notIn_seq (pv 1) (pe_tup (pa_cons pe_str (pa_cons pe_str pa_nil))) rfl)))) (pss_one (ps_ret pe_bl)) pss_nil)
      (pss_cons (ps_if (pt_cmpR op_in_seq (pv 1) (pe_tup (pa_cons pe_str (pa_cons pe_str pa_nil))) rfl) (pss_one (ps_ret (pe_got G hr (by rfl) (pa_cons (pv 2) pa_nil)))) pss_nil)
      (pss_one (ps_ret (pe_and (pe_callB call_isi (by rfl) T.isi (by decide +kernel) (pa_cons (pv 2) (pa_cons (pe_bltn (v := .ty "str") (by rfl) T.str PyProof.Rows.Boot.str rfl) pa_nil)))
        (pe_one (pe_cmpR op_eq (pv 2) pe_str (nomark _)))))))), ?_⟩
    refine ⟨_, rfl, _, _, _, _, isStrT d1, rfl, .ty _, dp_tyx h1, kit_str d1, _, rfl, ?_⟩
    cases hb : isStrT d1 with
    | false =>
      have e : deedD t d1 d2 = false := by cases d1 <;> first | rfl | cases hb
      rw [e] at k
      exact iteT (k H (Same.refl _))
    | true =>
    obtain ⟨d, rfl, rfl⟩ := dp_str h1 hb
    refine iteF ?_
    refine ⟨_, rfl, aD, _, rfl, .inr (hD H), rfl, rfl, _, rfl, ?_⟩
    have e4 : inV (.str d) [.str keep0, .str pop0, .str push0, .str swap0] = decide (d ∈ [keep0, pop0, push0, swap0]) := inV_strs d [keep0, pop0, push0, swap0]
    rw [e4]
    have kD : ∀ b, deedD t (.str d) d2 = b → ∀ H', Same H H' → Q (.bl b) H' := fun b e H' s => by rw [← e]; exact k H' s
    have unf : deedD t (.str d) d2 = (decide (d ∈ [keep0, pop0, push0, swap0]) && (!(decide (t = nil0) && !decide (d ∈ [keep0, push0])) && (if decide (d ∈ [push0, swap0]) = true then symD d2 else nilD d2))) := rfl
    cases c4 : decide (d ∈ [keep0, pop0, push0, swap0]) with
    | false => exact iteT (kD false (by rw [unf, c4]; rfl) H (Same.refl _))
    | true =>
    refine iteF ?_
    rw [c4, Bool.true_and] at unf
    have two : ∀ {a b : PySem.Str} {p : Addr} {H1 : Hp}, SqT K (upd H1 p (.tup [.str a, .str b])) p [.str a, .str b] := .inl (.inl upd_same)
    refine ⟨fun σ' H' => σ' = [some (.str t), some (.str d), some v2] ∧ Same H H' ∧ (decide (t = nil0) && !decide (d ∈ [keep0, push0])) = false, ?_, ?_⟩
    · refine ⟨_, rfl, rfl, _, rfl, ?_⟩
      rw [dec_str]
      refine ite2 (fun e => ?_) (fun e => ⟨rfl, Same.refl _, by rw [Bool.eq_false_iff.mpr e]; rfl⟩)
      refine ⟨_, rfl, by decide, fun p hp => ⟨p, _, rfl, .inr two, rfl, rfl, _, rfl, ?_⟩⟩
      have e2 : inV (.str d) [.str keep0, .str push0] = decide (d ∈ [keep0, push0]) := inV_strs d [keep0, push0]
      rw [e2]
      refine ite2 (fun c => ?_) (fun c => ⟨rfl, same_new hp, ?_⟩)
      · have c' : (!decide (d ∈ [keep0, push0])) = true := c
        exact kD false (by rw [unf, e, c']; rfl) _ (same_new hp)
      · have c' : (!decide (d ∈ [keep0, push0])) = false := Bool.eq_false_iff.mpr c
        rw [c', Bool.and_false]
    rintro _ H1 ⟨rfl, s1, e0⟩
    rw [e0, Bool.not_false, Bool.true_and] at unf
    refine ⟨_, rfl, by decide, fun p hp => ⟨p, _, rfl, .inr two, rfl, rfl, _, rfl, ?_⟩⟩
    have s2 := s1.trans (same_new (o := HO.tup [V.str push0, V.str swap0]) hp)
    have e2 : inV (.str d) [.str push0, .str swap0] = decide (d ∈ [push0, swap0]) := inV_strs d [push0, swap0]
    rw [e2]
    refine ite2 (fun c => ?_) (fun c => ?_)
    · have c' : decide (d ∈ [push0, swap0]) = true := c
      rw [c', if_pos rfl] at unf
      exact ⟨_, rfl, v2, d2, rfl, dp_mono s2 _ _ h2, sh, fun H2 s3 => kD _ unf H2 (s2.trans s3)⟩
    · have c' : decide (d ∈ [push0, swap0]) = false := Bool.eq_false_iff.mpr c
      rw [c', if_neg Bool.false_ne_true] at unf
      refine ⟨_, rfl, _, _, _, _, isStrT d2, rfl, .ty _, dp_tyx (dp_mono s2 _ _ h2), kit_str d2, _, rfl, ite2 (fun c2 => ?_) fun c2 => ?_⟩
      · obtain ⟨x, rfl, rfl⟩ := dp_str h2 c2
        refine ⟨_, rfl, rfl, ?_⟩
        rw [dec_str]
        exact kD _ unf _ s2
      · exact kD false (by rw [unf]; exact (not_str (Bool.eq_false_iff.mpr c2)).2.2) _ s2
/-! is_rule -/
structure RuleDefsD (P : Program) (w : World) (K : PySem.W.Frag) (mg : PySem.Str → Option Value) (base : Heap) : Prop where
  row : Got P w K mg base "is_row" 2 ["value", "length"] (spRowD K)
  state : Got P w K mg base "is_state" 3 ["states", "value"] (spStateD K)
  sign : Got P w K mg base "is_sign" 1 ["letters", "value"] (spSignD K)
  top : Got P w K mg base "is_top" 3 ["value"] (spTopD K)
  move : Got P w K mg base "is_move" 3 ["sign", "value"] (spMoveD K)
  deed : Got P w K mg base "is_deed" 3 ["top", "deed", "symbol"] (spDeedD K)
  letters : Got P w K mg base "are_letters" 1 ["value", "most"] (spLettersD K)
def ShortAll (d : PyData) : Prop := ∀ ds, items d = some ds → ∀ x ∈ ds, Short 1000 x
def spRuleD (K : PySem.W.Frag) : Sp := fun vs H Q _ => ∃ (l : PySem.Str) (n : Int) (v : V) (d : PyData), vs = [.str l, .int n, v] ∧ Dp K H v d ∧ ShortAll d ∧ ∀ H', Same H H' → Q (.bl (ruleD l n d)) H'
theorem okD_rule {f : Addr} {fd : FuncData} (F : Fun K "is_rule" "is_rule" sRule f fd) (G : RuleDefsD P w K mg base) : FnOk P w K mg base CX0 4 f fd ["letters", "states", "value"] (spRuleD K) := by
  refine F.ok scRule (fun vs H Q E h => ?_) (fun cdv A outer s H vs Q E hr h => ?_)
  · obtain ⟨l, n, v, d, rfl, _⟩ := h
    rfl
  · obtain ⟨l, n, v, d, rfl, hd, sh, k⟩ := h
    have h2 := hr.mono (show 2 ≤ 3 by decide)
    have h1 := hr.mono (show 1 ≤ 3 by decide)
    obtain ⟨b, hb⟩ : ∃ b : Bool, isSeqT d = true → ∃ (a : Addr) (xs : List V) (ds : List PyData), v = .ref a ∧ SqB b K H a xs ∧ DpAll K H xs ds ∧ items d = some ds := by
      cases c : isSeqT d with
      | false => exact ⟨true, fun z => by cases z⟩
      | true =>
        obtain ⟨a, b, xs, ds, e1, e2, e3, e4⟩ := dp_seq hd c
        exact ⟨b, fun _ => ⟨a, xs, ds, e1, e2, e3, by rw [e4]; cases b <;> rfl⟩⟩
    refine ⟨_, pss_cons (ps_if (pt_not (pt_val (pe_got G.row h2 (by rfl) (pa_cons (pv 2) (pa_cons pe_int pa_nil))))) (pss_one (ps_ret pe_bl)) pss_nil)
      (pss_cons (ps_asg (pv 2) (pg_sq b (by rfl) (pgs_cons (pg_name (i := 3) scRule.nd rfl (Or.inl rfl)) (pgs_cons (pg_name (i := 4) scRule.nd rfl (Or.inl rfl)) (pgs_cons (pg_name (i := 5) scRule.nd rfl (Or.inl rfl))
        (pgs_cons (pg_name (i := 6) scRule.nd rfl (Or.inl rfl)) (pgs_cons (pg_name (i := 7) scRule.nd rfl (Or.inl rfl)) (pgs_cons (pg_name (i := 8) scRule.nd rfl (Or.inl rfl)) (pgs_cons (pg_name (i := 9) scRule.nd rfl (Or.inl rfl)) (pgs_cons (pg_name (i := 10) scRule.nd rfl (Or.inl rfl)) pgs_nil))))))))))
      (C8.pss_cut (ps_if (pt_not (PW.pt (pw_and (pt_val (pe_got G.state hr (by rfl) (pa_cons (pv 1) (pa_cons (pv 3) pa_nil)))) (pw_and (pt_val (pe_got G.sign h1 (by rfl) (pa_cons (pv 0) (pa_cons (pv 4) pa_nil)))) (pw_and1 (pt_val (pe_got G.top hr (by rfl) (pa_cons (pv 5) pa_nil))))))) ) (pss_one (ps_ret pe_bl)) pss_nil)
      (C8.pss_cut (ps_if (pt_not (PW.pt (pw_and (pt_val (pe_got G.state hr (by rfl) (pa_cons (pv 1) (pa_cons (pv 6) pa_nil)))) (pw_and1 (pt_val (pe_got G.move hr (by rfl) (pa_cons (pv 4) (pa_cons (pv 7) pa_nil))))))) ) (pss_one (ps_ret pe_bl)) pss_nil)
      (pss_one (ps_ret (pe_and (pe_got G.deed hr (by rfl) (pa_cons (pv 5) (pa_cons (pv 8) (pa_cons (pv 9) pa_nil)))) (pe_one (pe_got G.letters h1 (by rfl) (pa_cons (pv 10) (pa_cons pe_int pa_nil)))))))))), ?_⟩
    refine ⟨_, rfl, v, d, 8, rfl, hd, fun H1 s1 => ⟨_, rfl, ?_⟩⟩
    have isl : ∀ ds, items d = some ds → seqLen d = some ds.length := fun ds e => by
      cases d <;> first | (injection e with e; rw [← e]; rfl) | cases e
    cases c8 : decide (seqLen d = some 8) with
    | false =>
      have e : ruleD l n d = false := by
        unfold ruleD
        split
        · rename_i hi
          rw [isl _ hi] at c8
          cases c8
        · rfl
      rw [e] at k
      exact iteT (k H1 s1)
    | true =>
    refine iteF ?_
    have l8 := of_decide_eq_true c8
    have sq : isSeqT d = true := by cases d <;> first | rfl | cases l8
    obtain ⟨a, xs, ds, rfl, hs, ha, hi⟩ := hb sq
    have ld := isl ds hi
    rw [l8] at ld
    have lds : ds.length = 8 := (Option.some.inj ld).symm
    have shd := sh ds hi
    have k2 : ∀ b', ruleD l n d = b' → ∀ H', Same H H' → Q (.bl b') H' := fun b' e H' s => by rw [← e]; exact k H' s
    unfold ruleD at k2
    rw [hi] at k2
    clear k
    match ds, lds, ha, hi, shd, k2 with
    | [d0, d1, d2, d3, d4, d5, d6, d7], _, ha, hi, shd, k2 =>
    cases ha with
    | cons g0 ha =>
    cases ha with
    | cons g1 ha =>
    cases ha with
    | cons g2 ha =>
    cases ha with
    | cons g3 ha =>
    cases ha with
    | cons g4 ha =>
    cases ha with
    | cons g5 ha =>
    cases ha with
    | cons g6 ha =>
    cases ha with
    | cons g7 ha =>
    cases ha
    rename_i v0 v1 v2 v3 v4 v5 v6 v7
    refine ⟨_, rfl, gsq_of ⟨a, [v0, v1, v2, v3, v4, v5, v6, v7], rfl, hs.mono s1, rfl, _, _, rfl, _, _, rfl, _, _, rfl, _, _, rfl, _, _, rfl, _, _, rfl, _, _, rfl, _, _, rfl, rfl, ?_⟩⟩
    have K2 : ∀ b', ((btw 0 (n - 1) d0 && (signD l d1 && topD d2)) && ((btw 0 (n - 1) d3 && moveS d1 d4) && (deedS d2 d5 d6 && letD 3 d7))) = b' → ∀ H', Same H H' → Q (.bl b') H' := k2
    clear k2
    have sh' : ∀ x ∈ [d0, d1, d2, d3, d4, d5, d6, d7], Short 1000 x := shd
    have p0 : Short 1000 d0 := sh' _ (by simp)
    have p1 : Short 1000 d1 := sh' _ (by simp)
    have p2 : Short 1000 d2 := sh' _ (by simp)
    have p6 : Short 1000 d6 := sh' _ (by simp)
    have p7 : Short 1000 d7 := sh' _ (by simp)
    refine ⟨fun σ' H' => σ' = [some (.str l), some (.int n), some (.ref a), some v0, some v1, some v2, some v3, some v4, some v5, some v6, some v7] ∧ Same H H' ∧ (btw 0 (n - 1) d0 && (signD l d1 && topD d2)) = true, ?_, ?_⟩
    · refine ⟨_, rfl, _, rfl, n, v0, d0, rfl, dp_mono s1 _ _ g0, _, rfl, ite2 (fun c0 => ?_) (fun c0 => ?_)⟩
      rotate_left
      · exact iteT (K2 false (by rw [Bool.eq_false_iff.mpr c0]; rfl) _ s1)
      refine ⟨_, rfl, _, rfl, l, v1, d1, rfl, dp_mono s1 _ _ g1, p1, _, rfl, ite2 (fun c1 => ?_) (fun c1 => ?_)⟩
      rotate_left
      · exact iteT (K2 false (by rw [Bool.eq_false_iff.mpr c1, Bool.false_and, Bool.and_false]; rfl) _ s1)
      refine ⟨_, rfl, v2, d2, rfl, dp_mono s1 _ _ g2, p2, fun H2 s2 => ⟨_, rfl, ?_⟩⟩
      cases ct : topD d2 with
      | false => exact iteT (K2 false (by rw [ct, Bool.and_false, Bool.and_false]; rfl) _ (s1.trans s2))
      | true => exact iteF ⟨rfl, s1.trans s2, by rw [c0, c1]; rfl⟩
    rintro _ H3 ⟨rfl, s3, e1⟩
    rw [e1, Bool.true_and] at K2
    have e1' := e1
    rw [Bool.and_eq_true, Bool.and_eq_true] at e1'
    obtain ⟨x1, rfl, rfl⟩ : ∃ x, v1 = .str x ∧ d1 = .str x := by
      cases g1 with
      | str x => exact ⟨x, rfl, rfl⟩
      | _ => cases e1'.2.1
    obtain ⟨x2, rfl, rfl⟩ : ∃ x, v2 = .str x ∧ d2 = .str x := by
      cases g2 with
      | str x => exact ⟨x, rfl, rfl⟩
      | _ => cases e1'.2.2
    refine ⟨fun σ' H' => σ' = [some (.str l), some (.int n), some (.ref a), some v0, some (.str x1), some (.str x2), some v3, some v4, some v5, some v6, some v7] ∧ Same H H' ∧ (btw 0 (n - 1) d3 && moveS (.str x1) d4) = true, ?_, ?_⟩
    · refine ⟨_, rfl, _, rfl, n, v3, d3, rfl, dp_mono s3 _ _ g3, _, rfl, ite2 (fun c0 => ?_) (fun c0 => ?_)⟩
      rotate_left
      · exact iteT (K2 false (by rw [Bool.eq_false_iff.mpr c0]; rfl) _ s3)
      refine ⟨_, rfl, _, rfl, x1, v4, d4, rfl, dp_mono s3 _ _ g4, _, rfl, ?_⟩
      cases cm : moveD x1 d4 with
      | false => exact iteT (K2 false (by rw [show moveS (.str x1) d4 = false from cm, Bool.and_false]; rfl) _ s3)
      | true => exact iteF ⟨rfl, s3, by rw [c0, show moveS (.str x1) d4 = true from cm]; rfl⟩
    rintro _ H4 ⟨rfl, s4, e2⟩
    rw [e2, Bool.true_and] at K2
    refine ⟨_, rfl, _, rfl, _, rfl, x2, v5, v6, d5, d6, rfl, dp_mono s4 _ _ g5, dp_mono s4 _ _ g6, p6, fun H5 s5 => ⟨_, rfl, ?_⟩⟩
    have s45 := s4.trans s5
    refine ite2 (fun c => ?_) (fun c => ?_)
    · have c' : deedS (.str x2) d5 d6 = true := c
      rw [c', Bool.true_and] at K2
      exact ⟨_, rfl, v7, d7, 3, rfl, dp_mono s45 _ _ g7, p7, fun H6 s6 => K2 _ rfl H6 (s45.trans s6)⟩
    · have c' : deedS (.str x2) d5 d6 = false := Bool.eq_false_iff.mpr c
      exact K2 false (by rw [c']; rfl) _ s45
end
end Mk

set_option Elab.async false
set_option maxRecDepth 100000
set_option maxHeartbeats 4000000
/-! raising an own error, for any law (from law_k25) -/
namespace Pk
open PySem L2
section
variable {P : Program} {w : World} {K : PySem.W.Frag} {mg : Str → Option Value} {base : Heap}
/-! an own error made where nothing is handled: its context is None -/
theorem pmkN_own {X : Cx} {CX : CXT} {x : Str} {e : Expr} {es : List Expr} {ta : TA} {p pos : Pos} {C fI : Addr} {k : Nat} {fd : FuncData} {ps : List Str} {sp : Sp}
    (T : OexC X.K C)
    (iC : PySem.W.findIn X.K (.ref C) "__init__" = some (some (.ref fI)))
    (tI : PySem.W.typeIn X.K (.ref fI) = some (.type "function"))
    (F1 : FnOk X.prog X.w X.K X.mg X.base CX k fI fd ps sp) (hr : Room (k + 1) X.A)
    (hb : Binds X.K fd ps []) (hx : Passes CX X (fun _ _ _ => False))
    (hg : Gl X x) (hm : X.mg x = some (.ref C)) (ha : PA X (e :: es) ta) (hdb : (x == ("__debug__" : Str)) = false := by decide)
    (he : starEach (e :: es) X.env = (false, eval e X.env) :: starEach es X.env := by rfl)
    (hpl : (backTo pos (starEach es X.env)).any (·.1) = false := by rfl) :
    L2N.PMk X (.Call (.Name x p) (e :: es) [] pos) (tMkO C sp [] ta) := fun pins s σ H Q I h => by
  obtain ⟨nm, q, N, bs, bm, sn, sub, ab, col, dd, k0, k1, k2, k3, k5, cC, mC⟩ := T.cls
  apply wpAny_Call_Name_kw
  refine ld_glob I hg hm ?_ hdb
  have args := ha.run pos pins s σ H _ I h
  apply PySem.W.callWith_K (h₀ := X.base) I.ok.mod.kin T.kC ?_ he hpl
  refine thn args ?_
  rintro us ⟨hp, g, dr, tk, os⟩ ⟨vs, H1, I1, r1, hz, q1⟩
  refine ⟨I1.kIn, ?_⟩
  have grown := Nat.le_succ hp.objs.size
  have n1 : H1 (hp.objs.size + 1) = none := I1.hok.fresh grown
  have q2 := q1 _ n1
  rw [List.append_nil] at q2
  have kept : ∀ b o, hp.get? b = some o → ((hp.push (PySem.W.kdv_tup us)).push (PySem.HandSPX.excO C hp.objs.size)).get? b = some o := by
    intro b o z
    exact Heap.get?_push_of_some _ (Heap.get?_push_of_some _ z)
  have laid : ((hp.push (PySem.W.kdv_tup us)).push (PySem.HandSPX.excO C hp.objs.size)).get? (hp.objs.size + 1) = some (PySem.HandSPX.excO C hp.objs.size) := by
    heap_get
  have I2 := I1.laid (t' := tk) (a := hp.objs.size + 1) (o := exo (hp.objs.size + 1) C none) kept grown (exo_ok laid)
  have r2 : Vals (V.ref (hp.objs.size + 1) :: vs) (Value.ref (hp.objs.size + 1) :: us) := Paired.cons rfl r1
  have few : us.length ≤ sizeLine := by
    have l1 := Paired.length r1
    rw [sizeLine_eq]
    omega
  have lens : (Value.ref (hp.objs.size + 1) :: us ++ []).length = ps.length := by
    rw [List.append_nil, ← F1.len _ _ _ _ q2]
    exact r2.length.symm
  have bnd := hb _ (Value.ref (hp.objs.size + 1) :: us) I2.kIn lens
  rw [List.append_nil] at bnd
  have ran := F1.run _ X.stack _ _ ⟨Value.ref (hp.objs.size + 1) :: us, []⟩ (Value.ref (hp.objs.size + 1) :: us) _ _ (fun _ _ _ => False) (hr.make C us []) (I2.env0.make C us []) bnd r2 q2
  apply wpAny_call
  apply PySem.HandSPX.call_own PySem.F.excBase_ValueError (fun Y => PySem.HandSPX.refsVE_contains Y bm mC) (I1.kIn _ _ cC) (PySem.W.looks_findIn I1.kIn iC) (fun self => PySem.W.bind_fn I1.kIn self tI) few
  apply codeAny_mono ran
  intro r s2 hq
  match r, hq with
  | .error er, hq => exact hx pins σ _ _ er s2 I2 hq
  | .ok (.ret u), hq =>
    obtain ⟨v, H2, oq, bare, un, hok, rv, ev, d, fs, ea, ed, nd, q3⟩ := hq
    subst ev
    obtain ⟨h2, g2, d2, t2, os2⟩ := s2
    obtain ⟨t0, G, J, kG, ge, hoe, na⟩ := mk_end0 (d2 := d2) (t2 := t2) I1 grown kept un hok oq bare ea ed nd
    refine ⟨rv, hp.objs.size + 1, _, _, ⟨G, g2, d2, t2, os2⟩, _, .ref C, some d, rfl, J, kG, ge, hoe, ⟨rfl, rfl, ?_⟩, rfl, rfl, na, rfl, bare, raises_own T.exC T.tyC, q3⟩
    intro ws hws
    cases hws
    rfl
  | .ok .next, hq => exact hq.elim
  | .ok .brk, hq => exact hq.elim
  | .ok .cont, hq => exact hq.elim
/-- the rule for a def whose errors are of this kind -/
theorem fun_okN {x qual : Str} {st : Stmt} {f : Addr} {fd : FuncData} {N ps : List Str} {k : Nat} {sp : Sp} (F : Fun K x qual st f fd) (S : FnScope N ps (defScope st)) (len : ∀ vs H Q E, sp vs H Q E → vs.length = ps.length)
    (body : ∀ (cdv : Value) (A : Around) (outer : List Env) (s : Shared) (H : Hp) (vs : List V) (Q : VK) (E : XK), Room k (A.deeper (PyProof.Rows.envOfC qual (defScope st) s.heap.objs.size f cdv)) → sp vs H Q E →
      ∃ t, PSs (cxOf (L2N.CX P w) P w K mg base N qual (defScope st) f cdv A outer s H E) (defBody st) t ∧ t { nx := fun _ G => Q .non G, rt := Q } (L2.start N vs) H) :
    FnOk P w K mg base (L2N.CX P w) (k + 1) f fd ps sp := by
  obtain ⟨_, _, _, _, _, _, _, _, _, rfl, lk, cd⟩ := F.ex
  exact fn_of lk cd S len fun A outer s H vs Q E hr h => body _ A outer s H vs Q E hr h
theorem takesN0 {X : Cx} : L2N.Takes X (fun _ _ _ _ => False) := by
  rintro _ _ ⟨_, _, _, _, _, _, _, _, _, _, _, _, _, _, _, _, no⟩
  exact no.elim
end
end Pk

set_option Elab.async false
set_option linter.unusedVariables false
set_option maxRecDepth 100000
set_option maxHeartbeats 16000000
namespace Mk
open PySem L2 Pk
def upsB (x : PySem.Str) (j : Nat) : Bool := decide (x.cps.toList.getD j 0 < x.cps.toList.getD (j + 1) 0)
theorem up_of {x : PySem.Str} (h : ((List.range (x.length - 1)).map (upsB x)).all id = true) : ∀ (i c d : Nat), x.cps.toList[i]? = some c → x.cps.toList[i + 1]? = some d → c < d := by
  intro i c d e1 e2
  have l2 := (List.getElem?_eq_some_iff.mp e2).1
  rw [Array.length_toList] at l2
  have sz : x.cps.size = x.length := rfl
  rw [List.all_map] at h
  have z := List.all_eq_true.mp h i (List.mem_range.mpr (by omega))
  have y : upsB x i = true := z
  unfold upsB at y
  have y' := of_decide_eq_true y
  rw [List.getD_eq_getElem?_getD, List.getD_eq_getElem?_getD, e1, e2] at y'
  exact y'
theorem up_to {x : PySem.Str} (h : ∀ (i c d : Nat), x.cps.toList[i]? = some c → x.cps.toList[i + 1]? = some d → c < d) : ((List.range (x.length - 1)).map (upsB x)).all id = true := by
  rw [List.all_map]
  refine List.all_eq_true.mpr fun i m => ?_
  have li := List.mem_range.mp m
  have sz : x.cps.toList.length = x.length := Array.length_toList
  have e1 : x.cps.toList[i]? = some x.cps.toList[i] := List.getElem?_eq_getElem (by omega)
  have e2 : x.cps.toList[i + 1]? = some x.cps.toList[i + 1] := List.getElem?_eq_getElem (by omega)
  have y := h i _ _ e1 e2
  show upsB x i = true
  unfold upsB
  refine decide_eq_true ?_
  rw [List.getD_eq_getElem?_getD, List.getD_eq_getElem?_getD, e1, e2]
  exact y
section
variable {P : Program} {w : World} {K : PySem.W.Frag} {mg : PySem.Str → Option Value} {base : Heap}
/-! is_alphabet -/
def spAlphabetD (K : PySem.W.Frag) : Sp := fun vs H Q _ => ∃ (v : V) (d : PyData), vs = [v] ∧ Dp K H v d ∧ Short 1000 d ∧ ∀ (b : Bool) (H' : Hp), Same H H' → (b = true ↔ ∃ x, d = .str x ∧ Alpha x) → Q (.bl b) H'
theorem okD_alphabet {f : Addr} {fd : FuncData} (F : Fun K "is_alphabet" "is_alphabet" sAlphabet f fd) (T : TM mg) (G : Got P w K mg base "are_letters" 1 ["value", "most"] (spLettersD K)) : FnOk P w K mg base CX0 2 f fd ["value"] (spAlphabetD K) := by
  refine F.ok scAlphabet (fun vs H Q E h => ?_) (fun cdv A outer s H vs Q E hr h => ?_)
  · obtain ⟨v, d, rfl, _⟩ := h
    rfl
  · obtain ⟨v, d, rfl, hd, sh, k⟩ := h
    refine ⟨_, pss_cons (ps_if (PW.pt (pw_or (pt_not (pt_val (pe_got G hr (by rfl) (pa_cons (pv 0) (pa_cons pe_int pa_nil)))))
        (pw_or1 (pt_cmpR op_eq (pv 0) pe_str (nomark _))))) (pss_one (ps_ret pe_bl)) pss_nil)
      (pss_one (ps_ret (pe_callB (cr_all rfl) (by rfl) T.all (by decide +kernel) (pa_cons (pe_lc (own := [("at", 1)]) (g := gName 1) (tt := tYes) (by rfl) scAlphabet.nd
        (pi_range1 (by rfl) T.range (pa_cons (pe_op op_sub (pe_callB call_len_str (by rfl) T.len PySem.boot_len (pa_cons (pv 0) pa_nil)) pe_int) pa_nil))
        (blkOk_by (own := [("at", 1)]) (N := ["value", "at"]) (sc := defScope sAlphabet) (by decide +kernel))
        (fun _ _ _ _ _ => pg_name (i := 1) scAlphabet.nd rfl (Or.inl rfl)) (fun _ _ _ _ _ => pts_nil)
        (fun _ _ _ _ _ => pe_cmpR op_lt_str (pe_ix ix_str (pv 0) (pv 1) fun _ _ => rfl) (pe_ix ix_str (pv 0) (pe_op op_add (pv 1) pe_int) fun _ _ => rfl) (nomark _))) pa_nil)))), ?_⟩
    refine ⟨_, rfl, v, d, 26, rfl, hd, sh, fun H1 s1 => ⟨_, rfl, ?_⟩⟩
    cases hl : letD 26 d with
    | false =>
      refine iteT (k false H1 s1 ⟨(fun z => nomatch z), fun ⟨x, e, a⟩ => ?_⟩)
      rw [e] at hl
      have z : (decide ((x.length : Int) ≤ 26) && lowB x) = false := hl
      rw [a.low, decide_eq_true (by have := a.most; omega)] at z
      cases z
    | true =>
    obtain ⟨x, rfl, rfl⟩ : ∃ x, v = .str x ∧ d = .str x := by
      cases hd with
      | str x => exact ⟨x, rfl, rfl⟩
      | _ => cases hl
    have z : (decide ((x.length : Int) ≤ 26) && lowB x) = true := hl
    rw [Bool.and_eq_true, decide_eq_true_eq] at z
    obtain ⟨most, low⟩ := z
    refine iteF ?_
    refine ⟨_, rfl, rfl, _, rfl, ?_⟩
    rw [dec_str]
    refine ite2 (fun c => ?_) (fun c => ?_)
    · refine k false H1 s1 ⟨(fun z => nomatch z), fun ⟨y, e, a⟩ => ?_⟩
      have e' : x = y := by cases e; rfl
      have pos := a.pos
      rw [← e', of_decide_eq_true c] at pos
      exact absurd pos (by decide +kernel)
    have ne : x ≠ nil0 := fun e => c (decide_eq_true e)
    have pos : 1 ≤ x.length := by
      refine Nat.pos_of_ne_zero fun e => ne ?_
      have : x.cps.toList = [] := List.eq_nil_of_length_eq_zero (by rw [Array.length_toList]; exact e)
      cases x with
      | mk cps =>
        have e2 : cps = #[] := Array.toList_inj.mp this
        rw [e2]
        decide +kernel
    have sz : x.length ≤ sizeLine := Nat.le_trans (show x.length ≤ 26 by omega) (by decide)
    have sz2 : x.cps.size = x.length := rfl
    refine ⟨_, rfl, x, rfl, sz, _, _, rfl, rfl, _, rfl, by omega, by omega, fun D hD => lc_range (lo := 0) (n := ((x.length : Int) - 1).toNat) (fun i H' => Same H H' ∧ H' D = some (.lst (((List.range i).map (upsB x)).map V.bl)))
        ⟨same_tr s1 (same_new hD), by rw [upd_same]; rfl⟩ ?_ ?_⟩
    · rintro i H2 hi ⟨s2, hD2⟩
      have h1 : i < x.cps.toList.length := by rw [Array.length_toList]; omega
      have h2 : i + 1 < x.cps.toList.length := by rw [Array.length_toList]; omega
      have e1 : x.cps.toList[i]? = some x.cps.toList[i] := List.getElem?_eq_getElem h1
      have e2 : x.cps.toList[i + 1]? = some x.cps.toList[i + 1] := List.getElem?_eq_getElem h2
      refine ⟨rfl, ?_⟩
      refine ⟨_, rfl, _, rfl, x, _, _, rfl, rfl, sz, (by rw [Int.zero_add]; exact atI_nat e1), _, rfl, _, rfl, _, _, rfl, rfl, x, _, _, rfl, rfl, sz, (by rw [Int.zero_add]; exact atI_nat (j := i + 1) e2), _, _, rfl, rfl, _, hD2, ?_, same_mut s2 (s1.free hD), ?_⟩
      · rw [List.length_map, List.length_map, List.length_range]
        exact Nat.lt_of_lt_of_le (show i < 26 by omega) (by decide)
      · rw [upd_same, List.range_succ, List.map_append, List.map_append]
        show some (HO.lst (_ ++ [V.bl (decide (([x.cps.toList[i]] : List Nat) < [x.cps.toList[i + 1]]))])) = some (HO.lst (_ ++ [V.bl (upsB x i)]))
        rw [lt_one]
        unfold upsB
        rw [List.getD_eq_getElem?_getD, List.getD_eq_getElem?_getD, e1, e2]
        rfl
    · rintro H2 ⟨s2, hD2⟩
      refine ⟨D, _, rfl, SqL.of hD2, ?_⟩
      refine k _ H2 s2 ?_
      rw [show ((x.length : Int) - 1).toNat = x.length - 1 by omega]
      constructor
      · exact fun h => ⟨x, rfl, low, pos, by omega, up_of h⟩
      · rintro ⟨y, e, a⟩
        have e' : x = y := by cases e; rfl
        rw [← e'] at a
        exact up_to a.up
end
end Mk

set_option Elab.async false
set_option maxRecDepth 100000
set_option maxHeartbeats 4000000
namespace Mk
open PySem L2 Pk
def iSq (b : Bool) (K : PySem.W.Frag) (tl : TE) : TI := match b with
  | true => iList K tl
  | false => iTup K tl
theorem pi_sq {X : Cx} {tg l : Expr} {tl : TE} (b : Bool) (hl : PE X l tl) : PI X tg l (iSq b X.K tl) := by
  cases b
  · exact pi_tup hl
  · exact pi_list hl
def ItB (b : Bool) (K : PySem.W.Frag) (a : Addr) := match b with
  | true => Itl K a
  | false => Itt K a
theorem isq_of {b : Bool} {K : PySem.W.Frag} {tl : TE} {σ : L2.St} {H : Hp} {R} (h : tl σ H fun x H1 => ∃ a, x = .ref a ∧ (∃ xs, SqB b K H1 a xs) ∧ R (ItB b K a) H1) : iSq b K tl σ H R := by
  cases b
  · exact h
  · exact h
/-- a walk over a list or a tuple that stays -/
theorem walk_sq {b : Bool} {K : PySem.W.Frag} {a : Addr} {xs : List V} : Walk (ItB b K a) xs.length (fun H => SqB b K H a xs) (YAt xs) := by
  cases b
  · exact walk_tup
  · exact walk_list
theorem ix_sq {b : Bool} {K : PySem.W.Frag} {H : Hp} {a : Addr} {xs : List V} {i : Int} {v : V} {Q : VK} (h : SqB b K H a xs) (e : atI xs i = some v) (q : Q v H) : rIx K (.ref a) (.int i) H Q := by
  cases b
  · exact .inr (.inl ⟨a, xs, i, v, rfl, rfl, h, e, q⟩)
  · exact .inl ⟨a, xs, i, v, rfl, rfl, h, e, q⟩
abbrev sCheck : Stmt := top 50
/-- rules as they are handed in -/
abbrev Hand := List (Addr × Bool × Rl)
structure HandOk (K : PySem.W.Frag) (H : Hp) (l : PySem.Str) (n : Int) (R : Hand) : Prop where
  at_ : ∀ p ∈ R, SqB p.2.1 K H p.1 p.2.2.vs
  ok : ∀ p ∈ R, RlOk l n p.2.2
  most : R.length ≤ 20000
theorem HandOk.mono {K : PySem.W.Frag} {H H' : Hp} {l : PySem.Str} {n : Int} {R : Hand} (h : HandOk K H l n R) (e : Same H H') : HandOk K H' l n R := ⟨fun p m => (h.at_ p m).mono e, h.ok, h.most⟩
section
variable {P : Program} {w : World} {K : PySem.W.Frag} {mg : PySem.Str → Option Value} {base : Heap}
structure ChkDefs (P : Program) (w : World) (K : PySem.W.Frag) (mg : PySem.Str → Option Value) (base : Heap) : Prop where
  alphabet : Got P w K mg base "is_alphabet" 2 ["value"] spAlphabet
  between : Got P w K mg base "is_between" 2 ["value", "least", "most"] spBetween
  sequence : Got P w K mg base "is_sequence" 1 ["value"] (spSequence K)
  rule : Got P w K mg base "is_rule" 4 ["letters", "states", "value"] (spRule K)
  state : Got P w K mg base "is_state" 3 ["states", "value"] spState
  ms : ∃ t, mg "MOST_STATES" = some (.int 2000 t)
  mr : ∃ t, mg "MOST_RULES" = some (.int 20000 t)
def refsH (R : Hand) : List V := R.map fun p => .ref p.1
structure ArgsOk (K : PySem.W.Frag) (H : Hp) (l : PySem.Str) (n : Int) (aR aY : Addr) (bR bY : Bool) (R : Hand) (ys : List Int) : Prop where
  alpha : Alpha l
  num : 1 ≤ n ∧ n ≤ 2000
  rs : SqB bR K H aR (refsH R)
  hand : HandOk K H l n R
  yes : SqB bY K H aY (ys.map V.int)
  in_ : ∀ y ∈ ys, 0 ≤ y ∧ y ≤ n - 1
  few : ys.length ≤ 100000
def spCheck (K : PySem.W.Frag) : Sp := fun vs H Q _ => ∃ (l : PySem.Str) (n : Int) (aR aY : Addr) (bR bY : Bool) (R : Hand) (ys : List Int), vs = [.str l, .int n, .ref aR, .ref aY] ∧ ArgsOk K H l n aR aY bR bY R ys ∧ ∀ H', Same H H' → Q .non H'
abbrev nCheck : List PySem.Str := ["letters", "states", "rules", "yes", "index", "state"]
theorem scCheck : FnScope nCheck ["letters", "states", "rules", "yes"] (defScope sCheck) := ⟨rfl, rfl, rfl, by decide +kernel, rfl, by decide +kernel, by decide +kernel⟩
theorem ok_check {f : Addr} {fd : FuncData} (F : Fun K "check_arguments" "check_arguments" sCheck f fd) (T : TM mg) (G : ChkDefs P w K mg base) : FnOk P w K mg base CX0 5 f fd ["letters", "states", "rules", "yes"] (spCheck K) := by
  refine F.ok scCheck (fun vs H Q E h => ?_) (fun cdv A outer s H vs Q E hr h => ?_)
  · obtain ⟨l, n, aR, aY, bR, bY, R, ys, rfl, _⟩ := h
    rfl
  · obtain ⟨l, n, aR, aY, bR, bY, R, ys, rfl, a, k⟩ := h
    obtain ⟨t1, gS⟩ := G.ms
    obtain ⟨t2, gR⟩ := G.mr
    have h1 := hr.mono (show 1 ≤ 4 by decide)
    have h2 := hr.mono (show 2 ≤ 4 by decide)
    have h3 := hr.mono (show 3 ≤ 4 by decide)
    have most := a.hand.most
    refine ⟨_, pss_cons (ps_if (pt_not (pt_val (pe_got G.alphabet h2 (by rfl) (pa_cons (pv 0) pa_nil)))) pss_never pss_nil)
      (pss_cons (ps_if (pt_not (pt_val (pe_got G.between h2 (by rfl) (pa_cons (pv 1) (pa_cons pe_int (pa_cons (pe_glob (v := .int 2000) (by rfl) gS ⟨t1, rfl⟩) pa_nil)))))) pss_never pss_nil)
      (pss_cons (ps_if (PW.pt (pw_or (pt_not (pt_val (pe_got G.sequence h1 (by rfl) (pa_cons (pv 2) pa_nil)))) (pw_or1 (pt_cmpR op_gt (pe_callB call_len_seq (by rfl) T.len PySem.boot_len (pa_cons (pv 2) pa_nil)) (pe_glob (v := .int 20000) (by rfl) gR ⟨t2, rfl⟩) (nomark _))))) pss_never pss_nil)
      (pss_cons (ps_for PassesOwn.never rfl (pi_range1 (by rfl) T.range (pa_cons (pe_callB call_len_seq (by rfl) T.len PySem.boot_len (pa_cons (pv 2) pa_nil)) pa_nil)) (pg_name (i := 4) scCheck.nd rfl (Or.inl rfl))
        (pss_one (ps_if (pt_not (pt_val (pe_got G.rule hr (by rfl) (pa_cons (pv 0) (pa_cons (pv 1) (pa_cons (pe_ix ix_seq (pv 2) (pv 4) fun _ _ => rfl) pa_nil)))))) pss_never pss_nil)))
      (pss_one (ps_if (PW.pt (pw_or (pt_not (pt_val (pe_got G.sequence h1 (by rfl) (pa_cons (pv 3) pa_nil)))) (pw_or1 (pt_not (pt_val (pe_callB (cr_all rfl) (by rfl) T.all (by decide +kernel) (pa_cons (pe_lc (own := [("state", 5)]) (g := gName 5) (tt := tYes) (by rfl) scCheck.nd (pi_sq bY (pv 3))
        (blkOk_by (own := [("state", 5)]) (N := nCheck) (sc := defScope sCheck) (by decide +kernel))
        (fun _ _ _ _ _ => pg_name (i := 5) scCheck.nd rfl (Or.inl rfl)) (fun _ _ _ _ _ => pts_nil) (fun _ _ _ _ _ => pe_got G.state h3 (by rfl) (pa_cons (pv 1) (pa_cons (pv 5) pa_nil)))) pa_nil))))))) pss_never pss_nil))))), ?_⟩
    refine ⟨_, rfl, l, rfl, a.alpha, fun H1 s1 => ⟨_, rfl, ?_⟩⟩
    refine iteF ?_
    refine ⟨_, rfl, n, 1, 2000, rfl, _, rfl, ?_⟩
    rw [decide_eq_true a.num.1, decide_eq_true a.num.2]
    refine iteF ?_
    refine ⟨_, rfl, aR, bR, _, rfl, a.rs.mono s1, fun H2 s2 => ⟨_, rfl, ?_⟩⟩
    refine iteF ?_
    have s12 := s1.trans s2
    have lR : (refsH R).length = R.length := List.length_map ..
    refine ⟨_, rfl, aR, _, rfl, (a.rs.mono s12).any, _, _, rfl, rfl, _, rfl, ?_⟩
    rw [decide_eq_false (p := ((refsH R).length : Int) > 20000) (by rw [lR]; omega)]
    refine iteF ?_
    refine ⟨_, rfl, aR, _, rfl, (a.rs.mono s12).any, _, rfl, by omega, by omega, for_range (lo := 0) (n := (((refsH R).length : Nat) : Int).toNat) (fun i σ H' => Same H H' ∧ ∃ v : Option V, σ = [some (.str l), some (.int n), some (.ref aR), some (.ref aY), v, none])
      ⟨s12, none, rfl⟩ ?_ ?_⟩
    · rintro i σ H3 hi ⟨s3, v, rfl⟩
      have hi' : i < R.length := by omega
      have hx : (refsH R)[i]? = some (.ref R[i].1) := by unfold refsH; rw [List.getElem?_map, List.getElem?_eq_getElem hi'] <;> rfl
      have m : R[i] ∈ R := List.getElem_mem hi'
      refine ⟨_, rfl, _, rfl, _, rfl, _, rfl, ix_sq (a.rs.mono s3) (by rw [Int.zero_add]; exact atI_nat hx) ?_⟩
      refine ⟨l, n, _, _, R[i].2.2, rfl, (a.hand.at_ _ m).mono s3, a.hand.ok _ m, fun H4 s4 => ⟨_, rfl, ?_⟩⟩
      refine iteF ?_
      exact ⟨s3.trans s4, _, rfl⟩
    · rintro σ H3 ⟨s3, v, rfl⟩
      refine ⟨_, rfl, aY, bY, _, rfl, a.yes.mono s3, fun H4 s4 => ⟨_, rfl, ?_⟩⟩
      refine iteF ?_
      have s34 := s3.trans s4
      refine isq_of ⟨_, rfl, aY, rfl, ⟨_, a.yes.mono s34⟩, fun D hD => lc_it (walk_sq (b := bY) (K := K) (a := aY) (xs := ys.map V.int)) (fun i H' => Same H H' ∧ H' D = some (.lst ((List.replicate i true).map V.bl)))
        ⟨s34.trans (same_new hD), by rw [upd_same]; rfl⟩ (fun i H' _ h => a.yes.mono h.1) ?_ ?_⟩
      · rintro i y H5 H6 hi ⟨s5, hD5⟩ ⟨rfl, ey⟩
        obtain ⟨z, ez, rfl⟩ := mapInt ey
        have iz := a.in_ z (List.mem_of_getElem? ez)
        rw [List.length_map] at hi
        refine ⟨rfl, ?_⟩
        refine ⟨_, rfl, _, rfl, n, z, rfl, _, hD5, ?_, same_mut s5 (s34.free hD), ?_⟩
        · rw [List.length_map, List.length_replicate]
          exact Nat.lt_of_lt_of_le (Nat.lt_of_lt_of_le hi a.few) (by decide)
        · rw [upd_same, List.replicate_succ', List.map_append, decide_eq_true iz.1, decide_eq_true iz.2]
          rfl
      · rintro H5 ⟨s5, hD5⟩
        refine ⟨D, _, rfl, SqL.of hD5, _, rfl, ?_⟩
        rw [show (List.replicate (ys.map V.int).length true).all id = true by simp]
        refine iteF ?_
        exact k H5 s5
end
end Mk

set_option Elab.async false
set_option linter.unusedVariables false
set_option maxRecDepth 100000
set_option maxHeartbeats 16000000
namespace Mk
open PySem L2 Pk
theorem dp_sqB {b : Bool} {K : PySem.W.Frag} {H : Hp} {a : Addr} {xs : List V} {ds : List PyData} (h : SqB b K H a xs) (g : DpAll K H xs ds) : Dp K H (.ref a) (if b = true then .list ds else .tuple ds) := by
  cases b
  · exact .tup h g
  · exact .lst h g
theorem seq_b (b : Bool) (ds : List PyData) : isSeqT (if b = true then .list ds else .tuple ds) = true := by cases b <;> rfl
abbrev sBadInit : Stmt := inClass (top 2) 0
def strOf : PyData → PySem.Str
  | .str x => x
  | _ => nil0
def numOf : PyData → Int
  | .int n => n
  | _ => 0
def firstBad (l : PySem.Str) (n : Int) (rs : List PyData) : Option Nat := rs.findIdx? fun r => !ruleD l n r
open Classical in
/-- the first check that fails -/
noncomputable def whereOf (d1 d2 : PyData) (rs ys : List PyData) : Option PyData :=
  if ¬ ∃ x, d1 = .str x ∧ Alpha x then some (.str "letters")
  else if btw 1 2000 d2 = false then some (.str "states")
  else if 20000 < rs.length then some (.str "rules")
  else match firstBad (strOf d1) (numOf d2) rs with
    | some i => some (.int (i : Int))
    | none => if ys.all (btw 0 (numOf d2 - 1)) = true then none else some (.str "yes")
theorem first_none {l : PySem.Str} {n : Int} {rs : List PyData} (h : ∀ r ∈ rs, ruleD l n r = true) : firstBad l n rs = none := by
  unfold firstBad
  rw [List.findIdx?_eq_none_iff]
  intro r m
  rw [h r m]
  rfl
theorem first_some {l : PySem.Str} {n : Int} {rs : List PyData} {i : Nat} {r : PyData} (e : rs[i]? = some r) (b : ruleD l n r = false) (h : ∀ r ∈ rs.take i, ruleD l n r = true) : firstBad l n rs = some i := by
  unfold firstBad
  rw [List.findIdx?_eq_some_iff_getElem]
  have li := (List.getElem?_eq_some_iff.mp e).1
  have ei := (List.getElem?_eq_some_iff.mp e).2
  refine ⟨li, by rw [ei, b]; rfl, fun j hj => ?_⟩
  rw [h rs[j] (List.mem_iff_getElem?.mpr ⟨j, by rw [List.getElem?_take_of_lt hj]; exact List.getElem?_eq_getElem (by omega)⟩)]
  decide
/-- the error BadMachine -/
structure BadT (K : PySem.W.Frag) (mg : PySem.Str → Option Value) (C fI : Addr) : Prop where
  gC : mg "BadMachine" = some (.ref C)
  ox : OexC K C
  iC : PySem.W.findIn K (.ref C) "__init__" = some (some (.ref fI))
  tI : PySem.W.typeIn K (.ref fI) = some (.type "function")
  no : PySem.W.findIn K (.ref C) "where" = some none
section
variable {P : Program} {w : World} {K : PySem.W.Frag} {mg : PySem.Str → Option Value} {base : Heap}
def spBadI (_K : PySem.W.Frag) (C : Addr) : Sp := fun vs H Q _ => ∃ (a : Addr) (y : V), vs = [.ref a, y] ∧ H a = some (exo a C none) ∧ ∀ dx, H dx = none → dx ≠ a → Q .non (upd (upd H dx (exd dx [("where", y)])) a (exo a C (some dx)))
theorem scBadI : FnScope ["self", "where"] ["self", "where"] (defScope sBadInit) := ⟨rfl, rfl, rfl, by decide +kernel, rfl, by decide +kernel, by decide +kernel⟩
theorem ok_badI {f C : Addr} {fd : FuncData} (F : Fun K "__init__" "BadMachine.__init__" sBadInit f fd) (T : OexC K C) (no : PySem.W.findIn K (.ref C) "where" = some none) : FnOk P w K mg base CX0 1 f fd ["self", "where"] (spBadI K C) := by
  refine F.ok scBadI (fun vs H Q E h => ?_) (fun cdv A outer s H vs Q E hr h => ?_)
  · obtain ⟨a, y, rfl, _⟩ := h
    rfl
  · obtain ⟨a, y, rfl, ha, k⟩ := h
    refine ⟨_, pss_one (ps_ost (pv 0) (pv 1)), ?_⟩
    exact ⟨_, rfl, _, rfl, a, C, rfl, T, no, .inl ⟨ha, fun dx h1 h2 => k dx h1 h2⟩⟩
structure ChkDefsD (P : Program) (w : World) (K : PySem.W.Frag) (mg : PySem.Str → Option Value) (base : Heap) : Prop where
  alphabet : Got P w K mg base "is_alphabet" 2 ["value"] (spAlphabetD K)
  between : Got P w K mg base "is_between" 2 ["value", "least", "most"] (spBetweenD K)
  sequence : Got P w K mg base "is_sequence" 1 ["value"] (spSequenceD K)
  rule : Got P w K mg base "is_rule" 4 ["letters", "states", "value"] (spRuleD K)
  state : Got P w K mg base "is_state" 3 ["states", "value"] (spStateD K)
  ms : ∃ t, mg "MOST_STATES" = some (.int 2000 t)
  mr : ∃ t, mg "MOST_RULES" = some (.int 20000 t)
def spCheckD (K : PySem.W.Frag) (C : Addr) : Sp := fun vs H Q E => ∃ (v1 v2 : V) (d1 d2 : PyData) (aR aY : Addr) (bR bY : Bool) (xs us : List V) (rs ys : List PyData), vs = [v1, v2, .ref aR, .ref aY] ∧ Dp K H v1 d1 ∧ Short 1000 d1 ∧ Dp K H v2 d2 ∧ SqB bR K H aR xs ∧ DpAll K H xs rs ∧ (∀ r ∈ rs, ShortAll r) ∧ rs.length ≤ 100000 ∧
  SqB bY K H aY us ∧ DpAll K H us ys ∧ ys.length ≤ 10000 ∧
  (whereOf d1 d2 rs ys = none → ∀ H', Same H H' → Q .non H') ∧
  (∀ wd, whereOf d1 d2 rs ys = some wd → ∀ (dx : Addr) (H' : Hp) (wv : V), H dx = none → Same H H' → H' dx = some (.xd [("where", wv)]) → (∀ H'', Dp K H'' wv wd) → E (.ref C) (some dx) H')
theorem okD_check {f fI C : Addr} {fd fdI : FuncData} (F : Fun K "check_arguments" "check_arguments" sCheck f fd) (T : TM mg) (G : ChkDefsD P w K mg base) (B : BadT K mg C fI) (FI : Fun K "__init__" "BadMachine.__init__" sBadInit fI fdI) (bI : Binds K fdI ["self", "where"] []) :
    FnOk P w K mg base (L2N.CX P w) 5 f fd ["letters", "states", "rules", "yes"] (spCheckD K C) := by
  have GI : FnOk P w K mg base CX0 1 fI fdI ["self", "where"] (spBadI K C) := ok_badI FI B.ox B.no
  refine fun_okN F scCheck (fun vs H Q E h => ?_) (fun cdv A outer s H vs Q E hr h => ?_)
  · obtain ⟨v1, v2, d1, d2, aR, aY, bR, bY, xs, us, rs, ys, rfl, _⟩ := h
    rfl
  · obtain ⟨v1, v2, d1, d2, aR, aY, bR, bY, xs, us, rs, ys, rfl, g1, sh1, g2, hR, gR, shR, lR, hY, gY, lY, kQ, kE0⟩ := h
    have kE : ∀ wd, whereOf d1 d2 rs ys = some wd → ∀ (dx : Addr) (H' : Hp) (wv : V), H dx = none → Same H H' → H' dx = some (.xd [("where", wv)]) → (∀ H'', Dp K H'' wv wd) → E (.ref C) (some dx) H' := kE0
    obtain ⟨t1, gS⟩ := G.ms
    obtain ⟨t2, gM⟩ := G.mr
    have h1 := hr.mono (show 1 ≤ 4 by decide)
    have h2 := hr.mono (show 2 ≤ 4 by decide)
    have h3 := hr.mono (show 3 ≤ 4 by decide)
    replace hr := hr.mono (show 4 ≤ 4 by decide)
    refine ⟨_, pss_cons (ps_if (pt_not (pt_val (pe_got G.alphabet h2 (by rfl) (pa_cons (pv 0) pa_nil)))) (pss_one (L2N.ps_raise rfl (L2N.takes_of rfl rfl rfl rfl) (pmkN_own B.ox B.iC B.tI GI h2 bI pass0 (by rfl) B.gC (pa_cons pe_str pa_nil)))) pss_nil)
      (pss_cons (ps_if (pt_not (pt_val (pe_got G.between h2 (by rfl) (pa_cons (pv 1) (pa_cons pe_int (pa_cons (pe_glob (v := .int 2000) (by rfl) gS ⟨t1, rfl⟩) pa_nil)))))) (pss_one (L2N.ps_raise rfl (L2N.takes_of rfl rfl rfl rfl) (pmkN_own B.ox B.iC B.tI GI h2 bI pass0 (by rfl) B.gC (pa_cons pe_str pa_nil)))) pss_nil)
      (pss_cons (ps_if (PW.pt (pw_or (pt_not (pt_val (pe_got G.sequence h1 (by rfl) (pa_cons (pv 2) pa_nil)))) (pw_or1 (pt_cmpR op_gt (pe_callB call_len_seq (by rfl) T.len PySem.boot_len (pa_cons (pv 2) pa_nil)) (pe_glob (v := .int 20000) (by rfl) gM ⟨t2, rfl⟩) (nomark _))))) (pss_one (L2N.ps_raise rfl (L2N.takes_of rfl rfl rfl rfl) (pmkN_own B.ox B.iC B.tI GI h2 bI pass0 (by rfl) B.gC (pa_cons pe_str pa_nil)))) pss_nil)
      (pss_cons (ps_for (by exact passes_of rfl) rfl (pi_range1 (by rfl) T.range (pa_cons (pe_callB call_len_seq (by rfl) T.len PySem.boot_len (pa_cons (pv 2) pa_nil)) pa_nil)) (pg_name (i := 4) scCheck.nd rfl (Or.inl rfl))
        (pss_one (ps_if (pt_not (pt_val (pe_got G.rule hr (by rfl) (pa_cons (pv 0) (pa_cons (pv 1) (pa_cons (pe_ix ix_seq (pv 2) (pv 4) fun _ _ => rfl) pa_nil)))))) (pss_one (L2N.ps_raise rfl (L2N.takes_of rfl rfl rfl rfl) (pmkN_own B.ox B.iC B.tI GI h2 bI pass0 (by rfl) B.gC (pa_cons (pv 4) pa_nil)))) pss_nil)))
      (pss_one (ps_if (PW.pt (pw_or (pt_not (pt_val (pe_got G.sequence h1 (by rfl) (pa_cons (pv 3) pa_nil)))) (pw_or1 (pt_not (pt_val (pe_callB (cr_all rfl) (by rfl) T.all (by decide +kernel) (pa_cons (pe_lc (own := [("state", 5)]) (g := gName 5) (tt := tYes) (by rfl) scCheck.nd (pi_sq bY (pv 3))
        (blkOk_by (own := [("state", 5)]) (N := nCheck) (sc := defScope sCheck) (by decide +kernel))
        (fun _ _ _ _ _ => pg_name (i := 5) scCheck.nd rfl (Or.inl rfl)) (fun _ _ _ _ _ => pts_nil) (fun _ _ _ _ _ => pe_got G.state h3 (by rfl) (pa_cons (pv 1) (pa_cons (pv 5) pa_nil)))) pa_nil))))))) (pss_one (L2N.ps_raise rfl (L2N.takes_of rfl rfl rfl rfl) (pmkN_own B.ox B.iC B.tI GI h2 bI pass0 (by rfl) B.gC (pa_cons pe_str pa_nil)))) pss_nil))))), ?_⟩
    have S0 := Same.refl H
    refine ⟨_, rfl, v1, d1, rfl, g1, sh1, fun b1 H1 s1 i1 => ⟨_, rfl, ?_⟩⟩
    cases b1 with
    | false =>
      have wh : whereOf d1 d2 rs ys = some (.str "letters") := by
        unfold whereOf
        rw [if_pos fun z => by have := i1.mpr z; cases this]
      refine iteT ?_
      refine ⟨(by show 1 ≤ 1000; decide), fun a ha => ⟨a, _, rfl, upd_same, fun dx hdx nda => ?_⟩⟩
      have hdx1 : H1 dx = none := by
        rw [upd_ne nda] at hdx
        exact hdx
      refine ⟨rfl, dx, _, upd_same, (by rw [upd_ne nda, upd_same]), hdx1, kE _ wh dx _ _ ((s1).free hdx1) ?_ upd_same (fun _ => .str _)⟩
      intro b o e
      have e1 := (s1) b o e
      have nb : b ≠ dx := ne_of_none e1 hdx1
      have na : b ≠ a := ne_of_none e1 ha
      rw [upd_ne nb, del_ne na, upd_ne na, upd_ne nb, upd_ne na]
      exact e1
    | true =>
    refine iteF ?_
    obtain ⟨l, rfl, al⟩ := i1.mp rfl
    obtain rfl : v1 = .str l := by cases g1; rfl
    have w1 : ¬ ¬ ∃ x, PyData.str l = .str x ∧ Alpha x := fun z => z ⟨l, rfl, al⟩
    refine ⟨_, rfl, v2, d2, 1, 2000, rfl, dp_mono s1 _ _ g2, _, rfl, ?_⟩
    cases hb : btw 1 2000 d2 with
    | false =>
      have wh : whereOf (.str l) d2 rs ys = some (.str "states") := by
        unfold whereOf
        rw [if_neg w1, if_pos hb]
      refine iteT ?_
      refine ⟨(by show 1 ≤ 1000; decide), fun a ha => ⟨a, _, rfl, upd_same, fun dx hdx nda => ?_⟩⟩
      have hdx1 : H1 dx = none := by
        rw [upd_ne nda] at hdx
        exact hdx
      refine ⟨rfl, dx, _, upd_same, (by rw [upd_ne nda, upd_same]), hdx1, kE _ wh dx _ _ ((s1).free hdx1) ?_ upd_same (fun _ => .str _)⟩
      intro b o e
      have e1 := (s1) b o e
      have nb : b ≠ dx := ne_of_none e1 hdx1
      have na : b ≠ a := ne_of_none e1 ha
      rw [upd_ne nb, del_ne na, upd_ne na, upd_ne nb, upd_ne na]
      exact e1
    | true =>
    refine iteF ?_
    obtain ⟨n, rfl, rfl⟩ : ∃ n, v2 = .int n ∧ d2 = .int n := by
      cases g2 with
      | int n => exact ⟨n, rfl, rfl⟩
      | _ => cases hb
    have w2 : ¬ btw 1 2000 (.int n) = false := fun z => by rw [hb] at z; cases z
    refine ⟨_, rfl, .ref aR, _, rfl, dp_sqB (hR.mono s1) (dpa_mono s1 _ _ gR), fun H2 s2 => ⟨_, rfl, ?_⟩⟩
    rw [seq_b]
    refine iteF ?_
    have s02 := s1.trans s2
    have lxs := dpa_len gR
    refine ⟨_, rfl, aR, xs, rfl, (hR.mono s02).any, _, _, rfl, rfl, _, rfl, ?_⟩
    refine ite2 (fun c => ?_) (fun c => ?_)
    · have c' := of_decide_eq_true c
      have wh : whereOf (.str l) (.int n) rs ys = some (.str "rules") := by
        unfold whereOf
        rw [if_neg w1, if_neg w2, if_pos (by omega)]
      refine ⟨(by show 1 ≤ 1000; decide), fun a ha => ⟨a, _, rfl, upd_same, fun dx hdx nda => ?_⟩⟩
      have hdx1 : H2 dx = none := by
        rw [upd_ne nda] at hdx
        exact hdx
      refine ⟨rfl, dx, _, upd_same, (by rw [upd_ne nda, upd_same]), hdx1, kE _ wh dx _ _ ((s02).free hdx1) ?_ upd_same (fun _ => .str _)⟩
      intro b o e
      have e1 := (s02) b o e
      have nb : b ≠ dx := ne_of_none e1 hdx1
      have na : b ≠ a := ne_of_none e1 ha
      rw [upd_ne nb, del_ne na, upd_ne na, upd_ne nb, upd_ne na]
      exact e1
    have few : ¬ 20000 < rs.length := fun z => c (decide_eq_true (by omega))
    refine ⟨_, rfl, aR, xs, rfl, (hR.mono s02).any, _, rfl, by omega, by omega, for_range (lo := 0) (n := ((xs.length : Nat) : Int).toNat) (fun i σ H' => Same H H' ∧ (∀ r ∈ rs.take i, ruleD l n r = true) ∧ ∃ v4 : Option V, σ = [some (.str l), some (.int n), some (.ref aR), some (.ref aY), v4, none])
      ⟨s02, (fun r m => absurd m List.not_mem_nil), _, rfl⟩ ?_ ?_⟩
    · rintro i σ H3 hi ⟨s3, pre, v4, rfl⟩
      obtain ⟨r, er⟩ : ∃ r, rs[i]? = some r := ⟨_, List.getElem?_eq_getElem (by omega)⟩
      obtain ⟨v, ev⟩ : ∃ v, xs[i]? = some v := ⟨_, List.getElem?_eq_getElem (by omega)⟩
      obtain ⟨r', er', gr⟩ := dpa_get gR ev
      rw [er] at er'
      obtain rfl := Option.some.inj er'
      have atx : atI xs (0 + (i : Int)) = some v := by
        rw [show (0 : Int) + (i : Int) = ((i : Nat) : Int) by omega]
        exact atI_nat ev
      refine ⟨_, rfl, _, rfl, _, rfl, _, rfl, ix_sq (hR.mono s3) atx ⟨l, n, v, r, rfl, dp_mono s3 _ _ gr, shR r (List.mem_of_getElem? er), fun H4 s4 => ⟨_, rfl, ?_⟩⟩⟩
      have s04 := s3.trans s4
      cases hb2 : ruleD l n r with
      | true =>
        refine iteF ⟨s04, fun q m => ?_, _, rfl⟩
        rw [take_at er] at m
        rcases List.mem_append.mp m with m | m
        · exact pre q m
        · rw [List.mem_singleton.mp m]; exact hb2
      | false =>
        have wh : whereOf (.str l) (.int n) rs ys = some (.int (i : Int)) := by
          unfold whereOf
          rw [if_neg w1, if_neg w2, if_neg few, show firstBad (strOf (.str l)) (numOf (.int n)) rs = some i from first_some er hb2 pre]
        refine iteT ?_
        refine ⟨_, rfl, (by show 1 ≤ 1000; decide), fun a ha => ⟨a, _, rfl, upd_same, fun dx hdx nda => ?_⟩⟩
        have hdx1 : H4 dx = none := by
          rw [upd_ne nda] at hdx
          exact hdx
        refine ⟨rfl, dx, _, upd_same, (by rw [upd_ne nda, upd_same]), hdx1, kE _ wh dx _ _ ((s04).free hdx1) ?_ upd_same (fun _ => by rw [show (0 : Int) + (i : Int) = (i : Int) by omega]; exact .int _)⟩
        intro b o e
        have e1 := (s04) b o e
        have nb : b ≠ dx := ne_of_none e1 hdx1
        have na : b ≠ a := ne_of_none e1 ha
        rw [upd_ne nb, del_ne na, upd_ne na, upd_ne nb, upd_ne na]
        exact e1
    rintro σ H3 ⟨s3, pre, v4, rfl⟩
    rw [List.take_of_length_le (by omega)] at pre
    have wf : whereOf (.str l) (.int n) rs ys = if ys.all (btw 0 (n - 1)) = true then none else some (.str "yes") := by
      unfold whereOf
      rw [if_neg w1, if_neg w2, if_neg few, show firstBad (strOf (.str l)) (numOf (.int n)) rs = none from first_none pre]
      rfl
    refine ⟨_, rfl, .ref aY, _, rfl, dp_sqB (hY.mono s3) (dpa_mono s3 _ _ gY), fun H4 s4 => ⟨_, rfl, ?_⟩⟩
    rw [seq_b]
    refine iteF ?_
    have s04 := s3.trans s4
    have lus := dpa_len gY
    refine isq_of ⟨_, rfl, aY, rfl, ⟨_, hY.mono s04⟩, fun D hD => lc_it (walk_sq (b := bY) (K := K) (a := aY) (xs := us)) (fun i H' => Same H H' ∧ H' D = some (.lst (((ys.take i).map (btw 0 (n - 1))).map V.bl)))
      ⟨s04.trans (same_new hD), by rw [upd_same]; rfl⟩ (fun i H' _ h => hY.mono h.1) ?_ ?_⟩
    · rintro i y H5 H6 hi ⟨s5, hD5⟩ ⟨rfl, ey⟩
      obtain ⟨d, ed, gd⟩ := dpa_get gY ey
      refine ⟨rfl, ?_⟩
      refine ⟨_, rfl, _, rfl, n, y, d, rfl, dp_mono s5 _ _ gd, _, hD5, ?_, same_mut s5 (s04.free hD), ?_⟩
      · rw [List.length_map, List.length_map, List.length_take]
        exact Nat.lt_of_le_of_lt (Nat.le_trans (Nat.min_le_right _ _) lY) (by decide)
      · rw [upd_same, take_at ed, List.map_append, List.map_append]
        rfl
    · rintro H5 ⟨s5, hD5⟩
      refine ⟨D, _, rfl, SqL.of hD5, _, rfl, ?_⟩
      rw [List.take_of_length_le (by omega), List.all_map]
      have ea : ys.all (id ∘ btw 0 (n - 1)) = ys.all (btw 0 (n - 1)) := rfl
      rw [ea]
      cases ha : ys.all (btw 0 (n - 1)) with
      | true => exact iteF (kQ (by rw [wf, if_pos ha]) H5 s5)
      | false =>
        have wh : whereOf (.str l) (.int n) rs ys = some (.str "yes") := by rw [wf, if_neg (by rw [ha]; exact Bool.false_ne_true)]
        refine iteT ?_
        refine ⟨(by show 1 ≤ 1000; decide), fun a ha => ⟨a, _, rfl, upd_same, fun dx hdx nda => ?_⟩⟩
        have hdx1 : H5 dx = none := by
          rw [upd_ne nda] at hdx
          exact hdx
        refine ⟨rfl, dx, _, upd_same, (by rw [upd_ne nda, upd_same]), hdx1, kE _ wh dx _ _ ((s5).free hdx1) ?_ upd_same (fun _ => .str _)⟩
        intro b o e
        have e1 := (s5) b o e
        have nb : b ≠ dx := ne_of_none e1 hdx1
        have na : b ≠ a := ne_of_none e1 ha
        rw [upd_ne nb, del_ne na, upd_ne na, upd_ne nb, upd_ne na]
        exact e1
end
end Mk

/-! the map x ↦ 5 x + 1 modulo a power of two runs through all places -/
namespace Sx
/-- 1 + 5 + .. + 5^(n-1) -/
def geo : Nat → Nat
  | 0 => 0
  | n + 1 => geo n * 5 + 1
theorem geo_pow : ∀ n, 4 * geo n + 1 = 5 ^ n
  | 0 => rfl
  | n + 1 => by
    have h := geo_pow n
    show 4 * (geo n * 5 + 1) + 1 = 5 ^ n * 5
    omega
theorem geo_add (a : Nat) : ∀ b, geo (a + b) = geo a * 5 ^ b + geo b
  | 0 => by show geo a = geo a * 1 + 0; omega
  | b + 1 => by
    have h := geo_add a b
    show geo (a + b) * 5 + 1 = geo a * (5 ^ b * 5) + (geo b * 5 + 1)
    rw [h, Nat.add_mul, Nat.mul_assoc]
    omega
theorem geo_odd : ∀ n, geo n % 2 = n % 2
  | 0 => rfl
  | n + 1 => by
    have h := geo_odd n
    show (geo n * 5 + 1) % 2 = (n + 1) % 2
    omega
theorem pow5_mod4 (n : Nat) : 5 ^ n % 4 = 1 := by
  have h := geo_pow n
  omega
/-- geo (2 n) = geo n times twice an odd number -/
theorem geo_two (n : Nat) : ∃ q, geo (2 * n) = geo n * (2 * (2 * q + 1)) := by
  have h4 := pow5_mod4 n
  refine ⟨5 ^ n / 4, ?_⟩
  have e : 5 ^ n + 1 = 2 * (2 * (5 ^ n / 4) + 1) := by omega
  rw [← e, show 2 * n = n + n by omega, geo_add, Nat.mul_add, Nat.mul_one]
theorem odd_drop {k a q : Nat} (h : 2 ^ k ∣ a * (2 * q + 1)) : 2 ^ k ∣ a := by
  induction k generalizing a with
  | zero => exact ⟨a, by simp⟩
  | succ k ih =>
    have h1 : 2 ^ k ∣ a * (2 * q + 1) := Nat.dvd_trans ⟨2, by rw [Nat.pow_succ]⟩ h
    obtain ⟨b, rfl⟩ := ih h1
    obtain ⟨c, hc⟩ := h
    have hp : 0 < 2 ^ k := Nat.pow_pos (by decide)
    have e : b * (2 * q + 1) = 2 * c := by
      have : 2 ^ k * (b * (2 * q + 1)) = 2 ^ k * (2 * c) := by
        rw [← Nat.mul_assoc, hc, Nat.pow_succ, Nat.mul_assoc]
      exact Nat.eq_of_mul_eq_mul_left hp this
    have e2 : b * (2 * q) + b = 2 * c := by rw [← e, Nat.mul_add, Nat.mul_one]
    have e3 : b * (2 * q) = 2 * (b * q) := by rw [← Nat.mul_assoc, Nat.mul_comm b 2, Nat.mul_assoc]
    have hb : b % 2 = 0 := by omega
    obtain ⟨d, rfl⟩ : ∃ d, b = 2 * d := ⟨b / 2, by omega⟩
    exact ⟨d, by rw [Nat.pow_succ, Nat.mul_assoc]⟩
theorem geo_dvd : ∀ (k n : Nat), 2 ^ k ∣ geo n → 2 ^ k ∣ n
  | 0, n, _ => ⟨n, by simp⟩
  | k + 1, n, h => by
    have h2 : 2 ∣ geo n := Nat.dvd_trans ⟨2 ^ k, by rw [Nat.pow_succ, Nat.mul_comm]⟩ h
    have ev : n % 2 = 0 := by
      have o := geo_odd n
      omega
    obtain ⟨m, rfl⟩ : ∃ m, n = 2 * m := ⟨n / 2, by omega⟩
    obtain ⟨q, e⟩ := geo_two m
    rw [e] at h
    have h3 : 2 ^ k ∣ geo m * (2 * q + 1) := by
      obtain ⟨c, hc⟩ := h
      refine ⟨c, ?_⟩
      have : 2 * (geo m * (2 * q + 1)) = 2 * (2 ^ k * c) := by
        have l : geo m * (2 * (2 * q + 1)) = 2 * (geo m * (2 * q + 1)) := by rw [← Nat.mul_assoc, Nat.mul_comm (geo m) 2, Nat.mul_assoc]
        rw [← l, hc, Nat.pow_succ, Nat.mul_comm (2 ^ k) 2, Nat.mul_assoc]
      exact Nat.eq_of_mul_eq_mul_left (by decide) this
    obtain ⟨c, hc⟩ := geo_dvd k m (odd_drop h3)
    exact ⟨c, by rw [hc, Nat.pow_succ, Nat.mul_comm (2 ^ k) 2, Nat.mul_assoc]⟩
/-- the n-th place from i -/
def orb (M i : Nat) : Nat → Nat
  | 0 => i
  | n + 1 => (orb M i n * 5 + 1) % M
theorem orb_val {M i : Nat} (hi : i < M) : ∀ n, orb M i n = (5 ^ n * i + geo n) % M
  | 0 => by show i = (1 * i + 0) % M; rw [Nat.one_mul, Nat.add_zero, Nat.mod_eq_of_lt hi]
  | n + 1 => by
    show (orb M i n * 5 + 1) % M = (5 ^ n * 5 * i + (geo n * 5 + 1)) % M
    rw [orb_val hi n, Nat.add_mod, Nat.mul_mod, Nat.mod_mod, ← Nat.mul_mod, ← Nat.add_mod]
    congr 1
    rw [Nat.add_mul, Nat.mul_right_comm]
    omega
theorem mod_eq_dvd {M a b : Nat} (h : a % M = b % M) : M ∣ b - a := by
  have e : (b - a) % M = 0 := Nat.sub_mod_eq_zero_of_mod_eq h.symm
  exact Nat.dvd_of_mod_eq_zero e
theorem orb_inj {k i a b : Nat} (hi : i < 2 ^ k) (hab : a ≤ b) (hb : b < 2 ^ k) (h : orb (2 ^ k) i a = orb (2 ^ k) i b) : a = b := by
  rw [orb_val hi, orb_val hi] at h
  have d := mod_eq_dvd h
  obtain ⟨c, rfl⟩ : ∃ c, b = c + a := ⟨b - a, by omega⟩
  have ga := geo_pow a
  have gb := geo_pow (c + a)
  have gs := geo_add c a
  have e : 5 ^ (c + a) * i + geo (c + a) - (5 ^ a * i + geo a) = geo c * 5 ^ a * (2 * (2 * i) + 1) := by
    have l : geo (c + a) = geo c * 5 ^ a + geo a := gs
    rw [← gb, l]
    generalize geo c * 5 ^ a = x
    rw [← ga]
    have e1 : (4 * (x + geo a) + 1) * i = 4 * (x * i) + (4 * geo a + 1) * i := by
      rw [Nat.mul_add, Nat.add_assoc, Nat.add_mul, Nat.mul_assoc]
    have e2 : x * (2 * (2 * i) + 1) = 4 * (x * i) + x := by
      rw [Nat.mul_add, Nat.mul_one, ← Nat.mul_assoc 2 2 i, Nat.mul_left_comm]
    rw [e1, e2]
    omega
  rw [e] at d
  have d2 := odd_drop d
  obtain ⟨q, hq⟩ : ∃ q, 5 ^ a = 2 * q + 1 := ⟨5 ^ a / 2, by have := pow5_mod4 a; omega⟩
  rw [hq] at d2
  obtain ⟨t, ht⟩ := geo_dvd k c (odd_drop d2)
  cases t with
  | zero => rw [Nat.mul_zero] at ht; omega
  | succ t =>
    have : 2 ^ k ≤ c := by rw [ht, Nat.mul_succ]; omega
    omega
theorem nd_len {α : Type} [DecidableEq α] : ∀ (l D : List α), l.Nodup → (∀ x ∈ l, x ∈ D) → l.length ≤ D.length
  | [], _, _, _ => Nat.zero_le _
  | a :: l, D, h, s => by
    have ha := s a List.mem_cons_self
    have hn := List.nodup_cons.mp h
    have ih := nd_len l (D.erase a) hn.2 fun x hx => (List.mem_erase_of_ne (fun e => hn.1 (by rw [← e]; exact hx))).2 (s x (List.mem_cons_of_mem _ hx))
    rw [List.length_erase_of_mem ha] at ih
    have : 0 < D.length := List.length_pos_of_mem ha
    rw [List.length_cons]
    omega
theorem orb_lt {M i : Nat} (hi : i < M) : ∀ n, orb M i n < M
  | 0 => hi
  | _ + 1 => Nat.mod_lt _ (by omega)
/-- every place is met -/
theorem orb_all {k i j : Nat} (hi : i < 2 ^ k) (hj : j < 2 ^ k) : ∃ n, n < 2 ^ k ∧ orb (2 ^ k) i n = j := by
  apply Classical.byContradiction
  intro no
  have miss : ∀ n, n < 2 ^ k → orb (2 ^ k) i n ≠ j := fun n hn e => no ⟨n, hn, e⟩
  have nd : (j :: (List.range (2 ^ k)).map (orb (2 ^ k) i)).Nodup := by
    refine List.nodup_cons.mpr ⟨fun hm => ?_, ?_⟩
    · obtain ⟨n, hn, e⟩ := List.mem_map.mp hm
      exact miss n (List.mem_range.mp hn) e
    · refine List.Pairwise.map _ (fun a b h => h) ?_
      refine List.Pairwise.imp_of_mem ?_ (List.nodup_range (n := 2 ^ k))
      intro a b ha hb hne e
      have ha' := List.mem_range.mp ha
      have hb' := List.mem_range.mp hb
      rcases Nat.le_total a b with c | c
      · exact hne (orb_inj hi c hb' e)
      · exact hne (orb_inj hi c ha' e.symm).symm
  have l := nd_len _ (List.range (2 ^ k)) nd fun x hx => by
    rcases List.mem_cons.mp hx with rfl | hx
    · exact List.mem_range.mpr hj
    · obtain ⟨n, _, rfl⟩ := List.mem_map.mp hx
      exact List.mem_range.mpr (orb_lt hi n)
  rw [List.length_cons, List.length_map, List.length_range] at l
  omega
end Sx

set_option linter.all false
set_option maxRecDepth 100000
/-! sets whose table has any mask 2^k - 1: the search finds what stands there -/
namespace Sx
open PySem PyProof.Rows L2

/-- the masks of tables of fewer than some thousand items -/
def MaskG (m : Nat) : Prop := ∃ k, 3 ≤ k ∧ k ≤ 13 ∧ m + 1 = 2 ^ k
theorem MaskG.odd {m : Nat} (h : MaskG m) : m % 2 = 1 := by
  obtain ⟨k, h3, _, e⟩ := h
  obtain ⟨q, rfl⟩ : ∃ q, k = q + 1 := ⟨k - 1, by omega⟩
  rw [Nat.pow_succ] at e
  omega
theorem MaskG.top {m : Nat} (h : MaskG m) : m ≤ 8191 := by
  obtain ⟨k, _, h13, e⟩ := h
  have q : 2 ^ k ≤ 2 ^ 13 := Nat.pow_le_pow_right (by decide) h13
  have z : (2 : Nat) ^ 13 = 8192 := by decide
  omega
theorem lcg_is_orb (m i : Nat) : ∀ n, lcgI m i n = orb (m + 1) i n
  | 0 => rfl
  | n + 1 => by
    show (lcgI m i n * 5 + 1) % (m + 1) = (orb (m + 1) i n * 5 + 1) % (m + 1)
    rw [lcg_is_orb m i n]
theorem runs_come {m : Nat} (g : MaskG m) (h : Int) {j : Nat} (hj : j ≤ m) : ∃ n, n ≤ m + 12 ∧ runI m (SetTable.bits h) n = j := by
  obtain ⟨k, _, _, e⟩ := g
  have lo := runI_le m (SetTable.bits h) 12
  obtain ⟨n, hn, q⟩ := orb_all (k := k) (i := runI m (SetTable.bits h) 12) (j := j) (by omega) (by omega)
  refine ⟨12 + n, by omega, ?_⟩
  rw [runI_tail (bits_lt h), lcg_is_orb, e]
  exact q
theorem slots_come {m : Nat} (g : MaskG m) (h : Int) {j : Nat} (hj : j ≤ m) : ∃ k, k < 10 * SetTable.turns m ∧ way m h k = j := by
  obtain ⟨n, a, b⟩ := runs_come g h hj
  obtain ⟨k, c, d⟩ := run_nth m (SetTable.bits h) n
  have t : SetTable.turns m = m + 15 := rfl
  refine ⟨k, by omega, ?_⟩
  show (nth m (runAt m (SetTable.bits h % (m + 1)) (SetTable.bits h)) k).j = j
  rw [d]
  exact b
theorem way_in {m : Nat} {h : Int} {k : Nat} : way m h k ≤ m := by
  have first : SetTable.bits h % (m + 1) ≤ m := Nat.le_of_lt_succ (Nat.mod_lt _ (Nat.succ_pos _))
  have q := runEnd_bd first
  have z := nth_in k (runAt m (SetTable.bits h % (m + 1)) (SetTable.bits h)) (m := m) (show SetTable.bits h % (m + 1) + (SetTable.runEnd m (SetTable.bits h % (m + 1)) - SetTable.bits h % (m + 1)) ≤ m by omega)
  exact Nat.le_trans (Nat.le_add_right _ _) z

/-- each item's slot is found from its hash -/
structure Tab (t : SetTable) (hs : List Int) : Prop where
  up : Ris t.place.toList
  clean : t.dummies = #[]
  size : t.place.size = hs.length
  mask : MaskG t.mask
  le : ∀ x ∈ t.place.toList, x ≤ t.mask
  found : ∀ (i : Nat) (h : Int) (j : Nat), hs[i]? = some h → t.place.toList[i]? = some j → ∃ k, way t.mask h k = j ∧ ∀ c, c < k → way t.mask h c ∈ t.place.toList

section
variable {t : SetTable} {hs : List Int}
theorem Tab.gap (T : Tab t hs) (few : hs.length ≤ t.mask) (h : Int) : ∃ K, K < 10 * SetTable.turns t.mask ∧ way t.mask h K ∉ t.place.toList ∧ ∀ k, k < K → way t.mask h k ∈ t.place.toList := by
  have size := T.size
  obtain ⟨j, lt, no⟩ := st_missing t.place.toList (t.mask + 1) (by rw [Array.length_toList]; omega)
  obtain ⟨k, hk, rfl⟩ := slots_come T.mask h (Nat.le_of_lt_succ lt)
  obtain ⟨K, le, nK, below⟩ := st_least (p := fun k => way t.mask h k ∉ t.place.toList) k no
  exact ⟨K, by omega, nK, fun c hc => Classical.byContradiction (below c hc)⟩
theorem Tab.sooner (T : Tab t hs) {h : Int} {K i j : Nat} (nK : way t.mask h K ∉ t.place.toList) (hi : hs[i]? = some h) (hj : t.place.toList[i]? = some j) : ∃ k, k < K ∧ way t.mask h k = j := by
  obtain ⟨k, e, all⟩ := T.found i h j hi hj
  refine ⟨k, Nat.lt_of_not_le fun le => ?_, e⟩
  rcases Nat.lt_or_eq_of_le le with c | c
  · exact nK (all K c)
  · exact nK (by rw [c, e]; exact List.mem_of_getElem? hj)
/-- one more, at the first gap of its way -/
theorem Tab.one_more (T : Tab t hs) {h : Int} {K : Nat} (nK : way t.mask h K ∉ t.place.toList) (all : ∀ k, k < K → way t.mask h k ∈ t.place.toList) :
    SetTable.below t.place (way t.mask h K) ≤ hs.length ∧
    Tab (t.put (way t.mask h K)).1 (hs.take (SetTable.below t.place (way t.mask h K)) ++ h :: hs.drop (SetTable.below t.place (way t.mask h K))) ∧
    (t.put (way t.mask h K)).1.fill = hs.length + 1 := by
  have inside : way t.mask h K ≤ t.mask := way_in
  generalize ej : way t.mask h K = j at nK inside ⊢
  obtain ⟨low, _, _⟩ := below_cut T.up j
  have ps := T.size
  have lp : SetTable.below t.place j ≤ t.place.toList.length := by rw [Array.length_toList]; exact low
  have lh : SetTable.below t.place j ≤ hs.length := ps ▸ low
  have pl := put_place t j
  have keep : ∀ {x : Nat}, x ∈ t.place.toList → x ∈ (t.put j).1.place.toList := fun m => by rw [pl]; exact mem_ins.2 (.inr m)
  have sz : (t.put j).1.place.size = hs.length + 1 := by
    rw [← Array.length_toList, pl, len_ins _ lp, Array.length_toList, ps]
  have nw : t.place[SetTable.below t.place j]? ≠ some j := fun e => nK (List.mem_of_getElem? (by rw [Array.getElem?_toList]; exact e))
  refine ⟨lh, ?_, ?_⟩
  · constructor
    · exact ris_insert T.up nw
    · exact put_dm T.clean j
    · rw [len_ins _ lh]; exact sz
    · exact T.mask
    · intro x m
      rw [pl] at m
      rcases mem_ins.1 m with e | m
      · rw [e]; exact inside
      · exact T.le x m
    · intro i h' j' e1 e2
      rw [tins_get hs lh] at e1
      rw [pl, tins_get _ lp] at e2
      show ∃ k, way t.mask h' k = j' ∧ ∀ c, c < k → way t.mask h' c ∈ (t.put j).1.place.toList
      split at e1
      · rename_i c
        rw [if_pos c] at e2
        obtain ⟨k, e, z⟩ := T.found i h' j' e1 e2
        exact ⟨k, e, fun q hq => keep (z q hq)⟩
      · rename_i c
        rw [if_neg c] at e2
        split at e1
        · rename_i d
          rw [if_pos d] at e2
          cases e1
          cases e2
          exact ⟨K, ej, fun q hq => keep (all q hq)⟩
        · rename_i d
          rw [if_neg d] at e2
          obtain ⟨k, e, z⟩ := T.found (i - 1) h' j' e1 e2
          exact ⟨k, e, fun q hq => keep (z q hq)⟩
  · show (t.put j).1.place.size + (t.put j).1.dummies.size = hs.length + 1
    rw [put_dm T.clean j, sz] <;> rfl
end

/-! ### all laid anew -/
theorem gap_found {m : Nat} (g : MaskG m) (owner : Array (Option Nat)) (h : Int) {j : Nat} (hj : j ≤ m) (free : oAt owner j = none) :
    ∃ K, SetTable.layClean.free m owner (SetTable.turns m) (SetTable.bits h % (m + 1)) (SetTable.bits h) = some (way m h K) ∧ oAt owner (way m h K) = none ∧ ∀ k, k < K → oAt owner (way m h k) ≠ none := by
  obtain ⟨n, le, e⟩ := runs_come g h hj
  generalize hb : SetTable.bits h = b at e
  have st : way m h (off m (b % (m + 1)) b n) = j := by
    unfold way
    rw [hb, nth_off, itL_run]
    exact e
  have free' : oAt owner (way m h (off m (b % (m + 1)) b n)) = none := by rw [st]; exact free
  obtain ⟨K, leK, eK, below⟩ := st_least (p := fun k => oAt owner (way m h k) = none) _ free'
  have wb : ∀ k, way m h k = (nth m (runAt m (b % (m + 1)) b) k).j := fun k => by unfold way; rw [hb]
  refine ⟨K, ?_, eK, below⟩
  have q := free_spec m owner (SetTable.turns m) n (b % (m + 1)) b K (show n < m + 15 by omega) leK (fun k hk => ?_) ?_
  · rw [q, wb]
  · rw [← wb, Option.isNone_eq_false_iff, Option.isSome_iff_ne_none]
    exact below k hk
  · rw [← wb, eK] <;> rfl
theorem own_step {m : Nat} (g : MaskG m) {done : List Int} {owner : Array (Option Nat)} (W : Own m done owner) (few : done.length ≤ m) (h : Int) :
    ∃ j, SetTable.layClean.free m owner (SetTable.turns m) (SetTable.bits h % (m + 1)) (SetTable.bits h) = some j ∧ Own m (done ++ [h]) (owner.setIfInBounds j (some done.length)) := by
  obtain ⟨ps, lps, cov⟩ := W.ps
  obtain ⟨j0, lt0, nin⟩ := st_missing ps (m + 1) (by omega)
  have f0 : oAt owner j0 = none := Classical.byContradiction fun z => nin (cov j0 (Nat.le_of_lt_succ lt0) z)
  obtain ⟨K, got, fK, below⟩ := gap_found g owner h (Nat.le_of_lt_succ lt0) f0
  have le : way m h K ≤ m := way_in
  have osz := W.sz
  have self := oAt_set_self (owner := owner) (j := way m h K) (some done.length) (by omega)
  refine ⟨_, got, ?_⟩
  generalize ep : way m h K = p at got fK le self ⊢
  have more : ∀ {i : Nat}, oAt owner i ≠ none → oAt (owner.setIfInBounds p (some done.length)) i ≠ none := fun {i} ne => by
    by_cases c : i = p
    · subst c; rw [self]; exact Option.some_ne_none _
    · rw [oAt_set_ne _ c]; exact ne
  have osz2 : (owner.setIfInBounds p (some done.length)).size = m + 1 := by rw [Array.size_setIfInBounds]; exact osz
  constructor
  · exact osz2
  · intro j k hj e
    by_cases c : j = p
    · subst c
      rw [self] at e
      cases e
      exact ⟨h, K, by simp, ep, fun q hq => more (below q hq)⟩
    · rw [oAt_set_ne _ c] at e
      obtain ⟨x, k0, e1, e2, e3⟩ := W.at_ j k hj e
      have lt := (List.getElem?_eq_some_iff.mp e1).1
      exact ⟨x, k0, by rw [List.getElem?_append_left lt]; exact e1, e2, fun q hq => more (e3 q hq)⟩
  · intro k hk
    rcases Nat.lt_or_ge k done.length with c | c
    · obtain ⟨j, hj, e⟩ := W.all k c
      have np : j ≠ p := fun z => by rw [z, fK] at e; cases e
      exact ⟨j, hj, by rw [oAt_set_ne _ np]; exact e⟩
    · rw [List.length_append] at hk
      have ek : done.length = k := by
        have : [h].length = 1 := rfl
        omega
      exact ⟨p, le, by rw [self, ek]⟩
  · refine ⟨p :: ps, by simp [lps], fun j hj ne => ?_⟩
    by_cases c : j = p
    · exact c ▸ List.mem_cons_self
    · rw [oAt_set_ne _ c] at ne
      exact List.mem_cons_of_mem _ (cov j hj ne)
theorem lay_some {m : Nat} (g : MaskG m) : ∀ (rest done : List Int) (owner : Array (Option Nat)), Own m done owner → done.length + rest.length ≤ m →
    ∃ o2, rest.foldl (stepF m) (some (owner, done.length)) = some (o2, (done ++ rest).length) ∧ Own m (done ++ rest) o2 := by
  intro rest
  induction rest with
  | nil => intro done owner W _; exact ⟨owner, by simp, by simpa using W⟩
  | cons h rest ih =>
    intro done owner W le
    have l1 : (h :: rest).length = rest.length + 1 := rfl
    have l2 : (done ++ [h]).length = done.length + 1 := by simp
    obtain ⟨j, e, W2⟩ := own_step g W (by omega) h
    obtain ⟨o2, f, W3⟩ := ih (done ++ [h]) _ W2 (by omega)
    rw [l2] at f
    have ap : done ++ [h] ++ rest = done ++ h :: rest := by simp
    rw [ap] at f W3
    exact ⟨o2, by rw [List.foldl_cons, stepF_some e]; exact f, W3⟩
theorem lay_clean {m : Nat} (g : MaskG m) {hs : Array Int} (few : hs.size ≤ m) : ∃ owner, SetTable.layClean m hs = some owner ∧ Own m hs.toList owner := by
  obtain ⟨owner, f, W⟩ := lay_some g hs.toList [] _ (Own.init m) (by simpa using few)
  refine ⟨owner, ?_, by simpa using W⟩
  rw [layClean_eq, show (some (Array.replicate (m + 1) (none : Option Nat), 0)) = some (Array.replicate (m + 1) none, ([] : List Int).length) from rfl, f] <;> rfl
/-- the table laid anew -/
theorem laid_anew (t : SetTable) {hs : Array Int} {wanted M : Nat} (hw : SetTable.sizeAbove wanted - 1 = M) (g : MaskG M) (few : hs.size ≤ M) :
    ∃ t2 order, t.relaid hs wanted = some (t2, order) ∧ order.toList.Perm (List.range hs.size) ∧ Tab t2 (order.toList.map fun i => hs.getD i 0) ∧ t2.mask = M ∧ t2.led = t.led ∧ t2.plain = t.plain := by
  obtain ⟨owner, e, W⟩ := lay_clean g few
  have rel : t.relaid hs wanted = some (tabOf t M owner, ((liveOf M owner).map (·.2)).toArray) := by rw [relaid_eq, hw, e] <;> rfl
  obtain ⟨up, inr⟩ := ris_live (fun j => owner.getD j none) (List.range (M + 1)) (by unfold Ris; exact List.pairwise_lt_range)
  have up' : Ris ((liveOf M owner).map (·.1)) := up
  have inr' : ∀ x ∈ (liveOf M owner).map (·.1), x ∈ List.range (M + 1) := inr
  have dist : ((liveOf M owner).map (·.1)).Nodup := up'.imp fun lt => Nat.ne_of_lt lt
  have len : (liveOf M owner).length = hs.size := by
    obtain ⟨ps, lps, cov⟩ := W.ps
    have a : (liveOf M owner).length ≤ ps.length := by
      have z := nd_len ((liveOf M owner).map (·.1)) ps dist fun x hx => by
        obtain ⟨⟨y, k⟩, hq, ey⟩ := List.mem_map.mp hx
        cases ey
        obtain ⟨le, own⟩ := (mem_live W.sz).1 hq
        exact cov y le (by rw [own]; exact Option.some_ne_none _)
      rwa [List.length_map] at z
    have b : hs.size ≤ (liveOf M owner).length := by
      have z := nd_len (List.range hs.size) ((liveOf M owner).map (·.2)) List.nodup_range fun k hk => by
        obtain ⟨j, le, own⟩ := W.all k (by simpa using hk)
        exact List.mem_map.mpr ⟨(j, k), (mem_live W.sz).2 ⟨le, own⟩, rfl⟩
      rwa [List.length_map, List.length_range] at z
    have c : hs.toList.length = hs.size := rfl
    omega
  refine ⟨_, _, rel, ?_, ?_, rfl, rfl, rfl⟩
  · refine perm_range hs.size _ (by show ((liveOf M owner).map (·.2)).length = hs.size; rw [List.length_map, len]) fun k hk => ?_
    obtain ⟨j, le, own⟩ := W.all k (by simpa using hk)
    exact List.mem_map.mpr ⟨(j, k), (mem_live W.sz).2 ⟨le, own⟩, rfl⟩
  · constructor
    · exact up'
    · rfl
    · show ((liveOf M owner).map (·.1)).toArray.size = (((liveOf M owner).map (·.2)).map fun i => hs.getD i 0).length
      simp
    · exact g
    · intro x hx
      exact Nat.le_of_lt_succ (List.mem_range.mp (inr' x hx))
    · intro i h j e1 e2
      have e1' : (((liveOf M owner).map (·.2)).map fun i => hs.getD i 0)[i]? = some h := e1
      have e2' : ((liveOf M owner).map (·.1))[i]? = some j := e2
      rw [List.getElem?_map, List.getElem?_map] at e1'
      rw [List.getElem?_map] at e2'
      rcases hq : (liveOf M owner)[i]? with _ | ⟨y, k⟩
      · rw [hq] at e2'; cases e2'
      · rw [hq] at e1' e2'
        cases e2'
        have eh : hs.getD k 0 = h := Option.some.inj e1'
        obtain ⟨le, own⟩ := (mem_live W.sz).1 (List.mem_of_getElem? hq)
        obtain ⟨x, K, f1, f2, f3⟩ := W.at_ y k le own
        have ex : x = h := by
          rw [← eh, Array.getD_eq_getD_getElem?, ← Array.getElem?_toList, f1] <;> rfl
        subst ex
        refine ⟨K, f2, fun c hc => ?_⟩
        show way M x c ∈ (liveOf M owner).map (·.1)
        rcases z : oAt owner (way M x c) with _ | k2
        · exact absurd z (f3 c hc)
        · exact List.mem_map.mpr ⟨(way M x c, k2), (mem_live W.sz).2 ⟨way_in, z⟩, rfl⟩
/-- the size of a new table: a power of two above what is wanted -/
theorem size_go (n : Nat) : ∀ (f k : Nat), n < 2 ^ (k + f) → 3 ≤ k → (k = 3 ∨ 2 ^ (k - 1) ≤ n) → ∃ q, 3 ≤ q ∧ SetTable.sizeAbove.go n f (2 ^ k) = 2 ^ q ∧ n < 2 ^ q ∧ (q = 3 ∨ 2 ^ (q - 1) ≤ n)
  | 0, k, h, h3, c => ⟨k, h3, rfl, h, c⟩
  | f + 1, k, h, h3, c => by
    have e : SetTable.sizeAbove.go n (f + 1) (2 ^ k) = if 2 ^ k ≤ n then SetTable.sizeAbove.go n f (2 ^ k * 2) else 2 ^ k := rfl
    rw [e]
    by_cases le : 2 ^ k ≤ n
    · rw [if_pos le, ← Nat.pow_succ]
      exact size_go n f (k + 1) (by rw [show k + 1 + f = k + (f + 1) by omega]; exact h) (by omega) (.inr le)
    · rw [if_neg le]
      exact ⟨k, h3, rfl, by omega, c⟩
theorem size_above {n : Nat} (h : n ≤ 8191) : ∃ q, 3 ≤ q ∧ q ≤ 13 ∧ SetTable.sizeAbove n = 2 ^ q ∧ n < 2 ^ q := by
  obtain ⟨q, h3, e, lt, c⟩ := size_go n 64 3 (Nat.lt_of_le_of_lt h (by decide)) (Nat.le_refl _) (.inl rfl)
  refine ⟨q, h3, ?_, e, lt⟩
  rcases c with c | c
  · omega
  · refine Nat.le_of_not_lt fun z => ?_
    have y : 2 ^ 13 ≤ 2 ^ (q - 1) := Nat.pow_le_pow_right (by decide) (by omega)
    have x : (2 : Nat) ^ 13 = 8192 := by decide
    omega
end Sx

set_option linter.all false
set_option maxRecDepth 100000
/-! sets of tuples of ints and texts -/
namespace Sx
open PySem PySem.Spec PyProof.Rows L2

abbrev MixT (P : Program) (w : World) (h : Heap) (k : List Key) (a : Addr) : Prop := IsTupleKey (mixKind P w) h k a
abbrev mh (P : Program) (w : World) (k : List Key) : Int := tupleKeyHash (mixKind P w) k
/-- ints and texts: no class of the program's, hashed by value -/
def Flat (v : Value) : Prop := (∃ i t, v = Value.int i t) ∨ ∃ x t, v = Value.str x t
theorem Flat.noClass {v : Value} (n : Nat) (h : Flat v) : ofAClassStatement n v = pure false := by
  rcases h with ⟨i, t, rfl⟩ | ⟨x, t, rfl⟩ <;> cases n <;> rfl
theorem strNotByVal (n : Nat) (x : Str) (t : Tok) : hashByValue n (.str x t) = pure false := by
  unfold hashByValue; rfl
section
variable {P : Program} {w : World} {A : Around} {E : Value → Shared → Prop} {s : Shared}
theorem flat_items {k : List Key} {vs : List Value} (h : ItemsAre (mixKind P w) k vs) : ∀ v ∈ vs, Flat v := by
  induction h with
  | nil => exact fun v m => absurd m List.not_mem_nil
  | cons h1 _ ih =>
    intro v m
    rcases List.mem_cons.mp m with rfl | m
    · rcases keyIs_shape h1 with ⟨i, t, _, e⟩ | ⟨x, t, _, e⟩
      · exact .inl ⟨i, t, e⟩
      · exact .inr ⟨x, t, e⟩
    · exact ih v m
theorem noClass_mix {k : List Key} {b : Addr} {Q : Bool → Shared → Prop} (hk : MixT P w s.heap k b) (h : Q false s) : wpAny (model P w) A (ofAClassStatement 8 (.ref b)) Q E s := by
  have ty := hk.typeIs
  obtain ⟨o, items, n, ho, _, hd, hi⟩ := hk
  unfold ofAClassStatement
  refine wpAny_bind (wpAny_typeOf ty ?_)
  dsimp only
  simp only [show (("tuple" : String) == "tuple") = true from by decide, if_true, Bool.not_true, Bool.false_eq_true, if_false]
  try refine wpAny_bind (wpAny_pure ?_)
  try simp only [Bool.not_true, Bool.false_eq_true, if_false]
  refine wpAny_bind (show wpAny _ _ (seqItems? (.ref b)) _ _ s from wpAny_seqItems ho hd ?_)
  dsimp only
  refine wpAny_bind (show wpAny _ _ (forIn items _ _) _ _ s from ?_)
  rw [← Array.forIn_toList]
  refine wpAny_forIn_list _ (fun rest r s' => s' = s ∧ r.1 = none ∧ ∀ v ∈ rest, Flat v) _ ?_ ?_ _ _ ⟨rfl, rfl, flat_items hi⟩
  · rintro v rest r s' ⟨rfl, hr, all⟩
    rw [(all v List.mem_cons_self).noClass]
    refine wpAny_bind (wpAny_pure ?_)
    simp only [Bool.false_eq_true, if_false]
    exact wpAny_pure ⟨rfl, rfl, fun u m => all u (List.mem_cons_of_mem _ m)⟩
  · rintro ⟨r1, r2⟩ s' ⟨rfl, hr, _⟩
    cases (show r1 = none from hr)
    exact wpAny_pure h
theorem byVal_mix {k : List Key} {b : Addr} {Q : Bool → Shared → Prop} (hk : MixT P w s.heap k b) (h : ∀ c, Q c s) : wpAny (model P w) A (hashByValue 8 (.ref b)) Q E s := by
  have ty := hk.typeIs
  obtain ⟨o, items, n, ho, _, hd, hi⟩ := hk
  unfold hashByValue
  refine wpAny_bind (wpAny_specialOf ty F.slot_tuple_hash.lookup ?_)
  refine wpAny_bind (show wpAny _ _ (seqItems? (.ref b)) _ _ s from wpAny_seqItems ho hd ?_)
  refine wpAny_bind (show wpAny _ _ (forIn items _ _) _ _ s from ?_)
  rw [← Array.forIn_toList]
  refine wpAny_forIn_list _ (fun rest r s' => s' = s ∧ r.1 = none ∧ ∀ v ∈ rest, Flat v) _ ?_ ?_ _ _ ⟨rfl, rfl, flat_items hi⟩
  · rintro v rest r s' ⟨rfl, hr, all⟩
    rcases all v List.mem_cons_self with ⟨i, t, rfl⟩ | ⟨x, t, rfl⟩
    · rw [hashBy_int]
      refine wpAny_bind (wpAny_pure ?_)
      simp only [Bool.not_true, Bool.false_eq_true, if_false]
      exact wpAny_pure ⟨rfl, rfl, fun u m => all u (List.mem_cons_of_mem _ m)⟩
    · rw [strNotByVal]
      refine wpAny_bind (wpAny_pure ?_)
      simp only [Bool.not_false, if_true]
      exact wpAny_pure (wpAny_pure (h false))
  · rintro ⟨r1, r2⟩ s' ⟨rfl, hr, _⟩
    cases (show r1 = none from hr)
    exact wpAny_pure (h true)
/-- a search among such tuples shows nothing -/
theorem unseen_mix {k : List Key} {b : Addr} {Q : Bool → Shared → Prop} (hk : MixT P w s.heap k b) {ys : List Value} (hy : ∀ y ∈ ys, ∃ k2 c, y = Value.ref c ∧ MixT P w s.heap k2 c) (h : Q false s) :
    wpAny (model P w) A (searchCouldBeSeen (.ref b) ys) Q E s := by
  unfold searchCouldBeSeen
  refine wpAny_bind (wpAny_forIn_list _ (fun rest r s' => s' = s ∧ r.1 = none ∧ ∀ y ∈ rest, ∃ k2 c, y = Value.ref c ∧ MixT P w s.heap k2 c) _ ?_ ?_ _ _ ⟨rfl, rfl, hy⟩)
  · rintro v rest r s' ⟨rfl, hr, all⟩
    obtain ⟨k2, c, rfl, hc⟩ := all v List.mem_cons_self
    have all2 := fun u m => all u (List.mem_cons_of_mem (Value.ref c) m)
    dsimp only
    by_cases hv : (b == c || (carriedByValue (.ref b) && carriedByValue (.ref c))) = true
    · exact wp_if_pos hv (wpAny_pure ⟨rfl, rfl, all2⟩)
    · refine wp_if_neg hv (wpAny_bind (wpAny_eqIsQuiet_tuple hk ?_))
      simp only [Bool.not_true, Bool.false_eq_true, if_false]
      refine wpAny_bind (wpAny_eqIsQuiet_tuple hc ?_)
      simp only [Bool.not_true, Bool.false_eq_true, if_false]
      refine wpAny_bind (noClass_mix hk ?_)
      simp only [Bool.false_eq_true, if_false]
      refine wpAny_bind (noClass_mix hc ?_)
      simp only [Bool.false_eq_true, if_false]
      exact wpAny_pure ⟨rfl, rfl, all2⟩
  · rintro ⟨r1, r2⟩ s' ⟨rfl, hr, _⟩
    cases (show r1 = none from hr)
    exact wpAny_pure h

/-! ### what the set is -/
abbrev Rows := List (Addr × List Key)
def cells (P : Program) (w : World) (L : Rows) : List (Int × Value) := L.map fun p => (mh P w p.2, Value.ref p.1)
theorem cells_len (L : Rows) : (cells P w L).length = L.length := List.length_map ..
structure MSet (P : Program) (w : World) (h : Heap) (a : Addr) (L : Rows) (es : Array (Int × Value)) (ep : Nat) (t : SetTable) : Prop where
  ob : ∃ o, h.get? a = some o ∧ o.ExactSet ∧ o.data = .set es ep t
  rows : es.toList = cells P w L
  tab : Tab t (L.map fun p => mh P w p.2)
  nd : (L.map (·.2)).Nodup
  tup : ∀ p ∈ L, MixT P w h p.2 p.1
  led : w.params.followText "set-order" = true ∨ t.led = true
  room : L.length * 5 < t.mask * 3
  few : L.length ≤ 2000
variable {a : Addr} {L : Rows} {es : Array (Int × Value)} {ep : Nat} {t : SetTable}
theorem cells_size (r : es.toList = cells P w L) : es.size = L.length := by
  rw [← Array.length_toList, r, cells_len]
theorem MSet.fits (R : MSet P w s.heap a L es ep t) : t.fits es.size = true := by
  have ts := R.tab.size
  have room := R.room
  rw [List.length_map] at ts
  rw [cells_size R.rows]
  unfold SetTable.fits SetTable.fill
  rw [R.tab.clean]
  simp
  omega
theorem cells_at (r : es.toList = cells P w L) {i : Nat} {p : Addr × List Key} (h : L[i]? = some p) : es[i]? = some (mh P w p.2, Value.ref p.1) := by
  rw [← Array.getElem?_toList, r]
  unfold cells
  rw [List.getElem?_map, h] <;> rfl
theorem MSet.steady (R : MSet P w s.heap a L es ep t) : ¬ t.gaveWay = true := by
  unfold SetTable.gaveWay
  rw [R.tab.mask.odd]
  decide

/-- the probe's start for a hash -/
abbrev pst (t : SetTable) (h : Int) (c : Nat) : SetTable.Probe := nth t.mask (runAt t.mask (SetTable.bits h % (t.mask + 1)) (SetTable.bits h)) c
theorem pst_add (t : SetTable) (h : Int) (c q : Nat) : nth t.mask (pst t h c) q = pst t h (c + q) := (nth_add t.mask c _ q).symm
theorem pst_j (t : SetTable) (h : Int) (c q : Nat) : (nth t.mask (pst t h c) q).j = way t.mask h (c + q) := by rw [pst_add]
theorem pst_free (t : SetTable) (h : Int) : ∀ c, (pst t h c).dummy = none := by
  intro c
  induction c with
  | zero => rfl
  | succ c ih =>
    rw [← pst_add t h c 1]
    show (adv t.mask (pst t h c)).dummy = none
    unfold adv
    split <;> exact ih

/-- the search from the c-th step of its way on -/
theorem find_from (R : MSet P w s.heap a L es ep t) {x : Addr} {k : List Key} (hx : MixT P w s.heap k x) (hu : A.units < cLine) {K : Nat} (hf : K < 10 * SetTable.turns t.mask)
    (nK : way t.mask (mh P w k) K ∉ t.place.toList) (low : ∀ c, c < K → way t.mask (mh P w k) c ∈ t.place.toList) {Q : SetFound → Shared → Prop}
    (yes : k ∈ L.map (·.2) → Q (.there none) s) (no : k ∉ L.map (·.2) → Q (.free (way t.mask (mh P w k) K) false) s) :
    ∀ (f c : Nat) (stand : Option SetTable.Probe), stand.getD (t.probeStart (mh P w k)) = pst t (mh P w k) c → c ≤ K → K - c < f →
      (∀ (i : Nat) p, L[i]? = some p → p.2 = k → ∃ q, c ≤ q ∧ q < K ∧ t.place.toList[i]? = some (way t.mask (mh P w k) q)) →
      wpAny (model P w) A (setSearchFrom a (.ref x) (mh P w k) true f stand) Q E s := by
  intro f
  induction f with
  | zero => intro c _ _ _ z; exact absurd z (Nat.not_lt_zero _)
  | succ f ih =>
    intro c stand st le lt reach
    obtain ⟨o, ho, _, hd⟩ := R.ob
    rw [setSearchFrom_succ]
    refine wpAny_bind (wpAny_setState_of ho hd R.fits ?_)
    dsimp only
    refine wp_if_neg R.steady ?_
    try refine wpAny_bind (wpAny_pure ?_)
    have hashes : ∀ (i : Nat) p, L[i]? = some p → (fun i => (es[i]?.map (·.1)).getD 0) i = mh P w p.2 := fun i p e => by
      show (es[i]?.map (·.1)).getD 0 = _
      rw [cells_at R.rows e] <;> rfl
    rcases go_spec t R.tab.up R.tab.clean (fun i => (es[i]?.map (·.1)).getD 0) (mh P w k) (10 * SetTable.turns t.mask) (K - c) (pst t (mh P w k) c) (pst_free ..) (by omega)
      (fun q hq => by rw [pst_j]; exact low _ (by omega)) (by rw [pst_j, show c + (K - c) = K by omega]; exact nK) with ⟨q, i, hq, at_, same, before, pr⟩ | ⟨before, pr⟩
    · rw [pst_j] at at_ pr
      rw [pst_add] at pr
      have met : t.probe (fun i => (es[i]?.map (·.1)).getD 0) (mh P w k) (stand.getD (t.probeStart (mh P w k))) = some (.candidate (way t.mask (mh P w k) (c + q)) i (pst t (mh P w k) (c + (q + 1)))) := by
        rw [st]; exact pr
      rw [met]
      dsimp only
      have il : i < L.length := by
        have z1 := (List.getElem?_eq_some_iff.mp at_).1
        have z2 := R.tab.size
        rw [List.length_map] at z2
        rw [Array.length_toList, z2] at z1
        exact z1
      obtain ⟨p, ep'⟩ : ∃ p, L[i]? = some p := ⟨_, List.getElem?_eq_getElem il⟩
      have pm := List.mem_of_getElem? ep'
      have live : t.slot (way t.mask (mh P w k) (c + q)) = .live i := slot_live R.tab.up at_
      have go : wpAny (model P w) A (searchRest a (.ref x) (mh P w k) true f es t (way t.mask (mh P w k) (c + q)) i (pst t (mh P w k) (c + (q + 1)))) Q E s := by
        unfold searchRest
        rw [cells_at R.rows ep']
        dsimp only
        refine wpAny_bind (wpAny_holding (wpAny_eqBool_tuple hu (R.tup p pm) hx ?_))
        refine wpAny_bind (wpAny_setState_of ho hd R.fits ?_)
        dsimp only
        by_cases ek : p.2 = k
        · exact wp_if_pos (by simp [ek]) (wpAny_pure (yes (List.mem_map.mpr ⟨p, pm, ek⟩)))
        · refine wp_if_neg (by simp [ek]) ?_
          try refine wpAny_bind (wpAny_pure ?_)
          rw [sameMem]
          dsimp only
          simp only [if_true, live, cells_at R.rows ep']
          refine wpAny_bind (wpAny_isSame_ref_self (wpAny_bind (wpAny_pure ?_)))
          simp only [if_true]
          refine wp_if_neg (by simp [ek]) (ih (c + (q + 1)) _ rfl (by omega) (by omega) fun i0 p0 h0 k0 => ?_)
          obtain ⟨d, d1, d2, d3⟩ := reach i0 p0 h0 k0
          refine ⟨d, Nat.lt_of_not_le fun (z : d ≤ c + q) => ?_, d2, d3⟩
          rcases Nat.lt_or_eq_of_le z with z | z
          · refine before (d - c) i0 (by omega) (by rw [pst_j, show c + (d - c) = d by omega]; exact d3) ?_
            exact (hashes i0 p0 h0).trans (by rw [k0])
          · rw [z] at d3
            have l2 := slot_live R.tab.up d3
            rw [live] at l2
            injection l2 with l2
            rw [← l2, ep'] at h0
            cases h0
            exact ek k0
      by_cases hl : t.led = true
      · refine wp_if_neg (by simp [hl]) ?_
        try refine wpAny_bind (wpAny_pure ?_)
        exact go
      · refine wp_if_pos (by simp [hl]) (wpAny_bind (unseen_mix hx (fun y hy => ?_) ?_))
        · obtain ⟨e, he, rfl⟩ := List.mem_map.mp hy
          have he2 : e ∈ es.toList := by
            have z : e ∈ es ∧ e.1 = mh P w k := by simpa using he
            simpa using z.1
          rw [R.rows] at he2
          obtain ⟨p2, hp2, rfl⟩ := List.mem_map.mp he2
          exact ⟨p2.2, p2.1, rfl, R.tup p2 hp2⟩
        · refine wp_if_neg (by decide) ?_
          try refine wpAny_bind (wpAny_pure ?_)
          exact go
    · rw [pst_j, show c + (K - c) = K by omega] at pr
      have met : t.probe (fun i => (es[i]?.map (·.1)).getD 0) (mh P w k) (stand.getD (t.probeStart (mh P w k))) = some (.empty (way t.mask (mh P w k) K) none) := by
        rw [st]; exact pr
      rw [met]
      dsimp only
      refine wpAny_pure (no fun m => ?_)
      obtain ⟨p0, h0, k0⟩ := List.mem_map.mp m
      obtain ⟨i0, _, e0⟩ := List.getElem_of_mem h0
      have at0 : L[i0]? = some p0 := by rw [← e0]; exact List.getElem?_eq_getElem _
      obtain ⟨d, d1, d2, d3⟩ := reach i0 p0 at0 k0
      refine before (d - c) i0 (by omega) (by rw [pst_j, show c + (d - c) = d by omega]; exact d3) ?_
      exact (hashes i0 p0 at0).trans (by rw [k0])
theorem find_at (R : MSet P w s.heap a L es ep t) {x : Addr} {k : List Key} (hx : MixT P w s.heap k x) (hu : A.units < cLine) {Q : SetFound → Shared → Prop}
    (yes : k ∈ L.map (·.2) → Q (.there none) s)
    (no : ∀ K, k ∉ L.map (·.2) → way t.mask (mh P w k) K ∉ t.place.toList → (∀ c, c < K → way t.mask (mh P w k) c ∈ t.place.toList) → Q (.free (way t.mask (mh P w k) K) false) s) :
    wpAny (model P w) A (setSearch a (.ref x) (mh P w k) true) Q E s := by
  have room := R.room
  obtain ⟨K, hf, nK, low⟩ := R.tab.gap (by rw [List.length_map]; omega) (mh P w k)
  have top := R.tab.mask.top
  have tn : SetTable.turns t.mask = t.mask + 15 := rfl
  unfold setSearch
  refine find_from R hx hu hf nK low yes (fun m => no K m nK low) 100000 0 none rfl (Nat.zero_le _) (by omega) fun i p hp hk => ?_
  have il := (List.getElem?_eq_some_iff.mp hp).1
  have z2 := R.tab.size
  rw [List.length_map] at z2
  have at_ : t.place.toList[i]? = some (t.place.toList[i]'(by rw [Array.length_toList, z2]; exact il)) := List.getElem?_eq_getElem _
  have hi : (L.map fun p => mh P w p.2)[i]? = some (mh P w k) := by rw [List.getElem?_map, hp, ← hk] <;> rfl
  obtain ⟨c, hc, e⟩ := R.tab.sooner nK hi at_
  exact ⟨c, Nat.zero_le _, hc, by rw [at_, e]⟩
end
end Sx

set_option linter.all false
set_option maxRecDepth 100000
/-! adding to a set of tuples -/
namespace Sx
open PySem PySem.Spec PyProof.Rows L2
section
variable {P : Program} {w : World} {A : Around} {E : Value → Shared → Prop} {s : Shared}
theorem mix_other {h h' : Heap} {k : List Key} {a b : Addr} {o : Obj} {es : Array (Int × Value)} {ep : Nat} {t : SetTable} (hb : MixT P w h k b) (ho : h.get? a = some o) (hd : o.data = .set es ep t) (sb : Heap.SameBut a h h') : MixT P w h' k b := by
  obtain ⟨ob, items, n, hob, hc, hod, hi⟩ := hb
  refine ⟨ob, items, n, ?_, hc, hod, hi⟩
  rw [sb.2 b ?_, hob]
  intro e
  subst e
  rw [hob] at ho
  cases ho
  rw [hod] at hd
  cases hd
theorem cells_put (L : Rows) (p : Nat) (x : Addr) (k : List Key) : cells P w (L.take p ++ (x, k) :: L.drop p) = (cells P w L).take p ++ (mh P w k, Value.ref x) :: (cells P w L).drop p := by
  simp [cells, List.map_take, List.map_drop]
theorem pick_all {α : Type} (L : List α) : (List.range L.length).filterMap (fun i => L[i]?) = L := by
  induction L with
  | nil => rfl
  | cons x L ih =>
    rw [List.length_cons, List.range_succ_eq_map, List.filterMap_cons_some (show (x :: L)[0]? = some x from rfl), List.filterMap_map]
    exact congrArg (x :: ·) ih
theorem cells_order (L : Rows) (es : Array (Int × Value)) (order : Array Nat) (r : es.toList = cells P w L) (pm : order.toList.Perm (List.range L.length)) :
    ∃ L2, (order.filterMap (es[·]?)).toList = cells P w L2 ∧ L2.Perm L ∧ (L2.map fun p => mh P w p.2) = order.toList.map fun i => (es.map (·.1)).getD i 0 := by
  have at_ : ∀ (i : Nat) (h : i < L.length), es[i]? = some (mh P w L[i].2, Value.ref L[i].1) := fun i h => cells_at r (List.getElem?_eq_getElem h)
  refine ⟨order.toList.filterMap fun i => L[i]?, ?_, ?_, ?_⟩
  · rw [Array.toList_filterMap]
    have all : ∀ i ∈ order.toList, i < L.length := fun i m => List.mem_range.mp (pm.mem_iff.mp m)
    revert all
    generalize order.toList = l
    intro all
    induction l with
    | nil => rfl
    | cons i l ih =>
      have hi := all i List.mem_cons_self
      rw [List.filterMap_cons_some (at_ i hi), List.filterMap_cons_some (List.getElem?_eq_getElem hi), ih fun j m => all j (List.mem_cons_of_mem _ m)] <;> rfl
  · have z := pm.filterMap (fun i => L[i]?)
    rw [pick_all] at z
    exact z
  · have all : ∀ i ∈ order.toList, i < L.length := fun i m => List.mem_range.mp (pm.mem_iff.mp m)
    revert all
    generalize order.toList = l
    intro all
    induction l with
    | nil => rfl
    | cons i l ih =>
      have hi := all i List.mem_cons_self
      rw [List.filterMap_cons_some (List.getElem?_eq_getElem hi), List.map_cons, List.map_cons, ih fun j m => all j (List.mem_cons_of_mem _ m)]
      congr 1
      have z : (es.map (·.1))[i]? = some (mh P w L[i].2) := by rw [Array.getElem?_map, at_ i hi] <;> rfl
      rw [Array.getD_eq_getD_getElem?, z] <;> rfl

variable {a : Addr} {L : Rows} {es : Array (Int × Value)} {ep : Nat} {t : SetTable}
/-- a full table is laid anew -/
theorem relay_mix {o : Obj} (ho : s.heap.get? a = some o) (ex : o.ExactSet) (hd : o.data = .set es ep t) (rows : es.toList = cells P w L) (T : Tab t (L.map fun p => mh P w p.2)) (fill : es.size ≤ t.mask)
    (nd : (L.map (·.2)).Nodup) (tup : ∀ p ∈ L, MixT P w s.heap p.2 p.1) (ld : w.params.followText "set-order" = true ∨ t.led = true) (few : L.length ≤ 2000) (pos : 1 ≤ L.length) {Q : Unit → Shared → Prop}
    (hQ : ∀ h' L2 es2 ep2 t2, Heap.SameBut a s.heap h' → MSet P w h' a L2 es2 ep2 t2 → L2.Perm L → Q () { s with heap := h' }) : wpAny (model P w) A (setRelay a (SetTable.grown L.length)) Q E s := by
  have n1 := cells_size rows
  have gr : SetTable.grown L.length = L.length * 4 := by
    unfold SetTable.grown
    rw [if_neg (by omega)]
  obtain ⟨q, q3, q13, sz, above⟩ := size_above (n := SetTable.grown L.length) (by rw [gr]; omega)
  have two : 2 ^ q ≤ 2 ^ 13 := Nat.pow_le_pow_right (by decide) q13
  have c13 : (2 : Nat) ^ 13 = 8192 := by decide
  have ps := T.size
  rw [List.length_map] at ps
  have fits : t.fits es.size = true := by
    unfold SetTable.fits SetTable.fill
    rw [T.clean]
    simp
    omega
  obtain ⟨t2, order, e, pm, T2, em, el, _⟩ := laid_anew t (hs := es.map (·.1)) (wanted := SetTable.grown L.length) (M := 2 ^ q - 1) (by rw [sz]) ⟨q, q3, q13, by omega⟩ (by rw [Array.size_map, n1]; omega)
  rw [Array.size_map, n1] at pm
  obtain ⟨L2, r2, p2, m2⟩ := cells_order L es order rows pm
  rw [← m2] at T2
  have n2 : (order.filterMap (es[·]?)).size = es.size := by
    rw [cells_size r2, p2.length_eq, n1]
  rw [setRelay_eq]
  refine wpAny_bind (wpAny_setState_of ho hd fits ?_)
  dsimp only
  refine wp_if_neg (by rw [sz, sizeLine_eq]; omega) ?_
  try refine wpAny_bind (wpAny_pure ?_)
  rw [e]
  dsimp only
  refine wpAny_bind (wp_if_neg (by rw [n2]; simp) ?_)
  try refine wpAny_bind (wpAny_pure ?_)
  refine wpAny_pure ?_
  dsimp only
  have sb : Heap.SameBut a s.heap (s.heap.update a (Obj.putSet (order.filterMap (es[·]?)) t2)) := Heap.SameBut.update ..
  refine wpAny_storeSet_of ho hd (hQ _ L2 (order.filterMap (es[·]?)) (ep + 1) t2 sb ?_ p2) (by rw [n2, n1, sizeLine_eq]; omega)
  constructor
  · exact ⟨_, store_at ho hd, ⟨ex.1, ex.2.1, ex.2.2⟩, rfl⟩
  · exact r2
  · exact T2
  · exact (p2.map (·.2)).nodup_iff.mpr nd
  · exact fun p m => mix_other (tup p (p2.mem_iff.mp m)) ho hd sb
  · rw [el]; exact ld
  · rw [p2.length_eq, em]; omega
  · rw [p2.length_eq]; exact few
/-- one tuple is put in -/
theorem add_mix (R : MSet P w s.heap a L es ep t) {x : Addr} {k : List Key} (hx : MixT P w s.heap k x) (hu : A.units < cLine) (few : L.length + 1 ≤ 2000) {Q : Bool → Shared → Prop}
    (hQ : ∀ b h' L2 es2 ep2 t2, Heap.SameBut a s.heap h' → MSet P w h' a L2 es2 ep2 t2 → (k ∈ L.map (·.2) → L2 = L) → (k ∉ L.map (·.2) → L2.Perm ((x, k) :: L)) → Q b { s with heap := h' }) :
    wpAny (model P w) A (setAddHashed a (.ref x) (mh P w k)) Q E s := by
  obtain ⟨o, ho, ex, hd⟩ := R.ob
  have n1 := cells_size R.rows
  have room := R.room
  unfold setAddHashed
  refine wpAny_holding ?_
  rw [show (100000 : Nat) = 99999 + 1 from rfl, setAddHashedIn_succ]
  refine wpAny_bind (wpAny_setState_of ho hd R.fits ?_)
  dsimp only
  refine wp_if_neg (by simp [byScan, Value.scannable]) ?_
  try refine wpAny_bind (wpAny_pure ?_)
  refine wpAny_bind (find_at R hx hu (fun m => ?_) fun K m nK low => ?_)
  · dsimp only
    exact wpAny_pure (hQ false s.heap L es ep t (Heap.SameBut.refl a s.heap) R (fun _ => rfl) fun z => absurd m z)
  · dsimp only
    refine wpAny_bind (wpAny_setState_of ho hd R.fits ?_)
    dsimp only
    obtain ⟨le, T1, fl⟩ := R.tab.one_more nK low
    have snd : (t.put (way t.mask (mh P w k) K)).2 = SetTable.below t.place (way t.mask (mh P w k) K) := rfl
    have msk : (t.put (way t.mask (mh P w k) K)).1.mask = t.mask := rfl
    have ledE : (t.put (way t.mask (mh P w k) K)).1.led = t.led := rfl
    rw [List.length_map] at le fl
    generalize t.put (way t.mask (mh P w k) K) = pt at T1 fl snd msk ledE ⊢
    obtain ⟨t1, p⟩ := pt
    dsimp only at T1 fl snd msk ledE ⊢
    rw [← snd] at le T1
    have perm : (L.take p ++ (x, k) :: L.drop p).Perm ((x, k) :: L) := put_perm L p (x, k)
    have len := perm.length_eq
    rw [List.length_cons] at len
    have hs : (L.take p ++ (x, k) :: L.drop p).map (fun p => mh P w p.2) = (L.map fun p => mh P w p.2).take p ++ mh P w k :: (L.map fun p => mh P w p.2).drop p := by
      rw [List.map_append, List.map_cons, List.map_take, List.map_drop]
    rw [← hs] at T1
    have rows1 : (SetTable.insertAt es p (mh P w k, Value.ref x)).toList = cells P w (L.take p ++ (x, k) :: L.drop p) := by
      rw [SetTable.toList_insertAt, cells_put, R.rows]
    have nd1 : ((L.take p ++ (x, k) :: L.drop p).map (·.2)).Nodup := (perm.map (·.2)).nodup_iff.mpr (by rw [List.map_cons]; exact List.nodup_cons.mpr ⟨m, R.nd⟩)
    generalize SetTable.insertAt es p (mh P w k, Value.ref x) = es1 at rows1 ⊢
    generalize L.take p ++ (x, k) :: L.drop p = L1 at perm len T1 rows1 nd1
    have n2 := cells_size rows1
    have rest : ∀ t2 : SetTable, t2.place = t1.place → t2.dummies = t1.dummies → t2.mask = t1.mask → t2.led = t1.led → wpAny (model P w) A (do
        storeSet a es1 t2
        if (!false && t2.tooFull) = true then setRelay a (SetTable.grown (es.size + 1))
        return true) Q E s := fun t2 e1 e2 e3 e4 => by
      have T2 : Tab t2 (L1.map fun p => mh P w p.2) := by
        refine ⟨by rw [e1]; exact T1.up, by rw [e2]; exact T1.clean, by rw [e1]; exact T1.size, by rw [e3]; exact T1.mask, by rw [e1, e3]; exact T1.le, ?_⟩
        rw [e1, e3]
        exact T1.found
      have fl2 : t2.fill = L.length + 1 := by rw [← fl]; unfold SetTable.fill; rw [e1, e2]
      have ld2 : w.params.followText "set-order" = true ∨ t2.led = true := by rw [e4, ledE]; exact R.led
      refine wpAny_bind (wpAny_storeSet_of ho hd ?_ (by rw [n2, len, sizeLine_eq]; omega))
      have sb : Heap.SameBut a s.heap (s.heap.update a (Obj.putSet es1 t2)) := Heap.SameBut.update ..
      have ho1 := store_at (es' := es1) (t' := t2) ho hd
      generalize s.heap.update a (Obj.putSet es1 t2) = h1 at sb ho1 ⊢
      have tup1 : ∀ q ∈ L1, MixT P w h1 q.2 q.1 := fun q hq => by
        rcases List.mem_cons.mp (perm.mem_iff.mp hq) with e | hq
        · rw [e]; exact mix_other hx ho hd sb
        · exact mix_other (R.tup q hq) ho hd sb
      by_cases full : t2.tooFull = true
      · have big := full
        unfold SetTable.tooFull at big
        rw [decide_eq_true_eq, fl2, e3, msk] at big
        rw [n1]
        have go : wpAny (model P w) A (setRelay a (SetTable.grown (L.length + 1))) (fun _ s' => wpAny (model P w) A (pure true) Q E s') E { s with heap := h1 } := by
          rw [← len]
          refine relay_mix (s := { s with heap := h1 }) ho1 ⟨ex.1, ex.2.1, ex.2.2⟩ rfl rows1 T2 (by rw [n2, len, e3, msk]; omega) nd1 tup1 ld2 (by omega) (by omega) ?_
          intro h2 L2 es2 ep2 t3 sb2 R2 p2
          exact wpAny_pure (hQ true h2 L2 es2 ep2 t3 (sb.trans sb2) R2 (fun z => absurd z m) fun _ => p2.trans perm)
        first
          | exact wpAny_bind (wp_if_pos (by simp [full]) go)
          | exact wp_if_pos (by simp [full]) (wpAny_bind go)
      · have small := full
        unfold SetTable.tooFull at small
        rw [decide_eq_true_eq, fl2, e3, msk] at small
        have fin : Q true { s with heap := h1 } := hQ true h1 L1 es1 (ep + 1) t2 sb ⟨⟨_, ho1, ⟨ex.1, ex.2.1, ex.2.2⟩, rfl⟩, rows1, T2, nd1, tup1, ld2, by rw [len, e3, msk]; omega, by omega⟩ (fun z => absurd z m) fun _ => perm
        first
          | exact wp_if_neg (by simp [full]) (wpAny_pure fin)
          | exact wpAny_bind (wp_if_neg (by simp [full]) (wpAny_pure (wpAny_pure fin)))
    have both : ∀ c : Bool, wpAny (model P w) A (do
        storeSet a es1 (if c = true then t1 else { t1 with plain := false })
        if (!false && (if c = true then t1 else { t1 with plain := false }).tooFull) = true then setRelay a (SetTable.grown (es.size + 1))
        return true) Q E s := fun c => by
      cases c
      · exact rest _ rfl rfl rfl rfl
      · exact rest _ rfl rfl rfl rfl
    by_cases pl : t1.plain = true
    · first
        | exact wpAny_bind (wp_if_pos pl (byVal_mix hx fun c => both c))
        | exact wp_if_pos pl (wpAny_bind (byVal_mix hx fun c => both c))
    · first
        | exact wpAny_bind (wp_if_neg pl (wpAny_pure (both true)))
        | exact wp_if_neg pl (wpAny_bind (wpAny_pure (both true)))
end
end Sx

set_option linter.all false
set_option maxRecDepth 100000
set_option maxHeartbeats 2000000
/-! {elt for target in iter if ..}, elt a tuple of ints and texts -/
namespace Sx
open PySem PySem.Spec PyProof.Rows L2

/-- the set at a; its tuples are things of their own -/
def MSet0 (P : Program) (w : World) (h : Heap) (a : Addr) (L : Rows) : Prop :=
  ∃ (es : Array (Int × Value)) (ep : Nat) (t : SetTable), (∃ o, h.get? a = some o ∧ o.ExactSet ∧ o.data = .set es ep t) ∧ es.toList = cells P w L ∧ Tab t (L.map fun p => mh P w p.2) ∧ (L.map (·.2)).Nodup ∧
    (w.params.followText "set-order" = true ∨ t.led = true) ∧ L.length * 5 < t.mask * 3 ∧ L.length ≤ 2000
def MSetO (P : Program) (w : World) (a : Addr) (L : Rows) : HO := .ext fun h => MSet0 P w h a L
/-- the rows' tuples are tracked -/
def TupsIn (H : Hp) (L : Rows) : Prop := ∀ p ∈ L, H p.1 = some (.tup (p.2.map kV))
section
variable {P : Program} {w : World} {H : Hp} {h : Heap} {a : Addr} {L : Rows}
theorem MSet.bare {es : Array (Int × Value)} {ep : Nat} {t : SetTable} (R : MSet P w h a L es ep t) : MSet0 P w h a L := ⟨es, ep, t, R.ob, R.rows, R.tab, R.nd, R.led, R.room, R.few⟩
theorem MSet0.full (R : MSet0 P w h a L) (ht : ∀ p ∈ L, MixT P w h p.2 p.1) : ∃ es ep t, MSet P w h a L es ep t := by
  obtain ⟨es, ep, t, h1, h2, h3, h4, h5, h6, h7⟩ := R
  exact ⟨es, ep, t, h1, h2, h3, h4, ht, h5, h6, h7⟩
theorem MSet0.ok (R : MSet0 P w h a L) : ObjOk P w H h a (MSetO P w a L) := by
  obtain ⟨es, ep, t, ⟨o, ho, r⟩, q⟩ := R
  refine ⟨⟨es, ep, t, ⟨o, ho, r⟩, q⟩, ⟨o, ho⟩, ?_⟩
  rintro h1 h2 ⟨es', ep', t', ⟨o', ho', r'⟩, q'⟩ k
  exact ⟨es', ep', t', ⟨o', k o' ho', r'⟩, q'⟩
theorem mset_fresh (ho : h.get? a = some { cls := .type "set", dict := none, data := .set #[] 0 (.fresh 0 0 (!w.params.followText "set-order")) }) : MSet0 P w h a [] := by
  refine ⟨#[], 0, .fresh 0 0 (!w.params.followText "set-order"), ⟨_, ho, ⟨rfl, rfl, rfl⟩, rfl⟩, rfl, ?_, List.nodup_nil, ?_, ?_, by decide⟩
  · constructor
    · exact List.Pairwise.nil
    · rfl
    · rfl
    · exact ⟨3, by decide, by decide, rfl⟩
    · exact fun x m => absurd m (by show x ∉ ([] : List Nat); simp)
    · exact fun i h j e => absurd e (by simp)
  · show _ ∨ (!w.params.followText "set-order") = true
    cases w.params.followText "set-order"
    · exact .inr rfl
    · exact .inl rfl
  · show 0 * 5 < 7 * 3
    decide
end
section
variable {X : Cx} {pins : List (Addr × Obj)} {σ : L2.St} {H : Hp} {s : Shared}
theorem tups_raw (I : Inv X pins σ H s) {L : Rows} (ht : TupsIn H L) : ∀ p ∈ L, MixT X.prog X.w s.heap p.2 p.1 := fun p m => key_of I.hok (ht p m)
theorem mset_get (I : Inv X pins σ H s) {a : Addr} {L : Rows} (ha : H a = some (MSetO X.prog X.w a L)) (ht : TupsIn H L) : ∃ es ep t, MSet X.prog X.w s.heap a L es ep t :=
  MSet0.full (I.hok a _ ha).1 (tups_raw I ht)
/-- S.add(tuple) -/
theorem add_tup {E : Value → Shared → Prop} {D x : Addr} {L : Rows} {k : List Key} {Q : Value → Shared → Prop} (hu : X.A.units + 64 < cLine) (I : Inv X pins σ H s) (hD : H D = some (MSetO X.prog X.w D L)) (ht : TupsIn H L) (hx : H x = some (.tup (k.map kV))) (few : L.length + 1 ≤ 2000)
    (h : ∀ s' L2, (k ∈ L.map (·.2) → L2 = L) → (k ∉ L.map (·.2) → L2.Perm ((x, k) :: L)) → Inv X pins σ (upd H D (MSetO X.prog X.w D L2)) s' → Q .none s') : wpAny (model X.prog X.w) X.A (call (.builtin "set.add") [.ref D, .ref x]) Q E s := by
  obtain ⟨es, ep, t, R⟩ := mset_get I hD ht
  have kx : MixT X.prog X.w s.heap k x := key_of I.hok hx
  obtain ⟨o, ho, ex, hd⟩ := R.ob
  have ty : s.TypeIs (.ref D) "set" := ⟨o, ho, ex.1⟩
  refine wpAny_call_entry F.slot_set_add ty F.entry_set_add ?_ (F.args_set_add_2 _ _)
  unfold Builtin.«set.add» Builtin.Frozenset.oneOther
  simp only [List.isEmpty_nil, bind_assoc]
  unfold Builtin.Frozenset.addrOf setAdd
  refine wpAny_bind (wpAny_pure ?_)
  try dsimp only
  refine wpAny_bind (wpAny_pure ?_)
  try dsimp only
  refine wpAny_bind (wpAny_holding (wpAny_bind (wpAny_pyHash_tuple (by simp only [Around.in1_units]; omega) kx ?_)))
  have kx2 : MixT X.prog X.w ({ s with toks := s.toks + (k.length + 1) } : Shared).heap k x := kx
  refine add_mix (s := { s with toks := s.toks + (k.length + 1) }) R kx2 (by simp only [Around.in1_units]; omega) few fun b h' L2 es2 ep2 t2 sb R2 c1 c2 => ?_
  show wpAny _ _ (ret Value.none) _ _ _
  obtain ⟨o2, ho2, _⟩ := R2.ob
  refine wpAny_pure ⟨_, rfl, h _ L2 c1 c2 (I.write (e := D) (t' := s.toks + (k.length + 1)) (by rw [hD]; trivial) (.inl rfl) (fun b u hb hu => (sb.2 b hb).trans hu) ⟨o2, ho2⟩ R2.bare.ok)⟩

/-- a new set D, filled turn by turn -/
def tSm (P : Program) (w : World) (wi : TI) (g : TG) (tt : TT) (te : TE) (vs : List Nat) : TE := fun σ H Q => wi σ H fun J H1 => ∀ D, H1 D = none → ∃ W : Nat → Nat → Hp → Prop, (∃ m, W 0 m (upd H1 D (MSetO P w D []))) ∧ ∀ i m H, W i m H →
  (J.stop i H ∧ Q (.ref D) H) ∨ (J.go i H ∧ ∃ Nx : Hp → Prop, (∀ H', Nx H' → ∃ m', m' < m ∧ W (i + 1) m' H') ∧ ∀ x H', J.yld i H x H' → g x (wipe σ vs) H' fun σ2 H2 => wipe σ2 vs = wipe σ vs ∧ tt σ2 H2 fun b H3 =>
    if b = true then te σ2 H3 fun y H4 => ∃ (x : Addr) (k : List Key) (L : Rows), y = .ref x ∧ H4 x = some (.tup (k.map kV)) ∧ H4 D = some (MSetO P w D L) ∧ TupsIn H4 L ∧ L.length + 1 ≤ 2000 ∧
      ∀ L2, (k ∈ L.map (·.2) → L2 = L) → (k ∉ L.map (·.2) → L2.Perm ((x, k) :: L)) → Nx (upd H4 D (MSetO P w D L2)) else Nx H3)
theorem sm_run {Q : VK} {elt tg iter : Expr} {ifs : List Expr} {scope : Scope} {own : List (PySem.Str × Nat)} {pos at_ : Pos} {wi : TI} {g : TG} {tt : TT} {te : TE} {use : Option (Value → Sem Unit)} {Qf : Value → Shared → Prop}
    (hu : X.A.units + 64 < cLine) (hc : X.calm = true) (hN : X.N.Nodup) (I : Inv X pins σ H s) (hi : PI X tg iter wi) (ok : BlkOk X.N X.env.scope scope own)
    (hg : ∀ s H C cl fp, PG (X.blk s H scope (compEnvC scope cl C X.env) fp) tg g) (ht : ∀ s H C cl fp, PTs (X.blk s H scope (compEnvC scope cl C X.env) fp) ifs tt)
    (he : ∀ s H C cl fp, PE (X.blk s H scope (compEnvC scope cl C X.env) fp) elt te) (hs : ∀ x, foldedSetIterable iter X.env x = pure x)
    (h : tSm X.prog X.w wi g tt te (own.map (·.2)) σ H Q)
    (hR : ∀ D C s' m H', Inv X pins σ H' s' → Q (.ref D) H' → s'.heap.Ns C m → FpOk X pins H' C → compPost (model X.prog X.w) X.A X.xe use Qf (.ref D) C (.ok .next) s') :
    wpAny (model X.prog X.w) X.A (comprehension (.SetComp elt [⟨tg, iter, ifs, 0⟩] scope pos) scope X.env at_ (newSet (.type "set")) false (eval iter X.env) use) Qf X.xe s := by
  have frees : ∀ y ∈ scope.names, y.2 = .free → ∃ c, X.env.cells.lookup y.1 = some c := fun y m e => (ok.free y m e).elim (fun k => I.ok.has _ (.inl k)) fun k => I.ok.has _ (.inr k)
  refine wpAny_comprehension_free (use := use) rfl hs (closure_ok frees) ok.kind (fun y m e => by rw [ok.uniq y m, e])
    (thn (hi.run pins s σ H _ I h) fun xv s1 hx => thn hx fun itv s2 h2 => ?_)
  obtain ⟨it, fp, tn, J, H2, rfl, I2, T, st2, f2, q⟩ := h2
  refine PpSet.newSet_ok (newEnv_comp ?_)
  generalize eD : s2.heap.objs.size = D
  obtain ⟨W, ⟨m0, w0⟩, turn⟩ := q D (I2.hok.fresh (Nat.le_of_eq eD))
  generalize e3 : ({ s2 with heap := s2.heap.push { cls := .type "set", dict := none, data := .set #[] 0 (.fresh 0 0 (!X.w.params.followText "set-order")) } } : Shared) = s3
  have p3 : s3.heap = s2.heap.push { cls := .type "set", dict := none, data := .set #[] 0 (.fresh 0 0 (!X.w.params.followText "set-order")) } := by rw [← e3]
  have I3 : Inv X pins σ (upd H2 D (MSetO X.prog X.w D [])) s3 := by
    rw [← e3]
    refine I2.laid (t' := s2.toks) (fun b o e => Heap.get?_push_of_some _ e) (Nat.le_of_eq eD) ?_
    rw [← eD]
    exact (mset_fresh (Heap.get?_push_size _ rfl)).ok
  have inOld : ∀ b ∈ fp, b < s2.heap.objs.size := fun b m => by
    obtain ⟨o, e, _⟩ := T.obj _ _ st2 b m
    exact Heap.lt_size e
  have f3 : ∀ b ∈ fp, FpOk X pins (upd H2 D (MSetO X.prog X.w D [])) b ∧ b < s3.heap.objs.size := fun b m => by
    have lt := inOld b m
    refine ⟨⟨?_, (f2 b m).2⟩, by rw [p3, Heap.size_push]; exact Nat.lt_succ_of_lt lt⟩
    rw [upd_ne (Nat.ne_of_lt (eD ▸ lt))]
    exact (f2 b m).1
  have st3 : tn 0 s3.heap := T.keep _ _ _ st2 fun b _ o e => by rw [p3]; exact Heap.get?_push_of_some _ e
  have I4 := block_start I3 ok hN f3
  have pg := hg s3 (upd H2 D (MSetO X.prog X.w D [])) s3.heap.objs.size (cellsFrom (s3.heap.objs.size + 1) scope.names (cloFrom X.env.cells scope.names [])) fp
  have pt := ht s3 (upd H2 D (MSetO X.prog X.w D [])) s3.heap.objs.size (cellsFrom (s3.heap.objs.size + 1) scope.names (cloFrom X.env.cells scope.names [])) fp
  have pe := he s3 (upd H2 D (MSetO X.prog X.w D [])) s3.heap.objs.size (cellsFrom (s3.heap.objs.size + 1) scope.names (cloFrom X.env.cells scope.names [])) fp
  show codeAny _ _ (.compStart (.SetComp elt [⟨tg, iter, ifs, 0⟩] scope pos) 0 (.ref it) (.ref D) (compEnvC scope (cellsFrom (s3.heap.objs.size + 1) scope.names (cloFrom X.env.cells scope.names [])) s3.heap.objs.size X.env)) (compPost (model X.prog X.w) X.A X.xe use Qf (.ref D) s3.heap.objs.size) { s3 with heap := pushCells (s3.heap.push { cls := .type "dict", data := .dict #[] }) scope.names }
  have none3 : ∀ b ∈ fp, (upd H2 D (MSetO X.prog X.w D [])) b = none := fun b m => (f3 b m).1.1
  generalize ece : compEnvC scope (cellsFrom (s3.heap.objs.size + 1) scope.names (cloFrom X.env.cells scope.names [])) s3.heap.objs.size X.env = ce at I4 pg pt pe ⊢
  have cl : ce.locals = s3.heap.objs.size := by rw [← ece]; rfl
  generalize upd H2 D (MSetO X.prog X.w D []) = H3 at I3 I4 pg pt pe w0 none3 f3
  generalize e4 : ({ s3 with heap := pushCells (s3.heap.push { cls := .type "dict", data := .dict #[] }) scope.names } : Shared) = s4 at I4 ⊢
  have st4 : tn 0 s4.heap := T.keep _ _ _ st3 fun b _ o e => by rw [← e4]; exact pushCells_keeps _ _ _ _ (Heap.get?_push_of_some _ e)
  have calmFp : ∀ {σ' : L2.St} {H' : Hp} {s' : Shared}, Inv (X.blk s3 H3 scope ce fp) [] σ' H' s' → (∀ b ∈ fp, H' b = none) → ∀ b ∈ fp, FpOk (X.blk s3 H3 scope ce fp) [] H' b := fun {σ' H' s'} I' n b m =>
    ⟨n b m, (I'.ok.exf b m).1, I'.ok.exfs b m, .inl m, fun x c e => (I'.ok.exf b m).2 x c e, fun p hp => absurd (show p ∈ ([] : List (Addr × Obj)) ++ [] from hp) (by simp)⟩
  have loop : codeAny (model X.prog X.w) X.A (.compLoop (.SetComp elt [⟨tg, iter, ifs, 0⟩] scope pos) 0 (.ref it) (.ref D) ce) (compPost (model X.prog X.w) X.A X.xe use Qf (.ref D) s3.heap.objs.size) s4 := by
    refine PpSet.compLoopS_any (fun n s' => ∃ i H', Inv (X.blk s3 H3 scope ce fp) [] (wipe σ (own.map (·.2))) H' s' ∧ tn i s'.heap ∧ (∀ b ∈ fp, H' b = none) ∧ W i n H') ?_ m0 ⟨0, H3, I4, st4, none3, w0⟩
    rintro n s5 ⟨i, H5, I5, st5, n5, w5⟩
    rcases turn i n H5 w5 with ⟨stop, fin⟩ | ⟨go, Nx, next, step⟩
    · refine thnF (T.done (X.blk s3 H3 scope ce fp) rfl rfl rfl hc i [] s5 _ H5 (fun _ _ => False) I5 (calmFp I5 n5) st5 stop) fun r s6 ⟨hr, I6⟩ => ?_
      subst hr
      have I7 : Inv X pins σ H5 s6 := I3.call' (ch := fp) I6.os I6.base I6.hok I6.bare fun b m => ⟨(f3 b m).1.2.2.2.1, (f3 b m).1.2.1, (f3 b m).1.2.2.2.2.1, (f3 b m).1.2.2.2.2.2⟩
      have nC : H5 s3.heap.objs.size = none := cl ▸ (show H5 ce.locals = none from I6.free)
      obtain ⟨m, hn, _⟩ := I6.loc
      exact hR D s3.heap.objs.size s6 m H5 I7 fin (cl ▸ (show s6.heap.Ns ce.locals m from hn)) (I3.fpOk (Nat.le_refl _) nC)
    · refine thnF (T.item (X.blk s3 H3 scope ce fp) rfl rfl rfl hc i [] s5 _ H5 (fun _ _ => False) I5 (calmFp I5 n5) st5 go) fun r s6 ⟨u, hr, h6⟩ => ?_
      subst hr
      refine thnF h6 fun _ s7 ⟨x, H7, I7, r7, y7, st7, n7⟩ => ?_
      have pinned := I7.pinned (calmFp I7 n7) (T.obj _ _ st7)
      refine thnF (pg.run _ s7 _ H7 x u _ pinned r7 (step x H7 y7)) fun _ s8 ⟨σ8, H8, I8, w8, q8⟩ => ?_
      refine thnF (pt.run _ s8 σ8 H8 _ I8 q8) fun b s9 ⟨H9, I9, q9⟩ => ?_
      have turnEnd : ∀ {s' : Shared} {H' : Hp}, Inv (X.blk s3 H3 scope ce fp) ([] ++ pinsAt fp s7.heap) σ8 H' s' → Nx H' → ∃ m, m < n ∧ ∃ i H', Inv (X.blk s3 H3 scope ce fp) [] (wipe σ (own.map (·.2))) H' s' ∧ tn i s'.heap ∧ (∀ b ∈ fp, H' b = none) ∧ W i m H' := fun {s' H'} I' nx => by
        obtain ⟨m', lt, w'⟩ := next H' nx
        have pin : ∀ b ∈ fp, ∀ o, s7.heap.get? b = some o → s'.heap.get? b = some o ∧ H' b = none := fun b m o e => by
          have z := I'.pin (b, o) (List.mem_append_right _ (List.mem_append_right _ (mem_pinsAt m e)))
          exact ⟨z.1, z.2.1⟩
        refine ⟨m', lt, i + 1, H', (I'.unpinned (pins := [])).weak (by rw [← w8, wipe_length]) (fun j v e => ?_), T.keep _ _ _ st7 fun b m o e => (pin b m o e).1, fun b m => ?_, w'⟩
        · rw [← w8] at e
          exact (wipe_some e).1
        · obtain ⟨o, e, _⟩ := T.obj _ _ st7 b m
          exact (pin b m o e).2
      cases b with
      | false =>
        simp only [Bool.false_eq_true, if_false] at q9 ⊢
        exact turnEnd I9 q9
      | true =>
        simp only [if_true] at q9 ⊢
        refine thnF (pe.run _ s9 σ8 H9 _ I9 q9) fun z s10 ⟨yv, H10, I10, r10, xa, k, L, ey, hx, hD, hT, few, nx⟩ => ?_
        subst ey
        cases (show z = Value.ref xa from r10)
        exact add_tup (X := X.blk s3 H3 scope ce fp) hu I10 hD hT hx few fun s11 L2 c1 c2 I11 => turnEnd I11 (nx L2 c1 c2)
  exact PpSet.codeAny_compStart_set loop (T.self X.A 0 _ _ _ st4 loop)
theorem pe_sm {elt tg iter : Expr} {ifs : List Expr} {scope : Scope} {own : List (PySem.Str × Nat)} {pos : Pos} {wi : TI} {g : TG} {tt : TT} {te : TE} (hu : X.A.units + 64 < cLine) (hc : X.calm = true) (hN : X.N.Nodup) (hi : PI X tg iter wi) (ok : BlkOk X.N X.env.scope scope own)
    (hg : ∀ s H C cl fp, PG (X.blk s H scope (compEnvC scope cl C X.env) fp) tg g) (ht : ∀ s H C cl fp, PTs (X.blk s H scope (compEnvC scope cl C X.env) fp) ifs tt)
    (he : ∀ s H C cl fp, PE (X.blk s H scope (compEnvC scope cl C X.env) fp) elt te) (hs : ∀ x, foldedSetIterable iter X.env x = pure x := by intro _; rfl) :
    PE X (.SetComp elt [⟨tg, iter, ifs, 0⟩] scope pos) (tSm X.prog X.w wi g tt te (own.map (·.2))) := by
  refine ⟨fun pins s σ H Q I h => ?_⟩
  rw [PpSet.eval_SetComp]
  refine sm_run hu hc hN I hi ok hg ht he hs h fun D C s' m H' I' q hn f => ⟨m, hn, fun h'' sb => ?_⟩
  obtain ⟨f0, f1, f2, f3, f4, f5⟩ := f
  exact ⟨.ref D, H', I'.turned (t' := s'.toks) (fun b o hb e => (sb.2 b hb).trans e) f0 f1 f3 f4 f5, rfl, q⟩
end
end Sx

set_option linter.all false
set_option maxRecDepth 100000
set_option maxHeartbeats 2000000
/-! the order of tuples of ints and texts; sorted lists of them -/
namespace Sx
open PySem PySem.Spec PyProof.Rows L2

/-! ### linear orders -/
structure Lin {α : Type} (lt : α → α → Bool) : Prop where
  irr : ∀ x, lt x x = false
  tr : ∀ x y z, lt x y = true → lt y z = true → lt x z = true
  tot : ∀ x y, x ≠ y → lt x y = true ∨ lt y x = true
section
variable {α β : Type} {lt : α → α → Bool}
theorem Lin.asym (O : Lin lt) {x y : α} (h : lt x y = true) : lt y x = false := by
  rcases e : lt y x with _ | _
  · rfl
  · have z := O.tr x y x h e
    rw [O.irr] at z
    cases z
theorem Lin.anti (O : Lin lt) {x y : α} (h1 : lt x y = false) (h2 : lt y x = false) : x = y := Classical.byContradiction fun ne => by
  rcases O.tot x y ne with z | z
  · rw [h1] at z; cases z
  · rw [h2] at z; cases z
theorem Lin.le_tr (O : Lin lt) {x y z : α} (h1 : lt y x = false) (h2 : lt z y = false) : lt z x = false := by
  rcases e : lt z x with _ | _
  · rfl
  · by_cases c : x = y
    · subst c; rw [e] at h2; cases h2
    · rcases O.tot x y c with q | q
      · have r := O.tr z x y e q
        rw [h2] at r; cases r
      · rw [h1] at q; cases q
theorem Lin.swo (O : Lin lt) (f : β → α) : SrtO.Swo fun x y => lt (f x) (f y) := ⟨fun _ _ h => O.asym h, fun _ _ _ h1 h2 => O.le_tr h1 h2⟩
/-- a rising list is known by its members -/
theorem Lin.uniq (O : Lin lt) : ∀ {l m : List α}, l.Pairwise (fun x y => lt y x = false) → m.Pairwise (fun x y => lt y x = false) → l.Perm m → l = m
  | [], m, _, _, p => (List.Perm.eq_nil p.symm).symm
  | x :: l, [], _, _, p => by cases List.Perm.eq_nil p
  | x :: l, y :: m, hl, hm, p => by
    have h1 := List.pairwise_cons.mp hl
    have h2 := List.pairwise_cons.mp hm
    have a : lt y x = false := by
      rcases List.mem_cons.mp (p.mem_iff.mpr List.mem_cons_self) with e | z
      · rw [e]; exact O.irr _
      · exact h1.1 y z
    have b : lt x y = false := by
      rcases List.mem_cons.mp (p.mem_iff.mp List.mem_cons_self) with e | z
      · rw [e]; exact O.irr _
      · exact h2.1 x z
    have e := O.anti b a
    subst e
    rw [O.uniq h1.2 h2.2 p.cons_inv]
variable [DecidableEq α]
/-- item by item, a beginning ahead of what goes on -/
def lexL (lt : α → α → Bool) : List α → List α → Bool
  | [], [] => false
  | [], _ :: _ => true
  | _ :: _, [] => false
  | a :: as, b :: bs => if a = b then lexL lt as bs else lt a b
theorem Lin.lex (O : Lin lt) : Lin (lexL lt) where
  irr := fun l => by
    induction l with
    | nil => rfl
    | cons a l ih => rw [lexL, if_pos rfl]; exact ih
  tr := fun l => by
    induction l with
    | nil =>
      intro m n h1 h2
      cases n with
      | nil => cases m <;> cases h2
      | cons => rfl
    | cons a l ih =>
      intro m n h1 h2
      cases m with
      | nil => cases h1
      | cons b m =>
        cases n with
        | nil => cases h2
        | cons c n =>
          rw [lexL] at h1 h2 ⊢
          by_cases ab : a = b
          · subst ab
            rw [if_pos rfl] at h1
            by_cases ac : a = c
            · rw [if_pos ac] at h2 ⊢
              exact ih m n h1 h2
            · rw [if_neg ac] at h2 ⊢
              exact h2
          · rw [if_neg ab] at h1
            by_cases bc : b = c
            · subst bc
              rw [if_neg ab]
              exact h1
            · rw [if_neg bc] at h2
              have ac := O.tr a b c h1 h2
              by_cases e : a = c
              · subst e; rw [O.irr] at ac; cases ac
              · rw [if_neg e]; exact ac
  tot := fun l => by
    induction l with
    | nil =>
      intro m ne
      cases m with
      | nil => exact absurd rfl ne
      | cons => exact .inl rfl
    | cons a l ih =>
      intro m ne
      cases m with
      | nil => exact .inr rfl
      | cons b m =>
        rw [lexL, lexL]
        by_cases ab : a = b
        · subst ab
          rw [if_pos rfl, if_pos rfl]
          exact ih m fun e => ne (by rw [e])
        · rw [if_neg ab, if_neg fun e => ab e.symm]
          exact O.tot a b ab
end
/-- ints ahead of texts -/
def ltKey : Key → Key → Bool
  | .inl a, .inl b => decide (a < b)
  | .inr x, .inr y => decide (x.cps.toList < y.cps.toList)
  | .inl _, .inr _ => true
  | .inr _, .inl _ => false
def ltText (x y : PySem.Str) : Bool := decide (x.cps.toList < y.cps.toList)
theorem lin_text : Lin ltText where
  irr := fun x => decide_eq_false (List.lt_irrefl _)
  tr := fun x y z h1 h2 => decide_eq_true (List.lt_trans (of_decide_eq_true h1) (of_decide_eq_true h2))
  tot := fun x y ne => by
    by_cases c : x.cps.toList < y.cps.toList
    · exact .inl (decide_eq_true c)
    · refine .inr (decide_eq_true (Classical.byContradiction fun d => ne ?_))
      have e := List.le_antisymm (List.not_lt.mp d) (List.not_lt.mp c)
      cases x
      cases y
      exact congrArg _ (Array.toList_inj.mp e)
theorem lin_key : Lin ltKey where
  irr := fun k => by
    cases k with
    | inl a => exact decide_eq_false (Int.lt_irrefl a)
    | inr x => exact lin_text.irr x
  tr := fun k l m h1 h2 => by
    cases k with
    | inl a =>
      cases m with
      | inr => rfl
      | inl c =>
        cases l with
        | inr => cases h2
        | inl b => exact decide_eq_true (Int.lt_trans (of_decide_eq_true h1) (of_decide_eq_true h2))
    | inr x =>
      cases l with
      | inl => cases h1
      | inr y =>
        cases m with
        | inl => cases h2
        | inr z => exact lin_text.tr x y z h1 h2
  tot := fun k l ne => by
    cases k with
    | inl a =>
      cases l with
      | inr => exact .inl rfl
      | inl b =>
        rcases Int.lt_trichotomy a b with c | c | c
        · exact .inl (decide_eq_true c)
        · exact absurd (by rw [c]) ne
        · exact .inr (decide_eq_true c)
    | inr x =>
      cases l with
      | inl => exact .inr rfl
      | inr y => exact lin_text.tot x y fun e => ne (by rw [e])
abbrev ltT : List Key → List Key → Bool := lexL ltKey
theorem lin_tup : Lin ltT := lin_key.lex
/-- a key list's shape: where ints stand -/
def shp (k : List Key) : List Bool := k.map Sum.isLeft

/-! ### the model's comparison -/
section
variable {P : Program} {w : World} {A : Around} {E : Value → Shared → Prop} {s : Shared}
theorem kat_items {b : Bool} : ∀ {ks ls : List Key} {us vs : List Value} {i : Nat}, ItemsAre (mixKind P w) ks us → ItemsAre (mixKind P w) ls vs → shp ks = shp ls → (b && i == 0) = true ∨ (b && i == 0) = false →
    PySem.W.KatLex P w A b false (fun r s' => s' = s ∧ r = ltT ks ls) (us.zip vs) i s := by
  intro ks
  induction ks with
  | nil =>
    intro ls us vs i h1 h2 e _
    cases h1
    cases ls with
    | nil => cases h2; exact PySem.W.kat_nil ⟨rfl, rfl⟩
    | cons => cases e
  | cons k ks ih =>
    intro ls us vs i h1 h2 e _
    cases ls with
    | nil => cases e
    | cons l ls =>
      cases h1 with
      | @cons _ u _ us k1 t1 =>
        cases h2 with
        | @cons _ v _ vs k2 t2 =>
          have e' : Sum.isLeft k :: shp ks = Sum.isLeft l :: shp ls := e
          injection e' with e1 e2
          refine PySem.W.kat_cons ((mixKind P w).eqBool k1 k2 ?_)
          refine PySem.W.kat_go (fun c => ?_) fun c => ?_
          · have kl : k = l := of_decide_eq_true c
            subst kl
            refine PySem.W.kat_yes ?_
            have q := ih (i := i + 1) t1 t2 e2 (by cases (b && i + 1 == 0) <;> simp)
            have z : ltT (k :: ks) (k :: ls) = ltT ks ls := if_pos rfl
            rw [z]
            exact q
          · have kl : ¬ k = l := of_decide_eq_false c
            have z : ltT (k :: ks) (l :: ls) = ltKey k l := if_neg kl
            rw [z]
            refine PySem.W.kat_no ?_
            rcases keyIs_shape k1 with ⟨i1, t, rfl, rfl⟩ | ⟨x, t, rfl, rfl⟩
            · rcases keyIs_shape k2 with ⟨i2, t', rfl, rfl⟩ | ⟨y, t', rfl, rfl⟩
              · cases (b && i == 0)
                · exact PySem.W.kat_one _ _ (PyProof.Rows.lt_int (show _ = _ ∧ _ = _ from ⟨rfl, rfl⟩))
                · exact oneLt_int ⟨rfl, rfl⟩
              · cases e1
            · rcases keyIs_shape k2 with ⟨i2, t', rfl, rfl⟩ | ⟨y, t', rfl, rfl⟩
              · cases e1
              · cases (b && i == 0)
                · exact PySem.W.kat_one _ _ (PySem.P.lt_str (show _ = _ ∧ _ = _ from ⟨rfl, rfl⟩))
                · exact oneLt_str ⟨rfl, rfl⟩
open Classical in
/-- the key that stands at v -/
noncomputable def keyAt (P : Program) (w : World) (h : Heap) (v : Value) : List Key := if c : ∃ k a, v = .ref a ∧ MixT P w h k a then c.choose else []
theorem keyAt_of {h : Heap} {k : List Key} {a : Addr} (hk : MixT P w h k a) : keyAt P w h (.ref a) = k := by
  unfold keyAt
  have c : ∃ k' b, Value.ref a = .ref b ∧ MixT P w h k' b := ⟨k, a, rfl, hk⟩
  rw [dif_pos c]
  obtain ⟨b, e, q⟩ := c.choose_spec
  cases e
  exact q.inj hk
/-- v is a tuple of this shape -/
def TupV (P : Program) (w : World) (h : Heap) (sh : List Bool) (v : Value) : Prop := ∃ k a, v = .ref a ∧ MixT P w h k a ∧ shp k = sh
theorem mix_cls {h h' : Heap} {a : Addr} {k : List Key} {L : Addr} (keep : ∀ b o, b ≠ L → h.get? b = some o → h'.get? b = some o) (lst : ∀ o, h.get? L = some o → o.cls ≠ .type "tuple") (hk : MixT P w h k a) : MixT P w h' k a := by
  obtain ⟨o, items, n, ho, hc, hd, hi⟩ := hk
  exact ⟨o, items, n, keep a o (fun e => lst o (by rw [← e]; exact ho) hc) ho, hc, hd, hi⟩
theorem tup_cmp {sh : List Bool} {b : Bool} {h0 : Heap} {vs : List Value} (h : ∀ v ∈ vs, ∃ k a, v = .ref a ∧ MixT P w h0 k a ∧ MixT P w s.heap k a ∧ shp k = sh) :
    SrtO.Cmp P w A s (tuples' b) (fun p => p.1 ∈ vs) (SrtO.lt2 fun v u => ltT (keyAt P w h0 v) (keyAt P w h0 u)) := by
  intro p q hp hq
  obtain ⟨k, x, ex, k0, kx, kS⟩ := h _ hp
  obtain ⟨l, y, ey, l0, ly, lS⟩ := h _ hq
  show wpAny (model P w) A (keyLt' (tuples' b) p.1 q.1) (fun r s' => s' = s ∧ r = ltT (keyAt P w h0 p.1) (keyAt P w h0 q.1)) (fun _ _ => False) s
  rw [ex, ey, keyAt_of k0, keyAt_of l0]
  obtain ⟨o, xs, n, ho, hc, hd, hi⟩ := kx
  obtain ⟨o', ys, n', ho', hc', hd', hi'⟩ := ly
  refine PySem.W.kat_lt ho hd ho' hd' ?_
  have len : k.length = l.length := by
    have z := congrArg List.length (kS.trans lS.symm)
    unfold shp at z
    rwa [List.length_map, List.length_map] at z
  have fin : decide (xs.size < ys.size) = false := by
    have z1 : k.length = xs.size := by rw [hi.length]; simp
    have z2 : l.length = ys.size := by rw [hi'.length]; simp
    exact decide_eq_false (by omega)
  rw [fin]
  exact kat_items hi hi' (kS.trans lS.symm) (by cases (b && 0 == 0) <;> simp)
theorem kat_heads {sh : List Bool} {c : Bool} {h : Heap} : ∀ vs : List Value, (∀ v ∈ vs, TupV P w h (c :: sh) v) → ∃ fs : List Value, PySem.W.KatTups h vs fs ∧ fs.length = vs.length ∧ ∀ f ∈ fs, (c = true ∧ ∃ i t, f = Value.int i t) ∨ (c = false ∧ ∃ x t, f = Value.str x t)
  | [], _ => ⟨[], PySem.W.KatTups.nil, rfl, fun _ m => absurd m List.not_mem_nil⟩
  | v :: vs, hv => by
    obtain ⟨fs, a1, a2, a3⟩ := kat_heads vs fun u m => hv u (List.mem_cons_of_mem _ m)
    obtain ⟨k, a, rfl, ⟨o, items, n, ho, hc, hd, hi⟩, e⟩ := hv _ List.mem_cons_self
    cases k with
    | nil => cases e
    | cons k ks =>
      have e' : Sum.isLeft k :: shp ks = c :: sh := e
      injection e' with e1 _
      generalize il : items.toList = il at hi
      cases hi with
      | @cons _ f _ us k1 t1 =>
        have h0 : items[0]? = some f := by rw [← Array.getElem?_toList, il] <;> rfl
        refine ⟨f :: fs, PySem.W.KatTups.cons ho hc hd h0 a1, by rw [List.length_cons, List.length_cons, a2], fun g m => ?_⟩
        rcases List.mem_cons.mp m with rfl | m
        · rcases keyIs_shape k1 with ⟨i, t, rfl, ef⟩ | ⟨x, t, rfl, ef⟩
          · exact .inl ⟨e1.symm, i, t, ef⟩
          · exact .inr ⟨e1.symm, x, t, ef⟩
        · exact a3 g m
theorem tups_sortable {sh : List Bool} {c : Bool} {a : Addr} {vs : List Value} (pos : 0 < vs.length) (hv : ∀ v ∈ vs, TupV P w s.heap (c :: sh) v) (ha : ∀ o, s.heap.get? a = some o → o.cls ≠ .type "tuple") :
    SrtO.SortableO P w A s a vs fun v u => ltT (keyAt P w s.heap v) (keyAt P w s.heap u) := by
  intro h' keep
  have hv' : ∀ v ∈ vs, TupV P w h' (c :: sh) v := fun v m => by
    obtain ⟨k, x, e, hk, es⟩ := hv v m
    exact ⟨k, x, e, mix_cls keep ha hk, es⟩
  obtain ⟨fs, f1, f2, f3⟩ := kat_heads vs hv'
  refine ⟨tuples' true, fun Q E hq => ?_, tup_cmp (sh := c :: sh) fun v m => ?_⟩
  · cases c with
    | true =>
      refine PySem.W.kat_kind (T := .type "int") f1 (by omega) (fun f m => ?_) (by rfl) ?_
      · rcases f3 f m with ⟨_, i, t, rfl⟩ | ⟨z, _⟩
        · exact PySem.W.Looks.now
        · cases z
      · rw [show (Value.type "int" != Value.type "tuple") = true from by decide +kernel]
        exact hq
    | false =>
      refine PySem.W.kat_kind (T := .type "str") f1 (by omega) (fun f m => ?_) (by rfl) ?_
      · rcases f3 f m with ⟨z, _⟩ | ⟨_, x, t, rfl⟩
        · cases z
        · exact PySem.W.Looks.now
      · rw [show (Value.type "str" != Value.type "tuple") = true from by decide +kernel]
        exact hq
  · obtain ⟨k, x, e, hk, es⟩ := hv v m
    exact ⟨k, x, e, hk, mix_cls keep ha hk, es⟩
end
end Sx

set_option linter.all false
set_option maxRecDepth 100000
set_option maxHeartbeats 2000000
/-! sorted of a list of tuples, of a set of tuples -/
namespace Sx
open PySem PySem.Spec PyProof.Rows L2
abbrev refsOf (R : Rows) : List V := R.map fun p => V.ref p.1
abbrev valsOf (R : Rows) : List Value := R.map fun p => Value.ref p.1
theorem vals_refs : ∀ R : Rows, Vals (refsOf R) (valsOf R)
  | [] => .nil
  | _ :: R => .cons rfl (vals_refs R)
theorem refs_vals : ∀ {R : Rows} {us : List Value}, Vals (refsOf R) us → us = valsOf R
  | [], _, .nil => rfl
  | _ :: R, _, .cons r t => by
    cases r
    rw [refs_vals t] <;> rfl
/-- rows picked by their values -/
theorem rows_back {R : Rows} {us : List Value} (h : ∀ u ∈ us, u ∈ valsOf R) : ∃ R2, us = valsOf R2 ∧ ∀ p ∈ R2, p ∈ R := by
  induction us with
  | nil => exact ⟨[], rfl, fun p m => absurd m List.not_mem_nil⟩
  | cons u us ih =>
    obtain ⟨R2, e, sub⟩ := ih fun v m => h v (List.mem_cons_of_mem _ m)
    obtain ⟨p, m, rfl⟩ := List.mem_map.mp (h u List.mem_cons_self)
    refine ⟨p :: R2, by show _ = Value.ref p.1 :: valsOf R2; rw [e], fun q hq => ?_⟩
    rcases List.mem_cons.mp hq with rfl | hq
    · exact m
    · exact sub q hq
/-- the same addresses in another order are the same rows -/
theorem rows_perm {R R2 : Rows} (inj : ∀ p ∈ R, ∀ q ∈ R, p.1 = q.1 → p = q) (sub : ∀ p ∈ R2, p ∈ R) (pm : (valsOf R2).Perm (valsOf R)) : R2.Perm R := by
  have z := pm
  clear pm
  induction R2 generalizing R with
  | nil =>
    have e : valsOf R = [] := List.Perm.eq_nil z.symm
    rw [List.map_eq_nil_iff.mp e]
  | cons p R2 ih =>
    obtain ⟨S, T, eR⟩ := List.append_of_mem (sub p List.mem_cons_self)
    have pe : R.Perm (p :: (S ++ T)) := by rw [eR]; exact List.perm_middle
    have old : ∀ r ∈ S ++ T, r ∈ R := fun r m => pe.mem_iff.mpr (List.mem_cons_of_mem _ m)
    have z2 : (valsOf R2).Perm (valsOf (S ++ T)) := (z.trans (pe.map fun p => Value.ref p.1)).cons_inv
    refine List.Perm.trans (List.Perm.cons p (ih (fun a ha b hb e => inj a (old a ha) b (old b hb) e) (fun q hq => ?_) z2)) pe.symm
    have hr : Value.ref q.1 ∈ valsOf (S ++ T) := z2.mem_iff.mp (List.mem_map.mpr ⟨q, hq, rfl⟩)
    obtain ⟨r, hr, e⟩ := List.mem_map.mp hr
    injection e with e
    rw [inj q (sub q (List.mem_cons_of_mem _ hq)) r (old r hr) e.symm]
    exact hr
theorem rising {P : Program} {w : World} {h : Heap} {R : Rows} (ht : ∀ p ∈ R, MixT P w h p.2 p.1) (hs : SrtO.Srtd (fun v u => ltT (keyAt P w h v) (keyAt P w h u)) (valsOf R)) : R.Pairwise fun x y => ltT y.2 x.2 = false := by
  refine List.Pairwise.imp_of_mem (fun {x y} hx hy z => ?_) (List.pairwise_map.mp hs)
  have z : ltT (keyAt P w h (.ref y.1)) (keyAt P w h (.ref x.1)) = false := z
  rw [keyAt_of (ht x hx), keyAt_of (ht y hy)] at z
  exact z
section
variable {X : Cx}
/-- sorted(xs), xs a list of tuples of one shape: a new list of the same, rising -/
def rSortM (K : PySem.W.Frag) : List V → Hp → VK → Prop := fun vs H Q => ∃ (a : Addr) (R : Rows) (c : Bool) (sh : List Bool), vs = [V.ref a] ∧ SqL K H a (refsOf R) ∧ TupsIn H R ∧ (∀ p ∈ R, shp p.2 = c :: sh) ∧
  ∀ (R2 : Rows) (p : Addr), R2.Perm R → R2.Pairwise (fun x y => ltT y.2 x.2 = false) → H p = none → Q (.ref p) (upd H p (.lst (refsOf R2)))
theorem tups_inj {H : Hp} {R : Rows} (ht : TupsIn H R) : ∀ p ∈ R, ∀ q ∈ R, p.1 = q.1 → p = q := fun p hp q hq e => by
  have a := ht p hp
  have b := ht q hq
  rw [e, b] at a
  injection a with a
  injection a with a
  have inj : ∀ k l : List Key, k.map kV = l.map kV → k = l := by
    intro k
    induction k with
    | nil => intro l e; cases l <;> first | rfl | cases e
    | cons k ks ih =>
      intro l e
      cases l with
      | nil => cases e
      | cons l ls =>
        injection e with e1 e2
        rw [ih ls e2]
        cases k <;> cases l <;> first | (injection e1 with e1; rw [e1]) | cases e1
  exact Prod.ext e (inj _ _ a.symm)
theorem cr_sortM : CallR X (.builtin "sorted") (rSortM X.K) := by
  intro pins s σ H vs us Q I r h
  obtain ⟨a, R, c, sh, rfl, hs, ht, hsh, q⟩ := h
  obtain ⟨its, rv, hl, hz⟩ := I.list hs
  rw [Vals.ref1 r]
  have ei := refs_vals rv
  subst ei
  have raw := tups_raw I ht
  have szR : (valsOf R).length ≤ sizeLine := by rw [← rv.length]; exact hz
  have ord := SrtO.sorted_ord (prog := X.prog) (w := X.w) (A := X.A) (E := X.xe) (s := s) (l := a) (vs := valsOf R) (ltv := fun v u => ltT (keyAt X.prog X.w s.heap v) (keyAt X.prog X.w s.heap u))
    (Q := EP X pins σ Q) (lin_tup.swo _) hl.isList szR
  refine ord (fun h2 h₁ a' ha' kk => ?_) fun out h1 h2 => ?_
  · have hv : ∀ v ∈ valsOf R, TupV X.prog X.w h₁ (c :: sh) v ∧ keyAt X.prog X.w h₁ v = keyAt X.prog X.w s.heap v := fun v m => by
      obtain ⟨p, mp, rfl⟩ := List.mem_map.mp m
      obtain ⟨o, items, n, ho, rest⟩ := raw p mp
      have z : MixT X.prog X.w h₁ p.2 p.1 := ⟨o, items, n, (kk _ o ho).2, rest⟩
      exact ⟨⟨p.2, p.1, rfl, z, hsh p mp⟩, by rw [keyAt_of z, keyAt_of (raw p mp)]⟩
    intro h' keep
    obtain ⟨κ, k1, k2⟩ := tups_sortable (P := X.prog) (w := X.w) (A := X.A.in1.in1) (s := { s with heap := h₁ }) (a := a') (vs := valsOf R) (sh := sh) (c := c) (by omega) (fun v m => (hv v m).1) (fun o e z => by
      rw [ha'] at e
      cases e
      exact absurd (Value.type.inj z) (by decide)) h' keep
    refine ⟨κ, k1, fun p q hp hq => ?_⟩
    have y := k2 p q hp hq
    refine wpAny_mono y (fun r s' ⟨e1, e2⟩ => ⟨e1, ?_⟩) fun _ _ f => f
    rw [e2]
    show ltT (keyAt X.prog X.w h₁ p.1) (keyAt X.prog X.w h₁ q.1) = ltT (keyAt X.prog X.w s.heap p.1) (keyAt X.prog X.w s.heap q.1)
    rw [(hv _ hp).2, (hv _ hq).2]
  · obtain ⟨ep, he'⟩ := PyProof.Rows.sortedAll_at s.heap (valsOf R) out.toArray
    obtain ⟨R2, rfl, sub⟩ := rows_back fun u m => h2.perm.mem_iff.mp m
    have pm := rows_perm (tups_inj ht) sub h2.perm
    have hlen : (refsOf R2).length ≤ sizeLine := by
      rw [List.length_map, pm.length_eq]
      rw [List.length_map] at szR
      exact szR
    exact ⟨.ref _, upd H (s.heap.objs.size + 1) (.lst (refsOf R2)), I.laid (t' := s.toks) (fun _ _ => PyProof.Rows.sortedAll_old) (Nat.le_succ _) ⟨hlen, valsOf R2, ep, vals_refs R2, he'⟩, rfl,
      q R2 _ pm (rising (fun p m => raw p (sub p m)) h1) (I.hok.fresh (Nat.le_succ _))⟩
end
end Sx

set_option linter.all false
set_option maxRecDepth 100000
set_option maxHeartbeats 2000000
/-! sorted of a set of tuples -/
namespace Sx
open PySem PySem.Spec PyProof.Rows L2
section
variable {P : Program} {w : World} {A : Around} {E : Value → Shared → Prop} {s : Shared}
theorem sorted_mset {a : Addr} {L : Rows} {es : Array (Int × Value)} {ep : Nat} {t : SetTable} {Q : Value → Shared → Prop} (R : MSet P w s.heap a L es ep t) (hh : A.handled = none) {c : Bool} {sh : List Bool} (hs : ∀ p ∈ L, shp p.2 = c :: sh)
    (hQ : ∀ s' p (L2 : Rows) (n : Nat), (∀ b o, s.heap.get? b = some o → s'.heap.get? b = some o) → s'.gens = s.gens → s'.os = s.os → s.heap.objs.size ≤ p →
      s'.heap.get? p = some (seqObj "list" (valsOf L2).toArray n) → L2.Perm L → L2.Pairwise (fun x y => ltT y.2 x.2 = false) → Q (.ref p) s') :
    wpAny (model P w) A (call (.builtin "sorted") [.ref a]) Q E s := by
  obtain ⟨o, ho, hex, hd⟩ := R.ob
  have n1 := cells_size R.rows
  have few := R.few
  refine Calls.call_function_entry kind_sorted plain_sorted entry_sorted (args_sorted1 _) ?_
  unfold Builtin.«sorted»
  refine wpAny_bind (m := checkCount "sorted" 1 1 _) (wpAny_pure ?_)
  refine wpAny_bind (collect_set (A := A.in1) hh ⟨o, ho, hex.1, hd⟩ R.fits (by unfold scanBound; omega) R.tab.up R.led fun s1 vs k1 hz g1 o1 pm => ?_)
  have esV : es.toList.map (·.2) = valsOf L := by
    rw [R.rows]
    unfold cells
    rw [List.map_map] <;> rfl
  rw [esV] at pm
  have inj : ∀ p ∈ L, ∀ q ∈ L, p.1 = q.1 → p = q := fun p hp q hq e => by
    have x := R.tup p hp
    rw [e] at x
    exact Prod.ext e (x.inj (R.tup q hq))
  have lv : vs.length = L.length := by rw [pm.length_eq, List.length_map]
  refine wpAny_bind (wpAny_newList ?_ (by rw [sizeLine_eq]; omega))
  have hoL : (s1.heap.push (seqObj "list" vs.toArray 0)).get? s1.heap.objs.size = some (seqObj "list" vs.toArray 0) := Heap.get?_push_size _ rfl
  have raw : ∀ p ∈ L, MixT P w (s1.heap.push (seqObj "list" vs.toArray 0)) p.2 p.1 := fun p m => by
    obtain ⟨ob, items, n, hob, rest⟩ := R.tup p m
    exact ⟨ob, items, n, Heap.get?_push_of_some _ (k1 _ _ hob), rest⟩
  have shape : ∀ v ∈ vs, TupV P w (s1.heap.push (seqObj "list" vs.toArray 0)) (c :: sh) v := fun v m => by
    obtain ⟨p, mp, rfl⟩ := List.mem_map.mp (pm.mem_iff.mp m)
    exact ⟨p.2, p.1, rfl, raw p mp, hs p mp⟩
  refine wpAny_bind (wpAny_holding (wpAny_call_entry PyProof.Rows.slot_list_sort ⟨_, hoL, rfl⟩ PyProof.Rows.entry_list_sort
    (SrtO.list_sort_ord (s := { s1 with heap := s1.heap.push (seqObj "list" vs.toArray 0) }) (ltv := fun v u => ltT (keyAt P w (s1.heap.push (seqObj "list" vs.toArray 0)) v) (keyAt P w (s1.heap.push (seqObj "list" vs.toArray 0)) u)) (lin_tup.swo _) hoL (by rw [sizeLine_eq]; omega)
      (fun h2 => tups_sortable (s := { s1 with heap := s1.heap.push (seqObj "list" vs.toArray 0) }) (by omega) shape fun ob e z => ?_) fun out h1 h2 => ⟨_, rfl, ?_⟩) (PyProof.Rows.args_list_sort _)))
  · have e2 : some ob = some (seqObj "list" vs.toArray 0) := (show (s1.heap.push (seqObj "list" vs.toArray 0)).get? s1.heap.objs.size = some ob from e).symm.trans hoL
    cases e2
    exact absurd (Value.type.inj z) (by decide)
  · obtain ⟨n, hn⟩ := PyProof.Rows.sortedHeap_at (vs := vs) (out := out.toArray) hoL
    obtain ⟨L2, rfl, sub⟩ := rows_back (R := L) fun u m => pm.mem_iff.mp (h2.perm.mem_iff.mp m)
    refine wpAny_pure ⟨_, rfl, hQ _ s1.heap.objs.size L2 n (fun b u e => ?_) g1 o1 hz hn (rows_perm inj sub (h2.perm.trans pm)) (rising (fun p m => raw p (sub p m)) h1)⟩
    have lt := Heap.lt_size (k1 b u e)
    show (sortedHeap (s1.heap.push (seqObj "list" vs.toArray 0)) s1.heap.objs.size vs _).get? b = some u
    rw [sortedHeap_old (Nat.ne_of_lt lt) (by rw [size_push']; exact Nat.lt_succ_of_lt lt)]
    exact Heap.get?_push_of_some _ (k1 b u e)
end
section
variable {X : Cx}
/-- sorted(S), S a set of tuples of one shape: a new list of its tuples, rising -/
def rSortMS (P : Program) (w : World) : List V → Hp → VK → Prop := fun vs H Q => ∃ (a : Addr) (L : Rows) (c : Bool) (sh : List Bool), vs = [V.ref a] ∧ H a = some (MSetO P w a L) ∧ TupsIn H L ∧ (∀ p ∈ L, shp p.2 = c :: sh) ∧
  ∀ (L2 : Rows) (p : Addr), L2.Perm L → (L2.map (·.2)).Nodup → L2.Pairwise (fun x y => ltT y.2 x.2 = false) → H p = none → Q (.ref p) (upd H p (.lst (refsOf L2)))
theorem cr_sortMS (hc : X.calm = true) : CallR X (.builtin "sorted") (rSortMS X.prog X.w) := by
  intro pins s σ H vs us Q I r h
  obtain ⟨a, L, c, sh, rfl, ha, ht, hs, q⟩ := h
  obtain ⟨es, ep, t, R⟩ := mset_get I ha ht
  rw [Vals.ref1 r]
  refine sorted_mset R (I.ok.hd hc) hs fun s' p L2 n k g o hp hg pm up => ?_
  have hn : H p = none := I.hok.fresh hp
  have few := R.few
  have hlen : (refsOf L2).length ≤ sizeLine := by rw [List.length_map, pm.length_eq, sizeLine_eq]; omega
  have J : Inv X pins σ (upd H p (.lst (refsOf L2))) { s with heap := s'.heap, gens := s'.gens, drawn := s'.drawn, toks := s'.toks } :=
    I.call (ch := []) (Un.laid k hp hn) (I.hok.laid k hp ⟨hlen, valsOf L2, n, vals_refs L2, hg⟩) (by rw [g]; exact I.bare) (fun _ z => nomatch z)
  have e : s' = { s with heap := s'.heap, gens := s'.gens, drawn := s'.drawn, toks := s'.toks } := by
    cases s'; cases s; cases o; rfl
  rw [e]
  exact ⟨.ref p, _, J, rfl, q L2 p pm ((pm.map (·.2)).nodup_iff.mpr R.nd) up hn⟩
end
end Sx

set_option linter.all false
set_option maxRecDepth 100000
set_option maxHeartbeats 2000000
/-! dicts with tuple keys: setdefault, the comprehension -/
namespace Sx
open PySem PySem.Spec PyProof.Rows L2
section
variable {X : Cx} {pins : List (Addr × Obj)} {σ : L2.St} {H : Hp} {s : Shared} {a b : Addr} {r : Value} {d : V} {k : List Key} {A : Around} {E : Value → Shared → Prop} {kvs : List (List Key × V)}
theorem dt_stored {h' : Heap} {t' : Nat} {xs : List (List Key × Addr × Value)} (I : Inv X pins σ H s) (e : H a = some (.dT kvs)) (eb : H b = some (.tup (k.map kV))) (fit : kvs.length < sizeLine) (no : (a == sysModules) = false) (rel : KT H kvs xs) (rd : RelV d r)
    (dd : h'.DictOfH (tupleKind (mixKind X.prog X.w)) a (storedH xs k b r)) (sb : Heap.SameBut a s.heap h') : Inv X pins σ (upd H a (.dT (putK kvs k d))) { s with heap := h', toks := t' } := by
  have len := length_putK kvs k d
  obtain ⟨q, es, ep, hq, h2, h3, h4, _, h5⟩ := dd
  refine d_write I (by rw [e]; exact True.intro) sb ⟨q, hq⟩ ⟨by omega, no, _, (rel.put k eb rd).keeps fun c ys ec => ?_, q, es, ep, hq, h2, h3, h4, h5⟩
  rw [upd_ne (ne_of ec e (fun z => nomatch z))]
  exact ec
theorem dt_setd {Q : Value → Shared → Prop} (hu : A.units + 1 < cLine) (I : Inv X pins σ H s) (e : H a = some (.dT kvs)) (eb : H b = some (.tup (k.map kV))) (rd : RelV d r) (fit : kvs.length < sizeLine)
    (h1 : ∀ v, valV kvs k = some v → ∀ w' s', Inv X pins σ H s' → RelV v w' → Q w' s') (h2 : valV kvs k = none → ∀ s', Inv X pins σ (upd H a (.dT (putK kvs k d))) s' → Q r s') :
    wpAny (model X.prog X.w) A (call (.builtin "dict.setdefault") [.ref a, .ref b, r]) Q E s := by
  obtain ⟨z, no, xs, rel, dd⟩ := dt_of I.hok e
  have lx : xs.length ≤ sizeLine := (Paired.length rel) ▸ z
  have v := rel.val k
  refine call_setdefault_heap (knd := tupleKind (mixKind X.prog X.w)) (hsz := lx) (tupleKind_room_in1 hu) (key_of I.hok eb) no dd (fun p hp => ?_) fun hn h' dd' sb => ?_
  · rw [hp] at v
    rcases q : valV kvs k with _ | v0
    · rw [q] at v; exact (show False from v).elim
    · rw [q] at v; exact h1 v0 q _ _ (I.tok _) v
  · rw [hn] at v
    rcases q : valV kvs k with _ | v0
    · exact h2 q _ (dt_stored I e eb fit no rel rd dd' sb)
    · rw [q] at v; exact (show False from v).elim
theorem dt_dictSet {Q : Unit → Shared → Prop} (hu : A.units + 1 < cLine) (I : Inv X pins σ H s) (e : H a = some (.dT kvs)) (eb : H b = some (.tup (k.map kV))) (rd : RelV d r) (fit : kvs.length < sizeLine)
    (h : ∀ s', Inv X pins σ (upd H a (.dT (putK kvs k d))) s' → Q () s') : wpAny (model X.prog X.w) A (dictSet a (.ref b) r) Q E s := by
  obtain ⟨z, no, xs, rel, dd⟩ := dt_of I.hok e
  have lx : xs.length ≤ sizeLine := (Paired.length rel) ▸ z
  exact wpAny_dictSet_heap (knd := tupleKind (mixKind X.prog X.w)) (hsz := lx) (show A.units < cLine by omega) (key_of I.hok eb) dd fun h' dd' sb => h _ (dt_stored I e eb fit no rel rd dd' sb)
end
/-- d.setdefault(k, z), d a dict with tuple keys -/
def tSetdT (td tk tz : TE) : TE := fun σ H Q => td σ H fun x H1 => ∃ a, x = .ref a ∧ IsD H1 a ∧ tk σ H1 fun y H2 => tz σ H2 fun z H3 => ∃ (kvs : List (List Key × V)) (k : List Key) (b : Addr), H3 a = some (.dT kvs) ∧ y = .ref b ∧ H3 b = some (.tup (k.map kV)) ∧ kvs.length < sizeLine ∧
  (∀ v, valV kvs k = some v → Q v H3) ∧ (valV kvs k = none → Q z (upd H3 a (.dT (putK kvs k z))))
section
variable {X : Cx} {o e f : Expr} {td tk tz : TE} {apos cpos : Pos}
theorem pe_setdT (hu : X.A.units + 1 < cLine) (ho : PE X o td) (he : PE X e tk) (hf : PE X f tz) (m : M2 X o "setdefault" apos e f cpos) : PE X (.Call (.Attribute o "setdefault" apos) [e, f] [] cpos) (tSetdT td tk tz) := by
  refine ⟨fun pins s σ H Q I h => ?_⟩
  refine wpAny_Call_method m.base m.few m.line PySem.F.plainAttrs_dict PySem.F.slot_dict_setdefault PySem.F.type_dict_setdefault (thn (ho.run pins s σ H _ I h) fun u s1 ⟨x, H1, I1, rx, a, ex, dd, q1⟩ => ?_)
  subst ex
  cases (show u = Value.ref a from rx)
  have tt := isD_at I1 dd
  refine ⟨tt.1, tt.2.1, ?_⟩
  rw [m.trees]
  refine Calls.callWith_builtin rfl (Calls.evalArgs_plain (Calls.spliced_cons (thn (he.run pins s1 σ H1 _ I1 q1) fun kv s2 ⟨y, H2, I2, ry, q2⟩ =>
    Calls.spliced_cons (thn (hf.run pins s2 σ H2 _ I2 q2) fun fv s3 ⟨z, H3, I3, rz, kvs, k, b, ea, ey, eb, fit, q3, q4⟩ => Calls.spliced_nil ?_))))
  subst ey
  cases (show kv = Value.ref b from ry)
  exact dt_setd hu I3 ea eb rz fit (fun v hv w' s4 I4 r4 => ⟨v, _, I4, r4, q3 v hv⟩) fun hn s4 I4 => ⟨z, _, I4, rz, q4 hn⟩
/-- {k: v for target in iter if ..}, keys tuples -/
def tDt (wi : TI) (g : TG) (tt : TT) (tk tv : TE) (vs : List Nat) : TE := fun σ H Q => wi σ H fun J H1 => ∀ D, H1 D = none → ∃ W : Nat → Nat → Hp → Prop, (∃ m, W 0 m (upd H1 D (.dT []))) ∧ ∀ i m H, W i m H →
  (J.stop i H ∧ Q (.ref D) H) ∨ (J.go i H ∧ ∃ Nx : Hp → Prop, (∀ H', Nx H' → ∃ m', m' < m ∧ W (i + 1) m' H') ∧ ∀ x H', J.yld i H x H' → g x (wipe σ vs) H' fun σ2 H2 => wipe σ2 vs = wipe σ vs ∧ tt σ2 H2 fun b H3 =>
    if b = true then tk σ2 H3 fun y H4 => tv σ2 H4 fun z H5 => ∃ (kvs : List (List Key × V)) (k : List Key) (p : Addr), y = .ref p ∧ H5 p = some (.tup (k.map kV)) ∧ H5 D = some (.dT kvs) ∧ kvs.length < sizeLine ∧ Nx (upd H5 D (.dT (putK kvs k z))) else Nx H3)
theorem dt_run {pins : List (Addr × Obj)} {s : Shared} {σ : L2.St} {H : Hp} {Q : VK} {kx vx tg iter : Expr} {ifs : List Expr} {scope : Scope} {own : List (PySem.Str × Nat)} {pos at_ : Pos} {wi : TI} {g : TG} {tt : TT} {tk tv : TE} {use : Option (Value → Sem Unit)} {Qf : Value → Shared → Prop}
    (hu : X.A.units + 64 < cLine) (hc : X.calm = true) (hN : X.N.Nodup) (I : Inv X pins σ H s) (hi : PI X tg iter wi) (ok : BlkOk X.N X.env.scope scope own)
    (hg : ∀ s H C cl fp, PG (X.blk s H scope (compEnvC scope cl C X.env) fp) tg g) (ht : ∀ s H C cl fp, PTs (X.blk s H scope (compEnvC scope cl C X.env) fp) ifs tt)
    (hk : ∀ s H C cl fp, PE (X.blk s H scope (compEnvC scope cl C X.env) fp) kx tk) (he : ∀ s H C cl fp, PE (X.blk s H scope (compEnvC scope cl C X.env) fp) vx tv) (hs : ∀ x, foldedSetIterable iter X.env x = pure x)
    (h : tDt wi g tt tk tv (own.map (·.2)) σ H Q)
    (hR : ∀ D C s' m H', Inv X pins σ H' s' → Q (.ref D) H' → s'.heap.Ns C m → FpOk X pins H' C → compPost (model X.prog X.w) X.A X.xe use Qf (.ref D) C (.ok .next) s') :
    wpAny (model X.prog X.w) X.A (comprehension (.DictComp kx vx [⟨tg, iter, ifs, 0⟩] scope pos) scope X.env at_ newDict false (eval iter X.env) use) Qf X.xe s := by
  have frees : ∀ y ∈ scope.names, y.2 = .free → ∃ c, X.env.cells.lookup y.1 = some c := fun y m e => (ok.free y m e).elim (fun k => I.ok.has _ (.inl k)) fun k => I.ok.has _ (.inr k)
  refine wpAny_comprehension_free (use := use) rfl hs (closure_ok frees) ok.kind (fun y m e => by rw [ok.uniq y m, e])
    (thn (hi.run pins s σ H _ I h) fun xv s1 hx => thn hx fun itv s2 h2 => ?_)
  obtain ⟨it, fp, tn, J, H2, rfl, I2, T, st2, f2, q⟩ := h2
  refine wpAny_newObj_type (newEnv_comp ?_)
  generalize eD : s2.heap.objs.size = D
  obtain ⟨W, ⟨m0, w0⟩, turn⟩ := q D (I2.hok.fresh (Nat.le_of_eq eD))
  generalize e3 : ({ s2 with heap := s2.heap.push { cls := .type "dict", data := .dict #[] } } : Shared) = s3
  have p3 : s3.heap = s2.heap.push { cls := .type "dict", data := .dict #[] } := by rw [← e3]
  have I3 : Inv X pins σ (upd H2 D (.dT [])) s3 := by
    rw [← e3]
    refine I2.laid (t' := s2.toks) (fun b o e => Heap.get?_push_of_some _ e) (Nat.le_of_eq eD) ?_
    rw [← eD]
    exact dt_empty s2.heap I2.big
  have inOld : ∀ b ∈ fp, b < s2.heap.objs.size := fun b m => by
    obtain ⟨o, e, _⟩ := T.obj _ _ st2 b m
    exact Heap.lt_size e
  have f3 : ∀ b ∈ fp, FpOk X pins (upd H2 D (.dT [])) b ∧ b < s3.heap.objs.size := fun b m => by
    have lt := inOld b m
    refine ⟨⟨?_, (f2 b m).2⟩, by rw [p3, Heap.size_push]; exact Nat.lt_succ_of_lt lt⟩
    rw [upd_ne (Nat.ne_of_lt (eD ▸ lt))]
    exact (f2 b m).1
  have st3 : tn 0 s3.heap := T.keep _ _ _ st2 fun b _ o e => by rw [p3]; exact Heap.get?_push_of_some _ e
  have I4 := block_start I3 ok hN f3
  have pg := hg s3 (upd H2 D (.dT [])) s3.heap.objs.size (cellsFrom (s3.heap.objs.size + 1) scope.names (cloFrom X.env.cells scope.names [])) fp
  have pt := ht s3 (upd H2 D (.dT [])) s3.heap.objs.size (cellsFrom (s3.heap.objs.size + 1) scope.names (cloFrom X.env.cells scope.names [])) fp
  have pk := hk s3 (upd H2 D (.dT [])) s3.heap.objs.size (cellsFrom (s3.heap.objs.size + 1) scope.names (cloFrom X.env.cells scope.names [])) fp
  have pe := he s3 (upd H2 D (.dT [])) s3.heap.objs.size (cellsFrom (s3.heap.objs.size + 1) scope.names (cloFrom X.env.cells scope.names [])) fp
  show codeAny _ _ (.compStart (.DictComp kx vx [⟨tg, iter, ifs, 0⟩] scope pos) 0 (.ref it) (.ref D) (compEnvC scope (cellsFrom (s3.heap.objs.size + 1) scope.names (cloFrom X.env.cells scope.names [])) s3.heap.objs.size X.env)) (compPost (model X.prog X.w) X.A X.xe use Qf (.ref D) s3.heap.objs.size) { s3 with heap := pushCells (s3.heap.push { cls := .type "dict", data := .dict #[] }) scope.names }
  have none3 : ∀ b ∈ fp, (upd H2 D (.dT [])) b = none := fun b m => (f3 b m).1.1
  generalize ece : compEnvC scope (cellsFrom (s3.heap.objs.size + 1) scope.names (cloFrom X.env.cells scope.names [])) s3.heap.objs.size X.env = ce at I4 pg pt pk pe ⊢
  have cl : ce.locals = s3.heap.objs.size := by rw [← ece]; rfl
  generalize upd H2 D (.dT []) = H3 at I3 I4 pg pt pk pe w0 none3 f3
  generalize e4 : ({ s3 with heap := pushCells (s3.heap.push { cls := .type "dict", data := .dict #[] }) scope.names } : Shared) = s4 at I4 ⊢
  have st4 : tn 0 s4.heap := T.keep _ _ _ st3 fun b _ o e => by rw [← e4]; exact pushCells_keeps _ _ _ _ (Heap.get?_push_of_some _ e)
  have calmFp : ∀ {σ' : L2.St} {H' : Hp} {s' : Shared}, Inv (X.blk s3 H3 scope ce fp) [] σ' H' s' → (∀ b ∈ fp, H' b = none) → ∀ b ∈ fp, FpOk (X.blk s3 H3 scope ce fp) [] H' b := fun {σ' H' s'} I' n b m =>
    ⟨n b m, (I'.ok.exf b m).1, I'.ok.exfs b m, .inl m, fun x c e => (I'.ok.exf b m).2 x c e, fun p hp => absurd (show p ∈ ([] : List (Addr × Obj)) ++ [] from hp) (by simp)⟩
  have loop : codeAny (model X.prog X.w) X.A (.compLoop (.DictComp kx vx [⟨tg, iter, ifs, 0⟩] scope pos) 0 (.ref it) (.ref D) ce) (compPost (model X.prog X.w) X.A X.xe use Qf (.ref D) s3.heap.objs.size) s4 := by
    refine compLoop_anyD (fun n s' => ∃ i H', Inv (X.blk s3 H3 scope ce fp) [] (wipe σ (own.map (·.2))) H' s' ∧ tn i s'.heap ∧ (∀ b ∈ fp, H' b = none) ∧ W i n H') ?_ m0 ⟨0, H3, I4, st4, none3, w0⟩
    rintro n s5 ⟨i, H5, I5, st5, n5, w5⟩
    rcases turn i n H5 w5 with ⟨stop, fin⟩ | ⟨go, Nx, next, step⟩
    · refine thnF (T.done (X.blk s3 H3 scope ce fp) rfl rfl rfl hc i [] s5 _ H5 (fun _ _ => False) I5 (calmFp I5 n5) st5 stop) fun r s6 ⟨hr, I6⟩ => ?_
      subst hr
      have I7 : Inv X pins σ H5 s6 := I3.call' (ch := fp) I6.os I6.base I6.hok I6.bare fun b m => ⟨(f3 b m).1.2.2.2.1, (f3 b m).1.2.1, (f3 b m).1.2.2.2.2.1, (f3 b m).1.2.2.2.2.2⟩
      have nC : H5 s3.heap.objs.size = none := cl ▸ (show H5 ce.locals = none from I6.free)
      obtain ⟨m, hn, _⟩ := I6.loc
      exact hR D s3.heap.objs.size s6 m H5 I7 fin (cl ▸ (show s6.heap.Ns ce.locals m from hn)) (I3.fpOk (Nat.le_refl _) nC)
    · refine thnF (T.item (X.blk s3 H3 scope ce fp) rfl rfl rfl hc i [] s5 _ H5 (fun _ _ => False) I5 (calmFp I5 n5) st5 go) fun r s6 ⟨u, hr, h6⟩ => ?_
      subst hr
      refine thnF h6 fun _ s7 ⟨x, H7, I7, r7, y7, st7, n7⟩ => ?_
      have pinned := I7.pinned (calmFp I7 n7) (T.obj _ _ st7)
      refine thnF (pg.run _ s7 _ H7 x u _ pinned r7 (step x H7 y7)) fun _ s8 ⟨σ8, H8, I8, w8, q8⟩ => ?_
      refine thnF (pt.run _ s8 σ8 H8 _ I8 q8) fun b s9 ⟨H9, I9, q9⟩ => ?_
      have turnEnd : ∀ {s' : Shared} {H' : Hp}, Inv (X.blk s3 H3 scope ce fp) ([] ++ pinsAt fp s7.heap) σ8 H' s' → Nx H' → ∃ m, m < n ∧ ∃ i H', Inv (X.blk s3 H3 scope ce fp) [] (wipe σ (own.map (·.2))) H' s' ∧ tn i s'.heap ∧ (∀ b ∈ fp, H' b = none) ∧ W i m H' := fun {s' H'} I' nx => by
        obtain ⟨m', lt, w'⟩ := next H' nx
        have pin : ∀ b ∈ fp, ∀ o, s7.heap.get? b = some o → s'.heap.get? b = some o ∧ H' b = none := fun b m o e => by
          have z := I'.pin (b, o) (List.mem_append_right _ (List.mem_append_right _ (mem_pinsAt m e)))
          exact ⟨z.1, z.2.1⟩
        refine ⟨m', lt, i + 1, H', (I'.unpinned (pins := [])).weak (by rw [← w8, wipe_length]) (fun j v e => ?_), T.keep _ _ _ st7 fun b m o e => (pin b m o e).1, fun b m => ?_, w'⟩
        · rw [← w8] at e
          exact (wipe_some e).1
        · obtain ⟨o, e, _⟩ := T.obj _ _ st7 b m
          exact (pin b m o e).2
      cases b with
      | false =>
        simp only [Bool.false_eq_true, if_false] at q9 ⊢
        exact turnEnd I9 q9
      | true =>
        simp only [if_true] at q9 ⊢
        refine thnF (pk.run _ s9 σ8 H9 _ I9 q9) fun z s10 ⟨yk, H10, I10, r10, q10⟩ => ?_
        refine thnF (pe.run _ s10 σ8 H10 _ I10 q10) fun z2 s11 ⟨yv, H11, I11, r11, kvs, k, p, ek, ep, hD11, fit, nx⟩ => ?_
        subst ek
        cases (show z = Value.ref p from r10)
        exact dt_dictSet (X := X.blk s3 H3 scope ce fp) (show X.A.units + 1 < cLine by omega) I11 hD11 ep r11 fit fun s12 I12 => turnEnd I12 nx
  exact codeAny_compStart_dict loop (T.self X.A 0 _ _ _ st4 loop)
theorem pe_dt {kx vx tg iter : Expr} {ifs : List Expr} {scope : Scope} {own : List (PySem.Str × Nat)} {pos : Pos} {wi : TI} {g : TG} {tt : TT} {tk tv : TE} (hu : X.A.units + 64 < cLine) (hc : X.calm = true) (hN : X.N.Nodup) (hi : PI X tg iter wi) (ok : BlkOk X.N X.env.scope scope own)
    (hg : ∀ s H C cl fp, PG (X.blk s H scope (compEnvC scope cl C X.env) fp) tg g) (ht : ∀ s H C cl fp, PTs (X.blk s H scope (compEnvC scope cl C X.env) fp) ifs tt)
    (hk : ∀ s H C cl fp, PE (X.blk s H scope (compEnvC scope cl C X.env) fp) kx tk) (he : ∀ s H C cl fp, PE (X.blk s H scope (compEnvC scope cl C X.env) fp) vx tv) (hs : ∀ x, foldedSetIterable iter X.env x = pure x := by intro _; rfl) :
    PE X (.DictComp kx vx [⟨tg, iter, ifs, 0⟩] scope pos) (tDt wi g tt tk tv (own.map (·.2))) := by
  refine ⟨fun pins s σ H Q I h => ?_⟩
  rw [arm_eval_DictComp]
  refine dt_run hu hc hN I hi ok hg ht hk he hs h fun D C s' m H' I' q hn f => ⟨m, hn, fun h'' sb => ?_⟩
  obtain ⟨f0, f1, f2, f3, f4, f5⟩ := f
  exact ⟨.ref D, H', I'.turned (t' := s'.toks) (fun b o hb e => (sb.2 b hb).trans e) f0 f1 f3 f4 f5, rfl, q⟩
end
end Sx

set_option linter.all false
set_option maxRecDepth 100000
set_option maxHeartbeats 2000000
/-! the one rising list of some things; sorted of texts, any number of them -/
namespace Sx
open PySem PySem.Spec PyProof.Rows L2
section
variable {α : Type}
def ins (lt : α → α → Bool) (x : α) : List α → List α
  | [] => [x]
  | y :: l => if lt y x = true then y :: ins lt x l else x :: y :: l
def srt (lt : α → α → Bool) : List α → List α
  | [] => []
  | x :: l => ins lt x (srt lt l)
theorem ins_perm (lt : α → α → Bool) (x : α) : ∀ l, (ins lt x l).Perm (x :: l)
  | [] => List.Perm.refl _
  | y :: l => by
    rw [ins]
    by_cases c : lt y x = true
    · rw [if_pos c]
      exact ((ins_perm lt x l).cons y).trans (List.Perm.swap x y l)
    · rw [if_neg c]
theorem srt_perm (lt : α → α → Bool) : ∀ l, (srt lt l).Perm l
  | [] => List.Perm.refl _
  | x :: l => (ins_perm lt x (srt lt l)).trans ((srt_perm lt l).cons x)
abbrev Up (lt : α → α → Bool) (l : List α) : Prop := l.Pairwise fun x y => lt y x = false
variable {lt : α → α → Bool}
theorem Lin.ins_up (O : Lin lt) (x : α) : ∀ {l}, Up lt l → Up lt (ins lt x l)
  | [], _ => List.pairwise_singleton _ _
  | y :: l, h => by
    obtain ⟨h1, h2⟩ := List.pairwise_cons.mp h
    rw [ins]
    by_cases c : lt y x = true
    · rw [if_pos c]
      refine List.pairwise_cons.mpr ⟨fun z m => ?_, O.ins_up x h2⟩
      rcases List.mem_cons.mp ((ins_perm lt x l).mem_iff.mp m) with e | m
      · rw [e]; exact O.asym c
      · exact h1 z m
    · rw [if_neg c]
      have c' : lt y x = false := Bool.eq_false_iff.mpr c
      refine List.pairwise_cons.mpr ⟨fun z m => ?_, h⟩
      rcases List.mem_cons.mp m with e | m
      · rw [e]; exact c'
      · exact O.le_tr c' (h1 z m)
theorem Lin.srt_up (O : Lin lt) : ∀ l, Up lt (srt lt l)
  | [] => List.Pairwise.nil
  | x :: l => O.ins_up x (O.srt_up l)
theorem Lin.is_srt (O : Lin lt) {l m : List α} (h : Up lt l) (p : l.Perm m) : l = srt lt m := O.uniq h (O.srt_up m) (p.trans (srt_perm lt m).symm)
variable [DecidableEq α]
/-- each once, as it is first met -/
def once : List α → List α
  | l => l.foldl (fun acc x => if x ∈ acc then acc else acc ++ [x]) []
def onceGo (acc l : List α) : List α := l.foldl (fun acc x => if x ∈ acc then acc else acc ++ [x]) acc
theorem onceGo_spec : ∀ (l acc : List α), acc.Nodup → (onceGo acc l).Nodup ∧ ∀ x, x ∈ onceGo acc l ↔ x ∈ acc ∨ x ∈ l
  | [], acc, h => ⟨h, fun x => by simp [onceGo]⟩
  | y :: l, acc, h => by
    by_cases c : y ∈ acc
    · have e : onceGo acc (y :: l) = onceGo acc l := by unfold onceGo; rw [List.foldl_cons, if_pos c]
      obtain ⟨a, b⟩ := onceGo_spec l acc h
      rw [e]
      refine ⟨a, fun x => (b x).trans ?_⟩
      rw [List.mem_cons]
      constructor
      · rintro (z | z)
        · exact .inl z
        · exact .inr (.inr z)
      · rintro (z | z | z)
        · exact .inl z
        · rw [z]; exact .inl c
        · exact .inr z
    · have e : onceGo acc (y :: l) = onceGo (acc ++ [y]) l := by unfold onceGo; rw [List.foldl_cons, if_neg c]
      have nd : (acc ++ [y]).Nodup := (List.perm_append_singleton y acc).nodup_iff.mpr (List.nodup_cons.mpr ⟨c, h⟩)
      obtain ⟨a, b⟩ := onceGo_spec l (acc ++ [y]) nd
      rw [e]
      refine ⟨a, fun x => (b x).trans ?_⟩
      rw [List.mem_append, List.mem_singleton, List.mem_cons, or_assoc]
theorem once_nodup (l : List α) : (once l).Nodup := (onceGo_spec l [] List.nodup_nil).1
theorem once_mem (l : List α) (x : α) : x ∈ once l ↔ x ∈ l := ((onceGo_spec l [] List.nodup_nil).2 x).trans (by simp)
theorem once_snoc (l : List α) (x : α) : once (l ++ [x]) = if x ∈ once l then once l else once l ++ [x] := by
  unfold once
  rw [List.foldl_append] <;> rfl
/-- the rising list of what is in l -/
def asc (lt : α → α → Bool) (l : List α) : List α := srt lt (once l)
theorem perm_once {l m : List α} (h : l.Nodup) (e : ∀ x, x ∈ l ↔ x ∈ m) : l.Perm (once m) := (List.perm_ext_iff_of_nodup h (once_nodup m)).mpr fun x => (e x).trans (once_mem m x).symm
theorem Lin.is_asc (O : Lin lt) {l m : List α} (h : l.Nodup) (u : Up lt l) (e : ∀ x, x ∈ l ↔ x ∈ m) : l = asc lt m := O.is_srt u (perm_once h e)
theorem asc_mem (lt : α → α → Bool) (l : List α) (x : α) : x ∈ asc lt l ↔ x ∈ l := ((srt_perm lt (once l)).mem_iff).trans (once_mem l x)
theorem asc_nodup (lt : α → α → Bool) (l : List α) : (asc lt l).Nodup := (srt_perm lt (once l)).nodup_iff.mpr (once_nodup l)
theorem Lin.asc_up (O : Lin lt) (l : List α) : Up lt (asc lt l) := O.srt_up _
theorem once_len (l : List α) : (once l).length ≤ l.length := by
  have z := nd_len (once l) l (once_nodup l) fun x m => (once_mem l x).mp m
  exact z
theorem asc_len (lt : α → α → Bool) (l : List α) : (asc lt l).length ≤ l.length := by
  unfold asc
  rw [(srt_perm lt (once l)).length_eq]
  exact once_len l
end

/-! ### sorted of texts -/
def sv : Value → PySem.Str
  | .str x _ => x
  | _ => ⟨#[]⟩
section
variable {P : Program} {w : World} {A : Around} {E : Value → Shared → Prop} {s : Shared}
theorem strs_of_vals : ∀ {xs : List PySem.Str} {us : List Value}, Vals (xs.map V.str) us → us.map sv = xs ∧ ∀ u ∈ us, ∃ x t, u = Value.str x t
  | [], _, .nil => ⟨rfl, fun u m => absurd m List.not_mem_nil⟩
  | x :: xs, _, .cons r t => by
    obtain ⟨tk, rfl⟩ := r
    obtain ⟨a, b⟩ := strs_of_vals t
    refine ⟨by rw [List.map_cons, a] <;> rfl, fun u m => ?_⟩
    rcases List.mem_cons.mp m with rfl | m
    · exact ⟨x, tk, rfl⟩
    · exact b u m
theorem vals_of_strs : ∀ {us : List Value}, (∀ u ∈ us, ∃ x t, u = Value.str x t) → Vals ((us.map sv).map V.str) us
  | [], _ => .nil
  | u :: us, h => by
    obtain ⟨x, t, rfl⟩ := h u List.mem_cons_self
    exact .cons ⟨t, rfl⟩ (vals_of_strs fun v m => h v (List.mem_cons_of_mem _ m))
theorem strs_are : ∀ {vs : List Value}, (∀ u ∈ vs, ∃ x t, u = Value.str x t) → StrsAre vs (vs.map sv)
  | [], _ => .nil
  | v :: vs, h => by
    obtain ⟨x, t, rfl⟩ := h v List.mem_cons_self
    exact .cons x t (strs_are fun u m => h u (List.mem_cons_of_mem _ m))
theorem text_sortable {a : Addr} {vs : List Value} (h : ∀ u ∈ vs, ∃ x t, u = Value.str x t) (h2 : 2 ≤ vs.length) : SrtO.SortableO P w A s a vs fun v u => ltText (sv v) (sv u) := by
  intro h' _
  refine ⟨oneType', fun Q E hq => ?_, ?_⟩
  · match vs, h, h2 with
    | v1 :: v2 :: rest, h, _ =>
      rw [keyKind_strs (strs_are h)]
      exact wpAny_pure hq
    | [], _, h2 => exact absurd h2 (by decide)
    | [v], _, h2 => exact absurd h2 (by simp)
  · intro p q hp hq
    obtain ⟨x, t, e⟩ := h _ hp
    obtain ⟨y, u, e'⟩ := h _ hq
    show wpAny (model P w) A (keyLt' oneType' p.1 q.1) (fun r s' => s' = _ ∧ r = ltText (sv p.1) (sv q.1)) (fun _ _ => False) _
    rw [e, e', keyLt'_oneType]
    exact oneLt_str ⟨rfl, rfl⟩
end
section
variable {X : Cx}
/-- sorted(xs), texts, any number of them -/
def rSortS (K : PySem.W.Frag) : List V → Hp → VK → Prop := fun vs H Q => ∃ (a : Addr) (xs : List PySem.Str), vs = [V.ref a] ∧ SqL K H a (xs.map V.str) ∧
  ∀ p : Addr, H p = none → Q (.ref p) (upd H p (.lst ((srt ltText xs).map V.str)))
theorem cr_sortS : CallR X (.builtin "sorted") (rSortS X.K) := by
  intro pins s σ H vs us Q I r h
  obtain ⟨a, xs, rfl, hs, q⟩ := h
  obtain ⟨its, rv, hl, hz⟩ := I.list hs
  rw [Vals.ref1 r]
  obtain ⟨e1, e2⟩ := strs_of_vals rv
  refine SrtO.sorted_ord (ltv := fun v u => ltText (sv v) (sv u)) (lin_text.swo sv) hl.isList (by rw [← rv.length]; exact hz) (fun h2 h₁ a' _ _ => text_sortable e2 h2) fun out h1 h2 => ?_
  have all : ∀ u ∈ out, ∃ x t, u = Value.str x t := fun u m => e2 u (h2.perm.mem_iff.mp m)
  have pm : (out.map sv).Perm xs := by
    have z := h2.perm.map sv
    rw [e1] at z
    exact z
  have up : Up ltText (out.map sv) := List.pairwise_map.mpr h1
  have ex : out.map sv = srt ltText xs := lin_text.is_srt up pm
  obtain ⟨ep, he'⟩ := PyProof.Rows.sortedAll_at s.heap its out.toArray
  have rel := vals_of_strs all
  rw [ex] at rel
  have hlen : ((srt ltText xs).map V.str).length ≤ sizeLine := by
    rw [List.length_map, (srt_perm ltText xs).length_eq]
    rw [List.length_map] at hz
    exact hz
  exact ⟨.ref _, upd H (s.heap.objs.size + 1) (.lst ((srt ltText xs).map V.str)), I.laid (t' := s.toks) (fun _ _ => PyProof.Rows.sortedAll_old) (Nat.le_succ _) ⟨hlen, out, ep, rel, he'⟩, rfl, q _ (I.hok.fresh (Nat.le_succ _))⟩
end
end Sx

set_option linter.all false
set_option maxRecDepth 100000
set_option maxHeartbeats 2000000
/-! name = {k: v for ..}, the name a local -/
namespace Sx
open PySem PySem.Spec PyProof.Rows L2
section
variable {X : Cx}
theorem ps_setDc {i : Nat} {y : PySem.Str} {py : Pos} {kx vx tg iter : Expr} {ifs : List Expr} {scope : Scope} {own : List (PySem.Str × Nat)} {pos spos : Pos} {wi : TI} {g : TG} {tt : TT} {tk tv : TE} (hc : X.calm = true) (hN : X.N.Nodup) (hy : X.N[i]? = some y) (local_ : X.env.scope.names.lookup y = some .local)
    (sw : swapsWith (.DictComp kx vx [⟨tg, iter, ifs, 0⟩] scope pos) (some (.Name y py)) spos.line X.env = pure true) (hi : PI X tg iter wi) (ok : BlkOk X.N X.env.scope scope own)
    (hg : ∀ s H C cl fp, PG (X.blk s H scope (compEnvC scope cl C X.env) fp) tg g) (ht : ∀ s H C cl fp, PTs (X.blk s H scope (compEnvC scope cl C X.env) fp) ifs tt)
    (hk : ∀ s H C cl fp, PE (X.blk s H scope (compEnvC scope cl C X.env) fp) kx tk) (he : ∀ s H C cl fp, PE (X.blk s H scope (compEnvC scope cl C X.env) fp) vx tv) (hs : ∀ x, foldedSetIterable iter X.env x = pure x := by intro _; rfl) :
    PS X (.Assign [.Name y py] (.DictComp kx vx [⟨tg, iter, ifs, 0⟩] scope pos) spos) (tAsg (tDc wi g tt tk tv (own.map (·.2))) (gName i)) := by
  refine ⟨fun pins s σ H D I h => ?_⟩
  rw [exec_Assign_Name_used _ _ _ _ sw]
  refine wpAny_bind (wpAny_standAt (wpAny_bind ?_))
  show wpAny _ X.A (do let _ ← comprehension (.DictComp kx vx [⟨tg, iter, ifs, 0⟩] scope pos) scope X.env (firstIterPos [⟨tg, iter, ifs, 0⟩] pos) newDict false (eval iter X.env) (some (assign (.Name y py) X.env))) _ _ s
  have h : tDc wi g tt tk tv (own.map (·.2)) σ H (fun x H1 => gName i x σ H1 D.nx) := h
  refine wpAny_bind (thn (dc_core (Qf := fun _ s' => SP X pins D .next s') hc hN I hi ok hg ht hk he hs h fun L C s' m H' I' q hn f => ?_) fun _ s' hq => wpAny_pure (wpAny_pure hq))
  show wpAny _ _ (assign (.Name y py) X.env (.ref L)) _ _ _
  refine wpAny_assign_Name (store_ok2 (v := V.ref L) I' hN hy (.inl local_) rfl (fun s2 I2 ⟨a, sb, ha⟩ => ?_) (.inr local_))
  obtain ⟨f0, f1, f2, f3, f4, f5⟩ := f
  have apart : C ≠ a := ha.elim (fun z => by rw [z]; exact f1) fun z e => f4 y a z e.symm
  exact ⟨m, hn.sameBut sb apart, fun h3 sb3 => ⟨_, H', I2.turned (t' := s2.toks) (fun b o hb e => (sb3.2 b hb).trans e) f0 f1 f3 f4 f5, q⟩⟩
theorem ps_setDt {i : Nat} {y : PySem.Str} {py : Pos} {kx vx tg iter : Expr} {ifs : List Expr} {scope : Scope} {own : List (PySem.Str × Nat)} {pos spos : Pos} {wi : TI} {g : TG} {tt : TT} {tk tv : TE} (hu : X.A.units + 64 < cLine) (hc : X.calm = true) (hN : X.N.Nodup) (hy : X.N[i]? = some y) (local_ : X.env.scope.names.lookup y = some .local)
    (sw : swapsWith (.DictComp kx vx [⟨tg, iter, ifs, 0⟩] scope pos) (some (.Name y py)) spos.line X.env = pure true) (hi : PI X tg iter wi) (ok : BlkOk X.N X.env.scope scope own)
    (hg : ∀ s H C cl fp, PG (X.blk s H scope (compEnvC scope cl C X.env) fp) tg g) (ht : ∀ s H C cl fp, PTs (X.blk s H scope (compEnvC scope cl C X.env) fp) ifs tt)
    (hk : ∀ s H C cl fp, PE (X.blk s H scope (compEnvC scope cl C X.env) fp) kx tk) (he : ∀ s H C cl fp, PE (X.blk s H scope (compEnvC scope cl C X.env) fp) vx tv) (hs : ∀ x, foldedSetIterable iter X.env x = pure x := by intro _; rfl) :
    PS X (.Assign [.Name y py] (.DictComp kx vx [⟨tg, iter, ifs, 0⟩] scope pos) spos) (tAsg (tDt wi g tt tk tv (own.map (·.2))) (gName i)) := by
  refine ⟨fun pins s σ H D I h => ?_⟩
  rw [exec_Assign_Name_used _ _ _ _ sw]
  refine wpAny_bind (wpAny_standAt (wpAny_bind ?_))
  show wpAny _ X.A (do let _ ← comprehension (.DictComp kx vx [⟨tg, iter, ifs, 0⟩] scope pos) scope X.env (firstIterPos [⟨tg, iter, ifs, 0⟩] pos) newDict false (eval iter X.env) (some (assign (.Name y py) X.env))) _ _ s
  have h : tDt wi g tt tk tv (own.map (·.2)) σ H (fun x H1 => gName i x σ H1 D.nx) := h
  refine wpAny_bind (thn (dt_run (Qf := fun _ s' => SP X pins D .next s') hu hc hN I hi ok hg ht hk he hs h fun L C s' m H' I' q hn f => ?_) fun _ s' hq => wpAny_pure (wpAny_pure hq))
  show wpAny _ _ (assign (.Name y py) X.env (.ref L)) _ _ _
  refine wpAny_assign_Name (store_ok2 (v := V.ref L) I' hN hy (.inl local_) rfl (fun s2 I2 ⟨a, sb, ha⟩ => ?_) (.inr local_))
  obtain ⟨f0, f1, f2, f3, f4, f5⟩ := f
  have apart : C ≠ a := ha.elim (fun z => by rw [z]; exact f1) fun z e => f4 y a z e.symm
  exact ⟨m, hn.sameBut sb apart, fun h3 sb3 => ⟨_, H', I2.turned (t' := s2.toks) (fun b o hb e => (sb3.2 b hb).trans e) f0 f1 f3 f4 f5, q⟩⟩
theorem sw_dict {kx vx : Expr} {gs : List Comprehension} {scope : Scope} {pos py : Pos} {y : PySem.Str} {l : Nat} {env : Env} (hk : env.scope.kind = .function) (hy : env.scope.names.lookup y = some .local) (hl : (py.line == pos.line) = true)
    (no : (scope.names.any fun (n, k) => n == y && (k == .local || k == .cell)) = false) : swapsWith (.DictComp kx vx gs scope pos) (some (.Name y py)) l env = pure true := by
  have ky : env.kindOf y = some .local := hy
  have kb : env.blockKind = .function := by unfold Env.blockKind; rw [hk] <;> rfl
  unfold swapsWith
  simp only [kb, ky, no, Expr.pos, hl]
  rfl
end
end Sx

set_option Elab.async false
set_option maxRecDepth 100000
set_option maxHeartbeats 4000000
namespace Mk
open PySem L2 Pk
abbrev sSymbols : Stmt := top 51
abbrev sActs : Stmt := top 52
abbrev sGuess : Stmt := top 53
/-- the rules as they are kept: tuples -/
abbrev Kept := List (Addr × Rl)
def refsK (R : Kept) : List V := R.map fun p => .ref p.1
def KeptAt (H : Hp) (R : Kept) : Prop := ∀ p ∈ R, H p.1 = some (.tup p.2.vs)
theorem KeptAt.mono {H H' : Hp} {R : Kept} (h : KeptAt H R) (e : Same H H') : KeptAt H' R := fun p m => e _ _ (h p m)
/-- k is put to the others, once -/
def addK {κ : Type} [DecidableEq κ] (l : List κ) (k : κ) : List κ := if k ∈ l then l else l ++ [k]
theorem put_keys {κ : Type} [DecidableEq κ] (kvs : List (κ × V)) (k : κ) (v : V) : (putK kvs k v).map (·.1) = addK (kvs.map (·.1)) k := by
  unfold putK addK
  by_cases c : (kvs.any fun kv => decide (kv.1 = k)) = true
  · have m : k ∈ kvs.map (·.1) := by
      obtain ⟨p, hp, e⟩ := List.any_eq_true.mp c
      exact List.mem_map.mpr ⟨p, hp, of_decide_eq_true e⟩
    rw [if_pos c, if_pos m, List.map_map]
    refine List.map_congr_left fun p _ => ?_
    show (if p.1 = k then (p.1, v) else p).1 = p.1
    split <;> rfl
  · have m : k ∉ kvs.map (·.1) := fun h => by
      obtain ⟨p, hp, e⟩ := List.mem_map.mp h
      exact c (List.any_eq_true.mpr ⟨p, hp, decide_eq_true e⟩)
    rw [if_neg c, if_neg m, List.map_append] <;> rfl
theorem once_add {κ : Type} [DecidableEq κ] (l : List κ) (x : κ) : Sx.once (l ++ [x]) = addK (Sx.once l) x := Sx.once_snoc l x
theorem add_map {α β : Type} [DecidableEq α] [DecidableEq β] {f : α → β} (inj : ∀ x y, f x = f y → x = y) (l : List α) (x : α) : addK (l.map f) (f x) = (addK l x).map f := by
  unfold addK
  by_cases c : x ∈ l
  · rw [if_pos c, if_pos (List.mem_map.mpr ⟨x, c, rfl⟩)]
  · have m : f x ∉ l.map f := fun h => by
      obtain ⟨y, m, e⟩ := List.mem_map.mp h
      exact c (inj y x e ▸ m)
    rw [if_neg c, if_neg m, List.map_append] <;> rfl
abbrev kT (x : PySem.Str) : Key := Sum.inr x
theorem kT_inj (x y : PySem.Str) (e : kT x = kT y) : x = y := Sum.inr.inj e
/-- the symbols of rules, rising -/
def symsOf (rs : List Rl) : List PySem.Str := Sx.srt Sx.ltText ((Sx.once (rs.map Rl.tp ++ rs.map Rl.sy)).filter fun x => decide (x ≠ nil0))
section
variable {P : Program} {w : World} {K : PySem.W.Frag} {mg : PySem.Str → Option Value} {base : Heap}
def spSymbols (K : PySem.W.Frag) : Sp := fun vs H Q _ => ∃ (a : Addr) (R : Kept), vs = [.ref a] ∧ SqT K H a (refsK R) ∧ KeptAt H R ∧ R.length ≤ 20000 ∧
  ∀ (H' : Hp) (p : Addr), Same H H' → H p = none → H' p = some (.tup ((symsOf (R.map (·.2))).map V.str)) → Q (.ref p) H'
abbrev nSymbols : List PySem.Str := ["rules", "rule", "found", "symbol"]
theorem scSymbols : FnScope nSymbols ["rules"] (defScope sSymbols) := ⟨rfl, rfl, rfl, by decide +kernel, rfl, by decide +kernel, by decide +kernel⟩
theorem ok_symbols {f : Addr} {fd : FuncData} (F : Fun K "symbols_of" "symbols_of" sSymbols f fd) (T : TM mg) : FnOk P w K mg base CX0 1 f fd ["rules"] (spSymbols K) := by
  refine F.ok scSymbols (fun vs H Q E h => ?_) (fun cdv A outer s H vs Q E hr h => ?_)
  · obtain ⟨a, R, rfl, _⟩ := h
    rfl
  · obtain ⟨a, R, rfl, hS, hK, most, k⟩ := h
    have hu := hu_of hr
    refine ⟨_, pss_cons (Sx.ps_setDc (i := 2) (own := [("rule", 1)]) (g := gName 1) (tt := tYes) (by rfl) scSymbols.nd rfl rfl (Sx.sw_dict rfl rfl rfl (by decide +kernel)) (pi_tup (pv 0))
        (blkOk_by (own := [("rule", 1)]) (N := nSymbols) (sc := defScope sSymbols) (by decide +kernel))
        (fun _ _ _ _ _ => pg_name (i := 1) scSymbols.nd rfl (Or.inl rfl)) (fun _ _ _ _ _ => pts_nil) (fun _ _ _ _ _ => pe_ix (r := rIxT K) ix_tup (pv 1) pe_int fun _ _ => rfl) (fun _ _ _ _ _ => pe_bl))
      (pss_cons (ps_for PassesOwn.never rfl (pi_tup (pv 0)) (pg_name (i := 1) scSymbols.nd rfl (Or.inl rfl))
        (pss_one (ps_dput hu (pv 2) (pe_ix ix_tup (pv 1) pe_int fun _ _ => rfl) pe_bl rfl)))
      (pss_one (ps_ret (pe_callTy call_tuple_of (by rfl) T.tuple PyProof.Rows.Boot.tuple (pa_cons (pe_callB Sx.cr_sortS (by rfl) T.sorted (by decide +kernel) (pa_cons (pe_lock (pe_lc (own := [("symbol", 3)]) (g := gName 3) (by rfl) scSymbols.nd (pi_keys (pv 2))
        (blkOk_by (own := [("symbol", 3)]) (N := nSymbols) (sc := defScope sSymbols) (by decide +kernel))
        (fun _ _ _ _ _ => pg_name (i := 3) scSymbols.nd rfl (Or.inl rfl)) (fun _ _ _ _ _ => pts_one (pt_cmpR op_ne (pv 3) pe_str (nomark _))) (fun _ _ _ _ _ => pv 3))) pa_nil)) pa_nil))))), ?_⟩
    have lR : (refsK R).length = R.length := List.length_map ..
    have at_ : ∀ {i : Nat} {v : V}, (refsK R)[i]? = some v → ∃ p, R[i]? = some p ∧ v = .ref p.1 := fun {i v} e => by
      unfold refsK at e
      rw [List.getElem?_map] at e
      obtain ⟨p, e1, e2⟩ := Option.map_eq_some_iff.mp e
      exact ⟨p, e1, e2.symm⟩
    have few : ∀ {n : Nat}, n ≤ 40000 → n < sizeLine := fun h => Nat.lt_of_le_of_lt h (by decide)
    refine ⟨_, rfl, a, rfl, ⟨_, hS⟩, fun D hD => dc_tup (fun i H' => Same H H' ∧ ∃ kvs : List (Key × V), H' D = some (.dK kvs) ∧ kvs.map (·.1) = (Sx.once ((R.take i).map fun p => p.2.tp)).map kT)
      ⟨same_new hD, [], upd_same, rfl⟩ (fun i H' _ h => Same.tup h.1 hS) ?_ ?_⟩
    · rintro i x H1 hi ⟨s1, kvs, hD1, hk⟩
      obtain ⟨p, ep, rfl⟩ := at_ hi
      have m := List.mem_of_getElem? ep
      refine ⟨rfl, ?_⟩
      refine ⟨_, rfl, p.1, p.2.vs, 2, .str p.2.tp, rfl, rfl, .inl (.inl (s1 _ _ (hK p m))), rfl, kvs, kT p.2.tp, rfl, hD1, ?_, same_mut s1 hD, _, upd_same, ?_⟩
      · refine few ?_
        have z := congrArg List.length hk
        rw [List.length_map, List.length_map] at z
        have y := Sx.once_len ((R.take i).map fun p => p.2.tp)
        rw [List.length_map, List.length_take] at y
        omega
      · rw [put_keys, hk, add_map kT_inj, ← once_add, take_at ep, List.map_append] <;> rfl
    · rintro H1 ⟨s1, kvs, hD1, hk⟩
      rw [lR, List.take_of_length_le (Nat.le_refl _)] at hk
      refine ⟨_, rfl, a, rfl, ⟨_, Same.tup s1 hS⟩, for_tup (K := K) (a := a) (xs := refsK R) (fun i σ H' => Same H H' ∧ ∃ (v : Option V) (kvs : List (Key × V)), σ = [some (.ref a), v, some (.ref D), none] ∧ H' D = some (.dK kvs) ∧ kvs.map (·.1) = (Sx.once (R.map (fun p => p.2.tp) ++ (R.take i).map fun p => p.2.sy)).map kT)
        ⟨s1, none, kvs, rfl, hD1, by rw [hk]; simp⟩ (fun i σ H' _ h => Same.tup h.1 hS) ?_ ?_⟩
      · rintro i x σ H2 hi ⟨s2, v, kv2, rfl, hD2, hk2⟩
        obtain ⟨p, ep, rfl⟩ := at_ hi
        have m := List.mem_of_getElem? ep
        refine ⟨_, rfl, _, rfl, p.1, p.2.vs, 6, .str p.2.sy, rfl, rfl, .inl (.inl (s2 _ _ (hK p m))), rfl, D, _, rfl, DPut.k (k := kT p.2.sy) hD2 ?_, same_mut s2 hD, _, _, rfl, upd_same, ?_⟩
        · refine few ?_
          have z := congrArg List.length hk2
          rw [List.length_map, List.length_map] at z
          have y := Sx.once_len (R.map (fun p => p.2.tp) ++ (R.take i).map fun p => p.2.sy)
          rw [List.length_append, List.length_map, List.length_map, List.length_take] at y
          omega
        · rw [put_keys, hk2, add_map kT_inj, ← once_add, take_at ep, List.map_append, List.append_assoc] <;> rfl
      · rintro σ H2 ⟨s2, v, kv2, rfl, hD2, hk2⟩
        rw [lR, List.take_of_length_le (Nat.le_refl _)] at hk2
        generalize hks : Sx.once (R.map (fun p => p.2.tp) ++ R.map fun p => p.2.sy) = ks at hk2
        have lk : kv2.length = ks.length := by
          have z := congrArg List.length hk2
          rwa [List.length_map, List.length_map] at z
        have lks : ks.length ≤ 40000 := by
          have y := Sx.once_len (R.map (fun p => p.2.tp) ++ R.map fun p => p.2.sy)
          rw [hks, List.length_append, List.length_map, List.length_map] at y
          omega
        have key : ∀ {i : Nat} {c : Key} {u : V}, kv2[i]? = some (c, u) → ∃ x, ks[i]? = some x ∧ c = kT x := fun {i c u} e => by
          have z := congrArg (fun l => l[i]?) hk2
          simp only [List.getElem?_map, e] at z
          rcases q : ks[i]? with _ | x
          · rw [q] at z; cases z
          · rw [q] at z; exact ⟨x, rfl, Option.some.inj z⟩
        refine ⟨D, _, hD2, trivial, fun od => ?_⟩
        refine ⟨_, rfl, D, od, rfl, .inl ⟨kv2, upd_same, fun L hL => ?_⟩⟩
        have LD : L ≠ D := fun e => by rw [e, upd_same] at hL; cases hL
        have hL2 : H2 L = none := by rw [upd_ne LD] at hL; exact hL
        have hL0 : H L = none := s2.free hL2
        refine lc_it walk_keys (fun i H' => H' = upd (upd H2 D (.frz od (.dK kv2))) L (.lst (((ks.take i).filter fun x => decide (x ≠ nil0)).map V.str))) rfl ?_ ?_ ?_
        · rintro i H' _ rfl
          rw [upd_ne LD.symm, upd_same]
        · rintro i y H3 H4 hi rfl ⟨rfl, c, u, e, rfl⟩
          obtain ⟨x, ex, rfl⟩ := key e
          refine ⟨rfl, ?_⟩
          refine ⟨_, rfl, rfl, _, rfl, ?_⟩
          rw [take_at ex, List.filter_append, List.map_append]
          rw [show decide (kV (kT x) = V.str (PySem.Str.ofString "")) = decide (x = nil0) from dec_str x nil0]
          by_cases n : x = nil0
          · rw [decide_eq_true n, List.filter_cons_of_neg (by simp [n])]
            refine iteF ?_
            simp
          · rw [decide_eq_false n, List.filter_cons_of_pos (by simp [n])]
            refine iteT ?_
            refine ⟨_, rfl, _, upd_same, ?_, ?_⟩
            · rw [List.length_map]
              refine few (Nat.le_trans (List.length_filter_le _ _) ?_)
              rw [List.length_take]
              omega
            · rw [upd_upd] <;> rfl
        · rintro H3 rfl
          rw [lk, List.take_of_length_le (Nat.le_refl _)]
          refine ⟨by rw [upd_ne LD.symm, upd_same], ?_⟩
          refine ⟨L, _, rfl, SqL.of (by rw [upd_ne LD, upd_same]), fun p hp => ?_⟩
          refine ⟨p, _, rfl, .inl ⟨SqL.of upd_same, fun q hq => ?_⟩⟩
          have s3 : Same H (upd (upd (upd H2 D (.frz od (.dK kv2))) L (.lst ((ks.filter fun x => decide (x ≠ nil0)).map V.str))) D (.dK kv2)) := same_mut (same_mut (same_mut s2 hD) hL0) hD
          refine k _ q ((s3.trans (same_new hp)).trans (same_new hq)) ((s3.trans (same_new hp)).free hq) ?_
          rw [upd_same]
          unfold symsOf
          rw [List.map_map, List.map_map, ← hks] <;> rfl
end
end Mk

set_option Elab.async false
set_option maxRecDepth 100000
set_option maxHeartbeats 4000000
namespace Mk
open PySem L2 Pk
/-- a key with its acts -/
abbrev Grp := List Key × List (List Key)
def TupAt (H : Hp) (a : Addr) (k : List Key) : Prop := H a = some (.tup (k.map kV))
/-- one entry of the table under work: a list of acts -/
def Ent (H : Hp) (p : List Key × V) (q : Grp) : Prop := p.1 = q.1 ∧ ∃ (la : Addr) (as : List Addr), p.2 = .ref la ∧ H la = some (.lst (as.map V.ref)) ∧ Paired (TupAt H) as q.2
def gAdd {κ α : Type} [DecidableEq κ] (G : List (κ × List α)) (k : κ) (a : α) : List (κ × List α) := if k ∈ G.map (·.1) then G.map (fun g => if g.1 = k then (g.1, g.2 ++ [a]) else g) else G ++ [(k, [a])]
theorem gAdd_keys {κ α : Type} [DecidableEq κ] (G : List (κ × List α)) (k : κ) (a : α) : (gAdd G k a).map (·.1) = addK (G.map (·.1)) k := by
  unfold gAdd addK
  by_cases c : k ∈ G.map (·.1)
  · rw [if_pos c, if_pos c, List.map_map]
    refine List.map_congr_left fun g _ => ?_
    show (if g.1 = k then (g.1, g.2 ++ [a]) else g).1 = g.1
    split <;> rfl
  · rw [if_neg c, if_neg c, List.map_append] <;> rfl
theorem ent_keys {H : Hp} : ∀ {kvs : List (List Key × V)} {G : List Grp}, Paired (Ent H) kvs G → kvs.map (·.1) = G.map (·.1)
  | _, _, .nil => rfl
  | _, _, .cons h t => by rw [List.map_cons, List.map_cons, h.1, ent_keys t]
/-- an entry stays where its list is another one -/
theorem Ent.other {H H' : Hp} {l : Addr} {p : List Key × V} {q : Grp} (e : Ent H p q) (ne : p.2 ≠ .ref l) (keep : ∀ b o, b ≠ l → H b = some o → H' b = some o) (isl : ∀ xs, H l ≠ some (.tup xs)) : Ent H' p q := by
  obtain ⟨e1, la, as, e2, e3, e4⟩ := e
  refine ⟨e1, la, as, e2, keep la _ (fun z => ne (by rw [e2, z])) e3, Paired.mapP e4 fun a k t => ?_⟩
  exact keep a _ (fun z => isl (k.map kV) (by rw [← z]; exact t)) t
theorem ent_all_other {H H' : Hp} {l : Addr} : ∀ {kvs : List (List Key × V)} {G : List Grp}, Paired (Ent H) kvs G → (V.ref l) ∉ kvs.map (·.2) → (∀ b o, b ≠ l → H b = some o → H' b = some o) → (∀ xs, H l ≠ some (.tup xs)) → Paired (Ent H') kvs G
  | _, _, .nil, _, _, _ => .nil
  | p :: _, _, .cons h t, no, keep, isl => .cons (h.other (fun e => no (by rw [List.map_cons, e]; exact List.mem_cons_self)) keep isl) (ent_all_other t (fun m => no (List.mem_cons_of_mem _ m)) keep isl)
/-- one act more in the list that stands -/
theorem ent_more {H H' : Hp} {l q5 : Addr} {k act : List Key} : ∀ {kvs : List (List Key × V)} {G : List Grp}, Paired (Ent H) kvs G → (kvs.map (·.1)).Nodup → (kvs.map (·.2)).Nodup → valV kvs k = some (.ref l) →
    (∀ b o, b ≠ l → H b = some o → H' b = some o) → (∀ xs, H l ≠ some (.tup xs)) → (∀ as : List Addr, H l = some (.lst (as.map V.ref)) → H' l = some (.lst ((as ++ [q5]).map V.ref))) → TupAt H' q5 act →
    Paired (Ent H') kvs (G.map fun g => if g.1 = k then (g.1, g.2 ++ [act]) else g)
  | _, _, .nil, _, _, v, _, _, _, _ => by cases v
  | p :: ps, _, .cons (b := q) (l₂ := qs) h t, n1, n2, v, keep, isl, app, ta => by
    obtain ⟨a1, a2⟩ := List.nodup_cons.mp n1
    obtain ⟨b1, b2⟩ := List.nodup_cons.mp n2
    rw [List.map_cons]
    by_cases c : p.1 = k
    · rw [valV_pos c] at v
      have v2 := Option.some.inj v
      have c2 : q.1 = k := h.1.symm.trans c
      rw [if_pos c2]
      have rest : (qs.map fun g : Grp => if g.1 = k then (g.1, g.2 ++ [act]) else g) = qs := by
        have no : k ∉ qs.map (·.1) := by rw [← ent_keys t, ← c]; exact a1
        conv => rhs; rw [← List.map_id qs]
        refine List.map_congr_left fun g m => ?_
        rw [if_neg fun e => no (List.mem_map.mpr ⟨g, m, e⟩)] <;> rfl
      rw [rest]
      refine .cons ?_ (ent_all_other t (by rw [← v2]; exact b1) keep isl)
      obtain ⟨e1, la, as, e2, e3, e4⟩ := h
      have el : la = l := by
        rw [e2] at v2
        exact V.ref.inj v2
      subst el
      refine ⟨e1, la, as ++ [q5], e2, app as e3, Paired.snoc (Paired.mapP e4 fun a k t => ?_) ta⟩
      exact keep a _ (fun z => isl (k.map kV) (by rw [← z]; exact t)) t
    · rw [valV_neg c] at v
      have c2 : ¬ q.1 = k := fun e => c (h.1.trans e)
      rw [if_neg c2]
      have mem : V.ref l ∈ ps.map (·.2) := by
        unfold valV at v
        obtain ⟨x, hx, ex⟩ := Option.map_eq_some_iff.mp v
        exact List.mem_map.mpr ⟨x, List.mem_of_find?_eq_some hx, ex⟩
      exact .cons (h.other (fun e => b1 (show p.2 ∈ _ by rw [e]; exact mem)) keep isl) (ent_more t a2 b2 v keep isl app ta)
def Rl.k3 (r : Rl) : List Key := [.inl r.st, .inr r.sg, .inr r.tp]
def Rl.a5 (r : Rl) : List Key := [.inl r.af, .inl r.mv, .inr r.de, .inr r.sy, .inr r.sa]
def grps (rs : List Rl) : List Grp := rs.foldl (fun G r => gAdd G r.k3 r.a5) []
theorem grps_snoc (rs : List Rl) (r : Rl) : grps (rs ++ [r]) = gAdd (grps rs) r.k3 r.a5 := by
  unfold grps
  rw [List.foldl_append] <;> rfl
theorem grps_keys (rs : List Rl) : (grps rs).map (·.1) = Sx.once (rs.map Rl.k3) := by
  have gen : ∀ (l pre : List Rl), (grps pre).map (·.1) = Sx.once (pre.map Rl.k3) → (grps (pre ++ l)).map (·.1) = Sx.once ((pre ++ l).map Rl.k3) := by
    intro l
    induction l with
    | nil => intro pre h; simpa using h
    | cons r l ih =>
      intro pre h
      have e : pre ++ r :: l = (pre ++ [r]) ++ l := by simp
      rw [e]
      refine ih (pre ++ [r]) ?_
      rw [grps_snoc, gAdd_keys, h, List.map_append]
      exact (once_add (pre.map Rl.k3) r.k3).symm
  simpa using gen rs [] rfl
/-- the acts' table as it is kept -/
def EntT (H : Hp) (p : List Key × V) (q : Grp) : Prop := p.1 = q.1 ∧ ∃ (t : Addr) (as : List Addr), p.2 = .ref t ∧ H t = some (.tup (as.map V.ref)) ∧ Paired (TupAt H) as q.2
def ActsAt (H : Hp) (p : Addr) (G : List Grp) : Prop := ∃ kvs, H p = some (.dT kvs) ∧ Paired (EntT H) kvs G
theorem EntT.mono {H H' : Hp} {p : List Key × V} {q : Grp} (s : ∀ b xs, H b = some (.tup xs) → H' b = some (.tup xs)) (e : EntT H p q) : EntT H' p q := by
  obtain ⟨e1, t, as, e2, e3, e4⟩ := e
  exact ⟨e1, t, as, e2, s _ _ e3, Paired.mapP e4 fun a k t => s _ _ t⟩
theorem entT_keys {H : Hp} : ∀ {kvs : List (List Key × V)} {G : List Grp}, Paired (EntT H) kvs G → kvs.map (·.1) = G.map (·.1)
  | _, _, .nil => rfl
  | _, _, .cons h t => by rw [List.map_cons, List.map_cons, h.1, entT_keys t]
theorem ActsAt.mono {H H' : Hp} {p : Addr} {G : List Grp} (h : ActsAt H p G) (e : Same H H') : ActsAt H' p G := by
  obtain ⟨kvs, h1, h2⟩ := h
  exact ⟨kvs, e _ _ h1, Paired.mapP h2 fun a b z => z.mono fun c xs y => e _ _ y⟩
end Mk

set_option linter.all false
set_option maxRecDepth 100000
set_option maxHeartbeats 2000000
/-! the comprehensions over a walk -/
namespace Sx
open PySem PySem.Spec PyProof.Rows L2
section
variable {J : It} {n : Nat} {G : Hp → Prop} {Y : Nat → Hp → V → Hp → Prop}
theorem dt_it (wk : Walk J n G Y) {g : TG} {tt : TT} {tk tv : TE} {vs : List Nat} {σ : L2.St} {H1 : Hp} {D : Addr} {Qd : Hp → Prop} (Pv : Nat → Hp → Prop) (h0 : Pv 0 (upd H1 D (.dT []))) (hG : ∀ i H, i ≤ n → Pv i H → G H)
    (hs : ∀ i x H H', i < n → Pv i H → Y i H x H' → g x (wipe σ vs) H' fun σ2 H2 => wipe σ2 vs = wipe σ vs ∧ tt σ2 H2 fun b H3 =>
      if b = true then tk σ2 H3 fun y H4 => tv σ2 H4 fun z H5 => ∃ (kvs : List (List Key × V)) (k : List Key) (p : Addr), y = .ref p ∧ H5 p = some (.tup (k.map kV)) ∧ H5 D = some (.dT kvs) ∧ kvs.length < sizeLine ∧ Pv (i + 1) (upd H5 D (.dT (putK kvs k z))) else Pv (i + 1) H3)
    (hd : ∀ H, Pv n H → Qd H) :
    ∃ W : Nat → Nat → Hp → Prop, (∃ m, W 0 m (upd H1 D (.dT []))) ∧ ∀ i m H, W i m H →
      (J.stop i H ∧ Qd H) ∨ (J.go i H ∧ ∃ Nx : Hp → Prop, (∀ H', Nx H' → ∃ m', m' < m ∧ W (i + 1) m' H') ∧ ∀ x H', J.yld i H x H' → g x (wipe σ vs) H' fun σ2 H2 => wipe σ2 vs = wipe σ vs ∧ tt σ2 H2 fun b H3 =>
        if b = true then tk σ2 H3 fun y H4 => tv σ2 H4 fun z H5 => ∃ (kvs : List (List Key × V)) (k : List Key) (p : Addr), y = .ref p ∧ H5 p = some (.tup (k.map kV)) ∧ H5 D = some (.dT kvs) ∧ kvs.length < sizeLine ∧ Nx (upd H5 D (.dT (putK kvs k z))) else Nx H3) := by
  refine ⟨fun i m H => m = n - i ∧ i ≤ n ∧ Pv i H, ⟨n, rfl, Nat.zero_le _, h0⟩, ?_⟩
  rintro i m H ⟨rfl, le, pv⟩
  have gH := hG i H le pv
  rcases Nat.lt_or_ge i n with lt | ge
  · exact .inr ⟨wk.goes i H lt gH, Pv (i + 1), fun H' q => ⟨n - (i + 1), by omega, rfl, lt, q⟩, fun x H' y => hs i x H H' lt pv (wk.yields i H x H' lt gH y)⟩
  · have e : i = n := by omega
    subst e
    exact .inl ⟨wk.stops H gH, hd H pv⟩
theorem sm_it {P : Program} {w : World} (wk : Walk J n G Y) {g : TG} {tt : TT} {te : TE} {vs : List Nat} {σ : L2.St} {H1 : Hp} {D : Addr} {Qd : Hp → Prop} (Pv : Nat → Hp → Prop) (h0 : Pv 0 (upd H1 D (MSetO P w D []))) (hG : ∀ i H, i ≤ n → Pv i H → G H)
    (hs : ∀ i x H H', i < n → Pv i H → Y i H x H' → g x (wipe σ vs) H' fun σ2 H2 => wipe σ2 vs = wipe σ vs ∧ tt σ2 H2 fun b H3 =>
      if b = true then te σ2 H3 fun y H4 => ∃ (x : Addr) (k : List Key) (L : Rows), y = .ref x ∧ H4 x = some (.tup (k.map kV)) ∧ H4 D = some (MSetO P w D L) ∧ TupsIn H4 L ∧ L.length + 1 ≤ 2000 ∧
        ∀ L2, (k ∈ L.map (·.2) → L2 = L) → (k ∉ L.map (·.2) → L2.Perm ((x, k) :: L)) → Pv (i + 1) (upd H4 D (MSetO P w D L2)) else Pv (i + 1) H3)
    (hd : ∀ H, Pv n H → Qd H) :
    ∃ W : Nat → Nat → Hp → Prop, (∃ m, W 0 m (upd H1 D (MSetO P w D []))) ∧ ∀ i m H, W i m H →
      (J.stop i H ∧ Qd H) ∨ (J.go i H ∧ ∃ Nx : Hp → Prop, (∀ H', Nx H' → ∃ m', m' < m ∧ W (i + 1) m' H') ∧ ∀ x H', J.yld i H x H' → g x (wipe σ vs) H' fun σ2 H2 => wipe σ2 vs = wipe σ vs ∧ tt σ2 H2 fun b H3 =>
        if b = true then te σ2 H3 fun y H4 => ∃ (x : Addr) (k : List Key) (L : Rows), y = .ref x ∧ H4 x = some (.tup (k.map kV)) ∧ H4 D = some (MSetO P w D L) ∧ TupsIn H4 L ∧ L.length + 1 ≤ 2000 ∧
          ∀ L2, (k ∈ L.map (·.2) → L2 = L) → (k ∉ L.map (·.2) → L2.Perm ((x, k) :: L)) → Nx (upd H4 D (MSetO P w D L2)) else Nx H3) := by
  refine ⟨fun i m H => m = n - i ∧ i ≤ n ∧ Pv i H, ⟨n, rfl, Nat.zero_le _, h0⟩, ?_⟩
  rintro i m H ⟨rfl, le, pv⟩
  have gH := hG i H le pv
  rcases Nat.lt_or_ge i n with lt | ge
  · exact .inr ⟨wk.goes i H lt gH, Pv (i + 1), fun H' q => ⟨n - (i + 1), by omega, rfl, lt, q⟩, fun x H' y => hs i x H H' lt pv (wk.yields i H x H' lt gH y)⟩
  · have e : i = n := by omega
    subst e
    exact .inl ⟨wk.stops H gH, hd H pv⟩
end
theorem paired_left {α β : Type} {F : α → β → Prop} : ∀ {l : List α} {m : List β}, Paired F l m → ∀ a ∈ l, ∃ b ∈ m, F a b
  | _, _, .nil, a, h => absurd h List.not_mem_nil
  | _, _, .cons r t, a, h => by
    rcases List.mem_cons.mp h with rfl | h
    · exact ⟨_, List.mem_cons_self, r⟩
    · obtain ⟨b, m, q⟩ := paired_left t a h
      exact ⟨b, List.mem_cons_of_mem _ m, q⟩
theorem paired_at {α β : Type} {F : α → β → Prop} : ∀ {l : List α} {m : List β} {i : Nat} {a : α}, Paired F l m → l[i]? = some a → ∃ b, m[i]? = some b ∧ F a b
  | _, _, _, _, .nil, e => by simp at e
  | _, _, 0, _, .cons r t, e => by simp at e; subst e; exact ⟨_, rfl, r⟩
  | _, _, i + 1, a, .cons r t, e => by
    obtain ⟨b, e1, e2⟩ := paired_at (i := i) (a := a) t (by simpa using e)
    exact ⟨b, by simpa using e1, e2⟩
theorem val_mem {κ : Type} [DecidableEq κ] {k : κ} {v : V} : ∀ {kvs : List (κ × V)}, (kvs.map (·.1)).Nodup → (k, v) ∈ kvs → valV kvs k = some v
  | [], _, m => absurd m List.not_mem_nil
  | p :: ps, nd, m => by
    obtain ⟨a, b⟩ := List.nodup_cons.mp nd
    rcases List.mem_cons.mp m with e | m
    · rw [← e]; exact valV_pos rfl
    · rw [valV_neg fun e => a (show p.1 ∈ _ by rw [e]; exact List.mem_map.mpr ⟨_, m, rfl⟩)]
      exact val_mem b m
end Sx

set_option Elab.async false
set_option maxRecDepth 100000
set_option maxHeartbeats 4000000
namespace Mk
open PySem L2 Pk
theorem Ent.keepL {H H' : Hp} {p : List Key × V} {q : Grp} (e : Ent H p q) (k1 : ∀ b xs, H b = some (.lst xs) → H' b = some (.lst xs)) (k2 : ∀ b xs, H b = some (.tup xs) → H' b = some (.tup xs)) : Ent H' p q := by
  obtain ⟨e1, la, as, e2, e3, e4⟩ := e
  exact ⟨e1, la, as, e2, k1 _ _ e3, Paired.mapP e4 fun a k t => k2 _ _ t⟩
theorem ent_get {H : Hp} {k : List Key} {v : V} : ∀ {kvs : List (List Key × V)} {G : List Grp}, Paired (Ent H) kvs G → valV kvs k = some v → ∃ (la : Addr) (as : List Addr) (g : Grp), v = .ref la ∧ H la = some (.lst (as.map V.ref)) ∧ (k, v) ∈ kvs ∧ g ∈ G ∧ as.length = g.2.length
  | _, _, .nil, e => by cases e
  | p :: ps, _, .cons h t, e => by
    by_cases c : p.1 = k
    · rw [valV_pos c] at e
      obtain ⟨_, la, as, e2, e3, e4⟩ := h
      have e' := Option.some.inj e
      exact ⟨la, as, _, by rw [← e', e2], e3, by rw [← e', ← c]; exact List.mem_cons_self, List.mem_cons_self, Paired.length e4⟩
    · rw [valV_neg c] at e
      obtain ⟨la, as, g, e2, e3, e4, e5, e6⟩ := ent_get t e
      exact ⟨la, as, g, e2, e3, List.mem_cons_of_mem _ e4, List.mem_cons_of_mem _ e5, e6⟩
theorem gAdd_len {G : List Grp} {k a : List Key} {n : Nat} (h : ∀ g ∈ G, g.2.length ≤ n) : ∀ g ∈ gAdd G k a, g.2.length ≤ n + 1 := by
  intro g m
  unfold gAdd at m
  split at m
  · obtain ⟨g0, m0, rfl⟩ := List.mem_map.mp m
    have z := h g0 m0
    split
    · rw [List.length_append]
      exact Nat.add_le_add_right z 1
    · omega
  · rcases List.mem_append.mp m with m | m
    · have z := h g m
      omega
    · rw [List.mem_singleton.mp m]
      exact Nat.le_add_left 1 n
theorem grps_len (rs : List Rl) : ∀ g ∈ grps rs, g.2.length ≤ rs.length := by
  have gen : ∀ (l pre : List Rl), (∀ g ∈ grps pre, g.2.length ≤ pre.length) → ∀ g ∈ grps (pre ++ l), g.2.length ≤ (pre ++ l).length := by
    intro l
    induction l with
    | nil => intro pre h; simpa using h
    | cons r l ih =>
      intro pre h
      have e : pre ++ r :: l = (pre ++ [r]) ++ l := by simp
      rw [e]
      refine ih (pre ++ [r]) ?_
      rw [grps_snoc, List.length_append]
      exact gAdd_len h
  exact gen rs [] fun g m => absurd m List.not_mem_nil
theorem put_none {κ : Type} [DecidableEq κ] {kvs : List (κ × V)} {k : κ} {v : V} (h : valV kvs k = none) : putK kvs k v = kvs ++ [(k, v)] := by
  unfold putK
  rw [if_neg]
  intro c
  rw [valV_any, h] at c
  cases c
def rTupOf (K : PySem.W.Frag) : List V → Hp → VK → Prop := fun xs H Q => ∃ p ys, xs = [V.ref p] ∧ ((SqL K H p ys ∧ ∀ l : Addr, H l = none → Q (V.ref l) (upd H l (HO.tup ys))) ∨ SqT K H p ys ∧ Q (V.ref p) H)
section
variable {P : Program} {w : World} {K : PySem.W.Frag} {mg : PySem.Str → Option Value} {base : Heap}
def spActs (K : PySem.W.Frag) : Sp := fun vs H Q _ => ∃ (a : Addr) (R : Kept), vs = [.ref a] ∧ SqT K H a (refsK R) ∧ KeptAt H R ∧ R.length ≤ 20000 ∧
  ∀ (H' : Hp) (p : Addr), Same H H' → H p = none → ActsAt H' p (grps (R.map (·.2))) → Q (.ref p) H'
abbrev nActs : List PySem.Str := ["rules", "found", "rule", "key"]
theorem scActs : FnScope nActs ["rules"] (defScope sActs) := ⟨rfl, rfl, rfl, by decide +kernel, rfl, by decide +kernel, by decide +kernel⟩
theorem at_refs {R : Kept} {i : Nat} {v : V} (e : (refsK R)[i]? = some v) : ∃ p, R[i]? = some p ∧ v = .ref p.1 := by
  unfold refsK at e
  rw [List.getElem?_map] at e
  obtain ⟨p, e1, e2⟩ := Option.map_eq_some_iff.mp e
  exact ⟨p, e1, e2.symm⟩
theorem ok_acts {f : Addr} {fd : FuncData} (F : Fun K "acts_by_key" "acts_by_key" sActs f fd) (T : TM mg) : FnOk P w K mg base CX0 1 f fd ["rules"] (spActs K) := by
  refine F.ok scActs (fun vs H Q E h => ?_) (fun cdv A outer s H vs Q E hr h => ?_)
  · obtain ⟨a, R, rfl, _⟩ := h
    rfl
  · obtain ⟨a, R, rfl, hS, hK, most, k⟩ := h
    have hu := hu_of hr
    have hu64 := hr.units
    refine ⟨_, pss_cons (ps_set (i := 1) scActs.nd rfl (Or.inr rfl) pe_dnewT)
      (pss_cons (ps_for PassesOwn.never rfl (pi_tup (pv 0)) (pg_name (i := 2) scActs.nd rfl (Or.inl rfl))
        (pss_one (ps_expr (pe_bm PySem.F.plainAttrs_list PySem.F.slot_list_append PySem.F.type_list_append mt_append (Sx.pe_setdT hu (pv 1) (pe_slice sl_tup (pv 2) po_none (po_some pe_int)) (pe_lst pa_nil) ⟨rfl, rfl, rfl, rfl⟩)
          (pa_cons (pe_slice sl_tup (pv 2) (po_some pe_int) po_none) pa_nil)))))
      (pss_one (ps_ret (pe_lock (Sx.pe_dt (own := [("key", 3)]) (g := gName 3) (tt := tYes) hu64 (by rfl) scActs.nd (pi_keys (pv 1))
        (blkOk_by (own := [("key", 3)]) (N := nActs) (sc := defScope sActs) (by decide +kernel))
        (fun _ _ _ _ _ => pg_name (i := 3) scActs.nd rfl (Or.inl rfl)) (fun _ _ _ _ _ => pts_nil) (fun _ _ _ _ _ => pv 3)
        (fun _ _ _ _ _ => pe_callTy (r := rTupOf K) call_tuple_of (by rfl) T.tuple PyProof.Rows.Boot.tuple (pa_cons (pe_dget hu (pv 1) (pv 3) fun _ _ => rfl) pa_nil))))))), ?_⟩
    intro D hD
    refine ⟨_, rfl, a, rfl, ⟨_, Same.tup (same_new hD) hS⟩, for_tup (K := K) (a := a) (xs := refsK R) (fun i σ H' => Same H H' ∧ ∃ (v : Option V) (kvs : List (List Key × V)), σ = [some (.ref a), some (.ref D), v, none] ∧ H' D = some (.dT kvs) ∧
        Paired (Ent H') kvs (grps ((R.take i).map (·.2))) ∧ (kvs.map (·.2)).Nodup ∧ ∀ p ∈ kvs, ∃ la, p.2 = .ref la ∧ H la = none)
      ⟨same_new hD, none, [], rfl, upd_same, .nil, List.nodup_nil, fun p m => absurd m List.not_mem_nil⟩ (fun i σ H' _ h => Same.tup h.1 hS) ?_ ?_⟩
    · rintro i x σ H2 hi ⟨s2, v, kvs, rfl, hD2, hE, nd2, news⟩
      obtain ⟨p, ep, rfl⟩ := at_refs hi
      have m := List.mem_of_getElem? ep
      refine ⟨_, rfl, D, rfl, .inr ⟨kvs, .inl hD2⟩, _, rfl, 3, rfl, p.1, p.2.vs, rfl, .inl (.inl (s2 _ _ (hK p m))), (show ¬ (HT.sIx 8 0 none = 0 ∧ HT.sIx 8 8 (some 3) = 8) by decide), fun q3 h3 => ?_⟩
      have cut3 : cutV p.2.vs none (some 3) = p.2.k3.map kV := rfl
      have cut5 : cutV p.2.vs (some 3) none = p.2.a5.map kV := rfl
      have c5 : ¬ (HT.sIx 8 0 (some 3) = 0 ∧ HT.sIx 8 8 none = 8) := by decide
      rw [cut3] at *
      have sA : Same H2 (upd H2 q3 (.tup (p.2.k3.map kV))) := same_new h3
      refine ⟨Nat.zero_le _, fun l0 h0 => ?_⟩
      have sB : Same H2 (upd (upd H2 q3 (.tup (p.2.k3.map kV))) l0 (.lst [])) := sA.trans (same_new h0)
      have n0 : H2 l0 = none := sA.free h0
      have lG : kvs.length ≤ 20000 := by
        have z := congrArg List.length (ent_keys hE)
        rw [grps_keys, List.length_map] at z
        have y := Sx.once_len (((R.take i).map (·.2)).map Rl.k3)
        rw [List.length_map, List.length_map, List.length_take] at y
        omega
      have few : ∀ {n : Nat}, n ≤ 40000 → n < sizeLine := fun h => Nat.lt_of_le_of_lt h (by decide)
      have next : grps ((R.take (i + 1)).map (·.2)) = gAdd (grps ((R.take i).map (·.2))) p.2.k3 p.2.a5 := by
        rw [take_at ep, List.map_append]
        exact grps_snoc _ _
      refine ⟨kvs, p.2.k3, q3, sB _ _ hD2, rfl, same_new h0 _ _ upd_same, few (by omega), fun v1 hv => ?_, fun hn => ?_⟩
      · obtain ⟨la, as, g, rfl, hla, mem, gm, gl⟩ := ent_get hE hv
        obtain ⟨la', e', nla⟩ := news _ mem
        cases e'
        have inG : p.2.k3 ∈ (grps ((R.take i).map (·.2))).map (·.1) := by
          rw [← ent_keys hE]
          exact valV_in hv
        refine ⟨.inl ⟨rfl, _, .inl (.inl (sB _ _ hla))⟩, _, rfl, 3, rfl, p.1, p.2.vs, rfl, .inl (.inl (sB _ _ (s2 _ _ (hK p m)))), c5, fun q5 h5 => ?_⟩
        have sC := sB.trans (same_new (o := .tup (cutV p.2.vs (some 3) none)) h5)
        have h5l : q5 ≠ la := fun e => by
          rw [e] at h5
          rw [sB _ _ hla] at h5
          cases h5
        have lA : as.length < sizeLine := by
          have z := grps_len _ g gm
          rw [List.length_map, List.length_take] at z
          exact few (by omega)
        refine ⟨la, _, _, rfl, rfl, sC _ _ hla, by rw [List.length_map]; exact lA, ?_⟩
        refine ⟨same_mut (s2.trans sC) nla, some (.ref p.1), kvs, rfl, ?_, ?_, nd2, news⟩
        · rw [upd_ne (ne_of hD2 hla (fun z => nomatch z))]
          exact sC _ _ hD2
        · rw [next]
          unfold gAdd
          rw [if_pos inG]
          refine ent_more (l := la) (q5 := q5) hE (by rw [ent_keys hE, grps_keys]; exact Sx.once_nodup _) nd2 hv (fun b o nb e => by rw [upd_ne nb]; exact sC _ _ e) (fun xs z => by rw [hla] at z; cases z) (fun bs z => ?_) ?_
          · rw [hla] at z
            injection z with z
            injection z with z
            rw [upd_same, z, List.map_append] <;> rfl
          · show (upd _ _ _) q5 = _
            rw [upd_ne h5l, upd_same, cut5]
      · have notG : p.2.k3 ∉ (grps ((R.take i).map (·.2))).map (·.1) := by
          rw [← ent_keys hE]
          exact valV_not hn
        have qD : q3 ≠ D := fun e => by rw [e, hD2] at h3; cases h3
        have lD : l0 ≠ D := fun e => by rw [e, hD2] at n0; cases n0
        have lq : l0 ≠ q3 := fun e => by rw [e, upd_same] at h0; cases h0
        generalize hX : upd (upd (upd H2 q3 (.tup (p.2.k3.map kV))) l0 (.lst [])) D (.dT (putK kvs p.2.k3 (.ref l0))) = X2
        have xl0 : X2 l0 = some (.lst []) := by rw [← hX, upd_ne lD, upd_same]
        have xo : ∀ b o, b ≠ D → H2 b = some o → X2 b = some o := fun b o ne e => by
          rw [← hX, upd_ne ne]
          exact sB _ _ e
        have pD : p.1 ≠ D := fun e => by
          have z := s2 _ _ (hK p m)
          rw [e, hD2] at z
          cases z
        refine ⟨.inl ⟨rfl, _, .inl (.inl xl0)⟩, _, rfl, 3, rfl, p.1, p.2.vs, rfl, .inl (.inl (xo _ _ pD (s2 _ _ (hK p m)))), c5, fun q5 h5 => ?_⟩
        have q5l : q5 ≠ l0 := fun e => by rw [e, xl0] at h5; cases h5
        have q5D : q5 ≠ D := fun e => by
          rw [e, ← hX, upd_same] at h5
          cases h5
        have lq5 : l0 ≠ q5 := q5l.symm
        refine ⟨l0, _, _, rfl, rfl, by rw [upd_ne lq5]; exact xl0, few (by show 0 ≤ 40000; omega), ?_⟩
        have nl0 : H l0 = none := s2.free n0
        have sX : Same H X2 := by
          rw [← hX]
          exact same_mut (s2.trans sB) hD
        have fin : ∀ b o, b ≠ D → H2 b = some o → (upd (upd X2 q5 (.tup (cutV p.2.vs (some 3) none))) l0 (.lst ([] ++ [V.ref q5]))) b = some o := fun b o ne e => by
          rw [upd_ne (ne_of_none e n0), upd_ne (fun z => by rw [← z] at h5; rw [xo b o ne e] at h5; cases h5)]
          exact xo b o ne e
        refine ⟨same_mut (same_mut sX (sX.free h5)) nl0, some (.ref p.1), kvs ++ [(p.2.k3, .ref l0)], rfl, ?_, ?_, ?_, ?_⟩
        · rw [upd_ne lD.symm, upd_ne q5D.symm, ← hX, upd_same, put_none hn]
        · rw [next]
          unfold gAdd
          rw [if_neg notG]
          refine Paired.snoc (Paired.mapP hE fun x y z => z.keepL (fun b xs e => fin b _ (fun ed => by rw [ed, hD2] at e; cases e) e) fun b xs e => fin b _ (fun ed => by rw [ed, hD2] at e; cases e) e) ?_
          refine ⟨rfl, l0, [q5], rfl, upd_same, .cons ?_ .nil⟩
          show (upd _ _ _) q5 = _
          rw [upd_ne q5l, upd_same, cut5]
        · rw [List.map_append]
          refine (List.perm_append_singleton _ _).nodup_iff.mpr (List.nodup_cons.mpr ⟨fun mm => ?_, nd2⟩)
          obtain ⟨x, hx, ex⟩ := List.mem_map.mp mm
          obtain ⟨g, _, _, la, as, e1, e2, _⟩ := Sx.paired_left hE x hx
          have ex' : x.2 = V.ref l0 := ex
          rw [ex'] at e1
          injection e1 with e1
          rw [← e1, n0] at e2
          cases e2
        · intro x hx
          rcases List.mem_append.mp hx with hx | hx
          · exact news x hx
          · rw [List.mem_singleton.mp hx]
            exact ⟨l0, rfl, nl0⟩
    · rintro σ H2 ⟨s2, v, kvs, rfl, hD2, hE, nd2, news⟩
      have lR : (refsK R).length = R.length := List.length_map ..
      rw [lR, List.take_of_length_le (Nat.le_refl _)] at hE
      generalize hG : grps (R.map (·.2)) = G at hE
      have keysG : kvs.map (·.1) = G.map (·.1) := ent_keys hE
      have ndG : (G.map (·.1)).Nodup := by rw [← hG, grps_keys]; exact Sx.once_nodup _
      have lk : kvs.length = G.length := Paired.length hE
      have lG : G.length ≤ 20000 := by
        have y := Sx.once_len ((R.map (·.2)).map Rl.k3)
        rw [← grps_keys, hG, List.length_map, List.length_map, List.length_map] at y
        omega
      refine ⟨D, _, hD2, trivial, fun od => ?_⟩
      refine ⟨_, rfl, D, od, rfl, .inr ⟨kvs, upd_same, fun N hN => ?_⟩⟩
      have ND : N ≠ D := fun e => by rw [e, upd_same] at hN; cases hN
      have hN2 : H2 N = none := by rw [upd_ne ND] at hN; exact hN
      refine Sx.dt_it walk_keysT (fun i H' => H' D = some (.frz od (.dT kvs)) ∧ (∀ b o, b ≠ D → H2 b = some o → H' b = some o) ∧ ∃ kv', H' N = some (.dT kv') ∧ Paired (EntT H') kv' (G.take i))
        ⟨by rw [upd_ne ND.symm, upd_same], fun b o ne e => by rw [upd_ne (ne_of_none e hN2), upd_ne ne]; exact e, [], upd_same, .nil⟩ (fun i H' _ h => h.1) ?_ ?_
      · rintro i y H3 H4 hi ⟨hf, old, kv', hN3, hP⟩ ⟨rfl, c, u, q, ec, rfl, hq⟩
        obtain ⟨g, eg, hent⟩ := Sx.paired_at hE ec
        obtain ⟨e1, la, as, e2, e3, e4⟩ := hent
        have e1' : c = g.1 := e1
        have e2' : u = .ref la := e2
        subst e2'
        have mem := List.mem_of_getElem? ec
        have laD : la ≠ D := fun e => by rw [e, hD2] at e3; cases e3
        have vq : valV kvs c = some (.ref la) := Sx.val_mem (by rw [keysG]; exact ndG) mem
        refine ⟨rfl, ?_⟩
        refine ⟨_, rfl, _, rfl, _, rfl, D, _, rfl, .inr ⟨kvs, c, q, .inr ⟨od, hf⟩, rfl, hq, vq.symm⟩, la, _, rfl, .inl ⟨.inl (.inl (old _ _ laD e3)), fun t ht => ?_⟩⟩
        have tN : N ≠ t := fun e => by rw [← e, hN3] at ht; cases ht
        have qt : q ≠ t := fun e => by rw [← e, hq] at ht; cases ht
        have keys' : kv'.map (·.1) = (G.take i).map (·.1) := entT_keys hP
        have new : c ∉ kv'.map (·.1) := by
          rw [keys', e1', List.map_take]
          intro mm
          obtain ⟨j, hj, ej⟩ := List.getElem_of_mem mm
          rw [List.length_take] at hj
          rw [List.getElem_take] at ej
          have hi' : i < (G.map (·.1)).length := by rw [List.length_map]; exact (List.getElem?_eq_some_iff.mp eg).1
          have z : (G.map (·.1))[i] = g.1 := by
            rw [List.getElem_map]
            exact congrArg Prod.fst (List.getElem?_eq_some_iff.mp eg).2
          exact List.pairwise_iff_getElem.mp ndG j i (by omega) hi' (by omega) (by rw [ej, z])
        have pn : valV kv' c = none := by
          rcases z : valV kv' c with _ | z1
          · rfl
          · exact absurd (valV_in z) new
        have tups : ∀ b xs, H4 b = some (.tup xs) → (upd (upd H4 t (.tup (as.map V.ref))) N (.dT (putK kv' c (.ref t)))) b = some (.tup xs) := fun b xs e => by
          rw [upd_ne (ne_of e hN3 (fun z => nomatch z)), upd_ne (ne_of_none e ht)]
          exact e
        refine ⟨kv', c, q, rfl, by rw [upd_ne qt]; exact hq, by rw [upd_ne tN]; exact hN3, ?_, ?_, ?_, _, upd_same, ?_⟩
        · have z := Paired.length hP
          rw [List.length_take] at z
          exact Nat.lt_of_le_of_lt (show kv'.length ≤ 20000 by omega) (by decide)
        · have tD : D ≠ t := fun e => by rw [← e, hf] at ht; cases ht
          rw [upd_ne ND.symm, upd_ne tD]
          exact hf
        · intro b o ne e
          have z := old b o ne e
          rw [upd_ne (ne_of_none e hN2), upd_ne (ne_of_none z ht)]
          exact z
        · rw [put_none pn] at tups ⊢
          rw [take_at eg]
          refine Paired.snoc (Paired.mapP hP fun x y z => z.mono tups) ⟨e1', t, as, rfl, by rw [upd_ne tN.symm, upd_same], Paired.mapP e4 fun a k z => tups _ _ (old _ _ (fun ed => ?_) z)⟩
          have z' : H2 a = some (.tup (k.map kV)) := z
          rw [ed, hD2] at z'
          cases z'
      · rintro H3 ⟨hf, old, kv', hN3, hP⟩
        rw [lk, List.take_of_length_le (Nat.le_refl _)] at hP
        refine ⟨hf, k _ N (fun b o e => ?_) (s2.free hN2) ⟨kv', by rw [upd_ne ND]; exact hN3, ?_⟩⟩
        · have bD : b ≠ D := ne_of_none e hD
          rw [upd_ne bD]
          exact old b o bD (s2 b o e)
        · rw [hG]
          exact Paired.mapP hP fun x y z => z.mono fun b xs e => by
            rw [upd_ne (ne_of e hf (fun z => nomatch z))]
            exact e
end
end Mk

set_option Elab.async false
set_option maxRecDepth 100000
set_option maxHeartbeats 4000000
namespace Mk
open PySem L2 Pk
theorem upd_id {H : Hp} {a : Addr} {o : HO} (h : H a = some o) : upd H a o = H := by
  funext b
  by_cases e : b = a
  · rw [e, upd_same, h]
  · rw [upd_ne e]
def guessOf (G : List Grp) : Option (List Key) := (G.find? fun g => decide (1 < g.2.length)).map (·.1)
def GuessV (H : Hp) (v : V) : Option (List Key) → Prop
  | none => v = .non
  | some k => ∃ q, v = .ref q ∧ TupAt H q k
theorem find_at {α : Type} {p : α → Bool} : ∀ {l : List α} {i : Nat} {x : α}, l[i]? = some x → p x = true → (∀ y ∈ l.take i, p y = false) → l.find? p = some x
  | [], i, x, e, _, _ => by simp at e
  | y :: l, 0, x, e, h, _ => by
    simp at e
    subst e
    rw [List.find?_cons_of_pos h]
  | y :: l, i + 1, x, e, h, b => by
    have n : p y = false := b y (by rw [List.take_succ_cons]; exact List.mem_cons_self)
    rw [List.find?_cons_of_neg (by rw [n]; decide)]
    exact find_at (by simpa using e) h fun z m => b z (by rw [List.take_succ_cons]; exact List.mem_cons_of_mem _ m)
section
variable {P : Program} {w : World} {K : PySem.W.Frag} {mg : PySem.Str → Option Value} {base : Heap}
def spGuess : Sp := fun vs H Q _ => ∃ (d : Addr) (G : List Grp), vs = [.ref d] ∧ ActsAt H d G ∧ (G.map (·.1)).Nodup ∧ (∀ g ∈ G, g.2.length ≤ 20000) ∧ ∀ v, GuessV H v (guessOf G) → Q v H
theorem scGuess : FnScope ["acts", "key"] ["acts"] (defScope sGuess) := ⟨rfl, rfl, rfl, by decide +kernel, rfl, by decide +kernel, by decide +kernel⟩
theorem ok_guess {f : Addr} {fd : FuncData} (F : Fun K "first_guess" "first_guess" sGuess f fd) (T : TM mg) : FnOk P w K mg base CX0 1 f fd ["acts"] spGuess := by
  refine F.ok scGuess (fun vs H Q E h => ?_) (fun cdv A outer s H vs Q E hr h => ?_)
  · obtain ⟨a, G, rfl, _⟩ := h
    rfl
  · obtain ⟨d, G, rfl, ⟨kvs, hd, hP⟩, nd, few, k⟩ := h
    have hu := hu_of hr
    refine ⟨_, pss_cons (ps_lock (ps_for PassesOwn.never rfl (pi_keys (pv 0)) (pg_name (i := 1) scGuess.nd rfl (Or.inl rfl))
        (pss_one (ps_if (pt_cmpR op_gt (pe_callB call_len_seq (by rfl) T.len PySem.boot_len (pa_cons (pe_dget hu (pv 0) (pv 1) fun _ _ => rfl) pa_nil)) pe_int (nomark _)) (pss_one (ps_ret (pv 1))) pss_nil))))
      (pss_one (ps_ret pe_non)), ?_⟩
    have back : ∀ od, upd (upd H d (.frz od (.dT kvs))) d (.dT kvs) = H := fun od => by rw [upd_upd, upd_id hd]
    have keysG : kvs.map (·.1) = G.map (·.1) := entT_keys hP
    refine ⟨d, _, hd, trivial, fun od => ?_⟩
    refine ⟨_, rfl, d, od, rfl, .inr ⟨kvs, upd_same, for_it walk_keysT (fun i σ H' => H' = upd H d (.frz od (.dT kvs)) ∧ (∃ v : Option V, σ = [some (.ref d), v]) ∧ ∀ g ∈ G.take i, decide (1 < g.2.length) = false)
      ⟨rfl, ⟨none, rfl⟩, fun g m => absurd m (by simp)⟩ (fun i σ H' _ h => by rw [h.1, upd_same]) ?_ ?_⟩⟩
    · rintro i y σ H3 H4 hi ⟨rfl, ⟨v, rfl⟩, before⟩ ⟨rfl, c, u, q, ec, rfl, hq⟩
      obtain ⟨g, eg, e1, t, as, e2, e3, e4⟩ := Sx.paired_at hP ec
      have e1' : c = g.1 := e1
      have e2' : u = .ref t := e2
      subst e2'
      have mem := List.mem_of_getElem? ec
      have gm := List.mem_of_getElem? eg
      have vq : valV kvs c = some (.ref t) := Sx.val_mem (by rw [keysG]; exact nd) mem
      have td : t ≠ d := fun e => by rw [e, hd] at e3; cases e3
      have la : as.length = g.2.length := Paired.length e4
      refine ⟨_, rfl, _, rfl, d, _, rfl, .inr ⟨kvs, c, q, .inr ⟨od, upd_same⟩, rfl, hq, vq.symm⟩, t, _, rfl, .inr (.inl (.inl (by rw [upd_ne td]; exact e3))), _, _, rfl, rfl, _, rfl, ?_⟩
      rw [List.length_map, la]
      refine ite2 (fun big => ?_) (fun small => ?_)
      · have big' : 1 < g.2.length := by
          have z := of_decide_eq_true big
          omega
        refine ⟨_, rfl, upd_same, ?_⟩
        rw [back]
        refine k _ ?_
        have ff : G.find? (fun g => decide (1 < g.2.length)) = some g := find_at eg (decide_eq_true big') before
        unfold guessOf
        rw [ff]
        have qd : q ≠ d := fun e => by
          rw [e, upd_same] at hq
          cases hq
        rw [upd_ne qd] at hq
        exact ⟨q, rfl, by show TupAt H q g.1; rw [← e1']; exact hq⟩
      · have small' : ¬ 1 < g.2.length := fun z => small (decide_eq_true (by omega))
        refine ⟨rfl, ⟨_, rfl⟩, fun x m => ?_⟩
        rw [take_at eg] at m
        rcases List.mem_append.mp m with m | m
        · exact before x m
        · rw [List.mem_singleton.mp m]
          exact decide_eq_false small'
    · rintro σ H3 ⟨rfl, ⟨v, rfl⟩, before⟩
      refine ⟨upd_same, ?_⟩
      show Q .non _
      rw [back]
      refine k _ ?_
      have lk : kvs.length = G.length := Paired.length hP
      rw [lk, List.take_of_length_le (Nat.le_refl _)] at before
      unfold guessOf
      rw [List.find?_eq_none.mpr fun g m z => by rw [before g m] at z; cases z]
      rfl
end
end Mk

set_option linter.all false
set_option maxRecDepth 100000
set_option maxHeartbeats 3200000
/-! set(ints), sorted(set of ints), more than 64 of them, too -/
namespace Sx
open PySem PySem.Spec PyProof.Rows L2
section
variable {P : Program} {w : World} {A : Around} {E : Value → Shared → Prop} {s : Shared}
abbrev bareSet (w : World) : Obj := { cls := .type "set", dict := none, data := .set #[] 0 (.fresh 0 0 (!w.params.followText "set-order")) }
theorem set_ints_list {l : Addr} {items : Array Value} (ns : List Int) {Q : Value → Shared → Prop} (hh : A.handled = none) (hl : s.heap.IsList l items) (hit : IntsAre items.toList ns) (hb : ns.length + 1 < scanBound)
    (h : ∀ (h' : Heap) (tk c : Nat), SetR w h' s.heap.objs.size (fun j => decide (j ∈ ns)) c → c ≤ ns.length → (∀ b o, s.heap.get? b = some o → h'.get? b = some o) → Q (.ref s.heap.objs.size) { s with heap := h', toks := tk }) :
    wpAny (model P w) A (call (.type "set") [.ref l]) Q E s := by
  have isz : items.size = ns.length := by
    have q := IntsAre.length hit
    rwa [Array.length_toList] at q
  obtain ⟨c, tl, hmro⟩ := F.called_set.mro
  have hmade := F.called_set.made
  have hsub := F.called_set.sub
  refine wpAny_call (codeAny_of_tree ?_)
  show wpAny _ _ (callAny (.type "set") _) _ _ _
  refine wpAny_pure ⟨Code.quiet_builtin _ (by decide +kernel), codeAny_builtin F.entry_type_call ?_⟩
  rw [Around.under_plain (weight_type_call_type "set" [.ref l] []) rfl]
  have h1 := F.called_set.notType
  have h2 := F.called_set.canCreate
  have hct := F.typeCall_set_1 (.ref l)
  repeat (any_goals (first | assumption | wp_step))
  refine codeAny_mono (code_set_led1 (.ref l) (E := E) (Q₁ := fun obj s₁ => obj = .ref s.heap.objs.size ∧ s₁ = { s with heap := s.heap.push (bareSet w) }) ⟨rfl, rfl⟩) fun r s₁ hr => ?_
  rcases r with e | fl
  · exact hr
  · cases fl with
    | ret obj =>
      obtain ⟨rfl, rfl⟩ := hr
      have at_ : (s.heap.push (bareSet w)).get? s.heap.objs.size = some (bareSet w) := Heap.get?_push_size _ rfl
      have hT : Shared.TypeIs { s with heap := s.heap.push (bareSet w) } (.ref s.heap.objs.size) "set" := ⟨_, at_, rfl⟩
      have hli := F.called_set.init.lookup
      have hbi := F.called_set.init.bind (.ref s.heap.objs.size)
      repeat (any_goals (first | assumption | wp_step))
      refine codeAny_mono (codeAny_call_builtin (R := wants (fun r s₂ => r = .none ∧ ∃ h' tk c, s₂ = { s with heap := h', toks := tk } ∧ SetR w h' s.heap.objs.size (fun j => decide (j ∈ ns)) c ∧ c ≤ ns.length ∧
          (∀ b o, s.heap.get? b = some o → h'.get? b = some o)) E) F.called_set.init.plain F.entry_set_init (check_set_init_1 hT ?_)) fun r₂ s₂ hr₂ => ?_
      · obtain ⟨ol, hol, hcl, nl, hdl⟩ := hl
        obtain ⟨ocls, odict, odata, oslots⟩ := ol
        simp only at hcl hdl
        subst hcl; subst hdl
        have hol' : (s.heap.push (bareSet w)).get? l = some { cls := .type "list", dict := odict, data := .seq items nl, slots := oslots } := Heap.get?_push_of_some _ hol
        have hsls := F.sub_list_set
        have hslf := F.sub_list_frozenset
        have hne : (Value.type "list" == Value.type "dict") = false := by decide
        have hl1 : (s.heap.push (bareSet w)).IsList l items := ⟨_, hol', rfl, nl, rfl⟩
        unfold Builtin.«set.__init__» noKeywords Builtin.Frozenset.updateFrom
        generalize hPI : pyIter = PI
        wp_walk
        subst hPI
        refine wpAny_pyIter_list hl1 ?_
        refine wpAny_bind (wpAny_runValue ?_)
        have lt : l < s.heap.objs.size := Heap.lt_size hol
        have hh3 : A.in1.in1.in1.handled = none := by simp [hh]
        have neI : l ≠ (s.heap.push (bareSet w)).objs.size := by
          rw [Heap.size_push]; exact Nat.ne_of_lt (Nat.lt_succ_of_lt lt)
        have out : s.heap.objs.size ∉ [(s.heap.push (bareSet w)).objs.size, l] := by
          rw [Heap.size_push]; simp only [List.mem_cons, List.mem_singleton, List.not_mem_nil, or_false, not_or]
          exact ⟨Nat.ne_of_lt (Nat.lt_succ_self _), Nat.ne_of_gt lt⟩
        have hval : ∀ (i : Nat) (v : Value), items[i]? = some v → ∃ k t, ns[i]? = some k ∧ v = .int k t := fun i v hv => by
          have hi : i < ns.length := by rw [← isz]; exact (Array.getElem?_eq_some_iff.mp hv).1
          obtain ⟨t, e⟩ := PyProof.Rows.IntsAre.int_at hit i v (by rw [Array.getElem?_toList]; exact hv)
          refine ⟨ns[i], t, List.getElem?_eq_getElem hi, ?_⟩
          rw [e, List.getD_eq_getElem?_getD, List.getElem?_eq_getElem hi] <;> rfl
        refine set_update_ints ((Walks.list hh3 _ l neI items).toS) s.heap.objs.size out ns isz hb hval (items.size - 0) 0 _ (by omega) (Nat.zero_le _) ⟨⟨_, Heap.get?_push_size _ rfl, rfl, rfl⟩, (hl1.push _)⟩ ?_ ?_
        · have got : ((s.heap.push (bareSet w)).push { cls := .type "list_iterator", data := .fields #[.ref l, .int 0 0] }).get? s.heap.objs.size = some (bareSet w) := Heap.get?_push_of_some _ at_
          exact ⟨0, Nat.le_refl 0, setR_new_at got⟩
        · intro s' c' hm hc' hS'
          obtain ⟨h', g2, d', tk', os'⟩ := s'
          cases (show g2 = s.gens from hm.gens)
          cases (show d' = s.drawn from hm.drawn)
          cases (show os' = s.os from hm.os)
          show wpAny _ _ _ _ _ _
          refine wpAny_pure ?_
          show wpAny _ _ (ret Value.none) _ _ _
          rw [isz] at hc'
          refine wpAny_pure ⟨rfl, h', tk', c', rfl, hS', hc', fun b o e => ?_⟩
          have b0 : b < s.heap.objs.size := Heap.lt_size e
          refine hm.heap b o ?_ (Heap.get?_push_of_some _ (Heap.get?_push_of_some _ e))
          rw [Heap.size_push]
          simp only [List.mem_cons, List.mem_singleton, List.not_mem_nil, or_false, not_or]
          exact ⟨Nat.ne_of_lt b0, Nat.ne_of_lt (Nat.lt_succ_of_lt b0)⟩
      · rcases r₂ with e | fl₂
        · exact hr₂
        · cases fl₂ with
          | ret r =>
            obtain ⟨rfl, h', tk, c', rfl, hS', hc', hk'⟩ := hr₂
            repeat (any_goals (first | assumption | wp_step))
            exact h _ _ _ hS' hc' hk'
          | _ => exact hr₂.elim
    | _ => exact hr.elim
theorem sorted_ints {a : Addr} {S : Int → Bool} {n : Nat} {Q : Value → Shared → Prop} (R : SetR w s.heap a S n) (hh : A.handled = none)
    (hQ : ∀ s' p (out : List Value) (c : Nat) (ns : List Int), (∀ b o, s.heap.get? b = some o → s'.heap.get? b = some o) → s'.gens = s.gens → s'.os = s.os → s.heap.objs.size ≤ p →
      s'.heap.get? p = some (seqObj "list" out.toArray c) → IntsAre out ns → ns.Pairwise (· < ·) → (∀ k, k ∈ ns ↔ S k = true) → ns.length = n → Q (.ref p) s') :
    wpAny (model P w) A (call (.builtin "sorted") [.ref a]) Q E s := by
  obtain ⟨o, es, ep, t, ho, hex, hd, g, nd, hm, hb, hf, hn, hr, hl⟩ := R
  refine Calls.call_function_entry kind_sorted plain_sorted entry_sorted (args_sorted1 _) ?_
  unfold Builtin.«sorted»
  refine wpAny_bind (m := checkCount "sorted" 1 1 _) (wpAny_pure ?_)
  refine wpAny_bind (collect_set (A := A.in1) hh ⟨o, ho, hex.1, hd⟩ hf hb hr hl fun s1 vs k1 hz g1 o1 pm => ?_)
  have lv : vs.length = n := by rw [pm.length_eq, List.length_map, Array.length_toList]; exact hn
  have hI : IntsAre vs (vs.map SrtO.iv) := SrtO.ints_iv fun v hv => by
    obtain ⟨e, he, q⟩ := List.mem_map.mp (pm.mem_iff.mp hv)
    obtain ⟨k, tk, h1, _⟩ := g e he
    exact ⟨k, tk, by rw [← q]; exact h1⟩
  have keys : es.toList.map (fun e => SrtO.iv e.2) = es.toList.map keyOf := List.map_congr_left fun e he => by
    obtain ⟨k, tk, h1, _⟩ := g e he
    have z : keyOf e = Builtin.Re.reRawOf e.2 := rfl
    rw [z, h1] <;> rfl
  have pk : (vs.map SrtO.iv).Perm (es.toList.map keyOf) := by
    have q := pm.map SrtO.iv
    rw [List.map_map] at q
    rw [← keys]
    exact q
  have zz : vs.length ≤ sizeLine := by rw [lv, ← hn, sizeLine_eq]; unfold scanBound at hb; omega
  refine wpAny_bind (wpAny_newList ?_ zz)
  have hoL : (s1.heap.push (seqObj "list" vs.toArray 0)).get? s1.heap.objs.size = some (seqObj "list" vs.toArray 0) := Heap.get?_push_size _ rfl
  refine wpAny_bind (wpAny_holding (wpAny_call_entry PyProof.Rows.slot_list_sort ⟨_, hoL, rfl⟩ PyProof.Rows.entry_list_sort
    (SrtO.list_sort_ord (s := { s1 with heap := s1.heap.push (seqObj "list" vs.toArray 0) }) SrtO.swo_int hoL zz (fun h2 => SrtO.ints_sortable hI h2) fun out h1 h2 => ⟨_, rfl, ?_⟩) (PyProof.Rows.args_list_sort _)))
  obtain ⟨a1, a2, a3⟩ := SrtO.ints_out hI h1 h2
  obtain ⟨c, hc⟩ := PyProof.Rows.sortedHeap_at (vs := vs) (out := out.toArray) hoL
  have pn : (out.map SrtO.iv).Perm (es.toList.map keyOf) := a2.trans pk
  refine wpAny_pure ⟨_, rfl, hQ _ s1.heap.objs.size out c _ (fun b u e => ?_) g1 o1 hz hc a1 (lt_of_le_nodup _ a3 (pn.nodup_iff.mpr nd)) (fun k => by rw [pn.mem_iff, ← hm k]) ?_⟩
  · have lt := Heap.lt_size (k1 b u e)
    show (sortedHeap (s1.heap.push (seqObj "list" vs.toArray 0)) s1.heap.objs.size vs _).get? b = some u
    rw [sortedHeap_old (Nat.ne_of_lt lt) (by rw [size_push']; exact Nat.lt_succ_of_lt lt)]
    exact Heap.get?_push_of_some _ (k1 b u e)
  · rw [pn.length_eq, List.length_map, Array.length_toList]; exact hn
end
section
variable {X : Cx}
/-- set(ints), of a list or a tuple -/
def rSetI (K : PySem.W.Frag) (w : World) : List V → Hp → VK → Prop := fun xs H Q => ∃ (l : Addr) (ns : List Int), xs = [V.ref l] ∧ (SqL K H l (ns.map V.int) ∨ SqT K H l (ns.map V.int)) ∧ ns.length < 4000 ∧
  ∀ (a : Addr) (n : Nat), n ≤ ns.length → H a = none → Q (.ref a) (upd H a (SetO w a (fun j => decide (j ∈ ns)) n))
theorem cr_setI (hc : X.calm = true) : CallR X (.type "set") (rSetI X.K X.w) := by
  intro pins s σ H xs us Q I r h
  obtain ⟨l, ns, rfl, hs, few, q⟩ := h
  rw [Vals.ref1 r]
  have hn : H s.heap.objs.size = none := I.hok.fresh (Nat.le_refl _)
  have fin : ∀ (h' : Heap) (tk c : Nat), SetR X.w h' s.heap.objs.size (fun j => decide (j ∈ ns)) c → c ≤ ns.length → (∀ b o, s.heap.get? b = some o → h'.get? b = some o) →
      EP X pins σ Q (.ref s.heap.objs.size) { s with heap := h', toks := tk } := fun h' tk c R le k =>
    ⟨.ref _, _, I.laid (t' := tk) k (Nat.le_refl _) (setO_new R), rfl, q _ c le hn⟩
  rcases hs with hs | hs
  · obtain ⟨its, rv, hl, hz⟩ := I.list hs
    exact set_ints_list ns (I.ok.hd hc) hl.isList (by simpa using rv.ints) (by unfold scanBound; omega) fin
  · obtain ⟨its, rv, hl, hz⟩ := I.tuple hs
    exact call_set_tupI ns (I.ok.hd hc) hl (by simpa using rv.ints) (by unfold scanBound; omega) fin
/-- sorted(set of ints) -/
def rSortI (w : World) : List V → Hp → VK → Prop := fun vs H Q => ∃ (a : Addr) (S : Int → Bool) (n : Nat), vs = [V.ref a] ∧ H a = some (SetO w a S n) ∧ n ≤ 4096 ∧
  ∀ (ns : List Int) (p : Addr), ns.Pairwise (· < ·) → (∀ k : Int, k ∈ ns ↔ S k = true) → ns.length = n → H p = none → Q (.ref p) (upd H p (.lst (ns.map V.int)))
theorem cr_sortI (hc : X.calm = true) : CallR X (.builtin "sorted") (rSortI X.w) := by
  intro pins s σ H vs us Q I r h
  obtain ⟨a, S, n, rfl, ha, few, q⟩ := h
  rw [Vals.ref1 r]
  refine sorted_ints (setO_get I ha) (I.ok.hd hc) fun s' p out c ns k g o hp hg hi hs hm hl => ?_
  have hlen : (ns.map V.int).length ≤ sizeLine := by rw [List.length_map, hl, sizeLine_eq]; omega
  have hn : H p = none := I.hok.fresh hp
  have J : Inv X pins σ (upd H p (.lst (ns.map V.int))) { s with heap := s'.heap, gens := s'.gens, drawn := s'.drawn, toks := s'.toks } :=
    I.call (ch := []) (Un.laid k hp hn) (I.hok.laid k hp ⟨hlen, out, c, vals_of_ints hi, hg⟩) (by rw [g]; exact I.bare) (fun _ z => nomatch z)
  have e : s' = { s with heap := s'.heap, gens := s'.gens, drawn := s'.drawn, toks := s'.toks } := by
    cases s'; cases s; cases o; rfl
  rw [e]
  exact ⟨.ref p, _, J, rfl, q ns p hs hm hl hn⟩
end
end Sx

set_option Elab.async false
set_option maxRecDepth 100000
set_option maxHeartbeats 4000000
namespace Mk
open PySem L2 Pk
def Rl.key (r : Rl) : List Key := [.inl r.st, .inr r.sg, .inr r.tp, .inl r.af, .inl r.mv, .inr r.de, .inr r.sy, .inr r.sa]
theorem key_vs (r : Rl) : r.key.map kV = r.vs := rfl
def unkey : List Key → Rl
  | [.inl st, .inr sg, .inr tp, .inl af, .inl mv, .inr de, .inr sy, .inr sa] => ⟨st, sg, tp, af, mv, de, sy, sa⟩
  | _ => ⟨0, nil0, nil0, 0, 0, nil0, nil0, nil0⟩
theorem unkey_key (r : Rl) : unkey r.key = r := rfl
theorem key_inj {r q : Rl} (h : r.key = q.key) : r = q := by rw [← unkey_key r, h, unkey_key]
abbrev sh8 : List Bool := [false, false, true, true, false, false, false]
theorem shp_key (r : Rl) : Sx.shp r.key = true :: sh8 := rfl
def ltI (a b : Int) : Bool := decide (a < b)
theorem lin_int : Sx.Lin ltI where
  irr := fun x => decide_eq_false (Int.lt_irrefl x)
  tr := fun x y z h1 h2 => decide_eq_true (Int.lt_trans (of_decide_eq_true h1) (of_decide_eq_true h2))
  tot := fun x y ne => by
    rcases Int.lt_trichotomy x y with c | c | c
    · exact .inl (decide_eq_true c)
    · exact absurd c ne
    · exact .inr (decide_eq_true c)
/-- the rules, rising, each once -/
def rulesOf (rs : List Rl) : List Rl := (Sx.asc Sx.ltT (rs.map Rl.key)).map unkey
theorem rulesOf_keys (rs : List Rl) : (rulesOf rs).map Rl.key = Sx.asc Sx.ltT (rs.map Rl.key) := by
  unfold rulesOf
  rw [List.map_map]
  have e : ∀ k ∈ Sx.asc Sx.ltT (rs.map Rl.key), (Rl.key ∘ unkey) k = k := fun k m => by
    obtain ⟨r, _, rfl⟩ := List.mem_map.mp ((Sx.asc_mem Sx.ltT (rs.map Rl.key) k).mp m)
    rfl
  conv => rhs; rw [← List.map_id (Sx.asc Sx.ltT (rs.map Rl.key))]
  exact List.map_congr_left e
def intsOf (ys : List Int) : List Int := Sx.asc ltI ys
theorem ints_are {ns ys : List Int} (h : ns.Pairwise (· < ·)) (e : ∀ k, k ∈ ns ↔ k ∈ ys) : ns = intsOf ys :=
  lin_int.is_asc (h.imp fun lt => Int.ne_of_lt lt) (h.imp fun {x y} lt => decide_eq_false (by omega)) e
/-- a machine as it is kept -/
structure MachAt (K : PySem.W.Frag) (H : Hp) (C x : Addr) (l : PySem.Str) (n : Int) (rs : List Rl) (ys : List Int) : Prop where
  ex : ∃ (dx aR aY aS aA : Addr) (g : V) (R : Kept), H x = some (.ins C dx [("letters", .str l), ("states", .int n), ("rules", .ref aR), ("yes", .ref aY), ("symbols", .ref aS), ("_acts", .ref aA), ("guess", g)]) ∧
    H aR = some (.tup (refsK R)) ∧ KeptAt H R ∧ R.map (·.2) = rulesOf rs ∧ H aY = some (.tup ((intsOf ys).map V.int)) ∧ H aS = some (.tup ((symsOf (rulesOf rs)).map V.str)) ∧ ActsAt H aA (grps (rulesOf rs)) ∧ GuessV H g (guessOf (grps (rulesOf rs)))
theorem ltI_up {l : List Int} : True := trivial
abbrev sInit : Stmt := inClass (top 54) 0
abbrev nInit : List PySem.Str := ["self", "letters", "states", "rules", "yes", "rule"]
theorem scInit : FnScope nInit ["self", "letters", "states", "rules", "yes"] (defScope sInit) := ⟨rfl, rfl, rfl, by decide +kernel, rfl, by decide +kernel, by decide +kernel⟩
end Mk

set_option Elab.async false
set_option maxRecDepth 100000
set_option maxHeartbeats 4000000
namespace Mk
open PySem L2 Pk
/-- all but what stands at x is as it was -/
def Off (x : Addr) (H H' : Hp) : Prop := ∀ b o, b ≠ x → H b = some o → H' b = some o
theorem Off.refl (x : Addr) (H : Hp) : Off x H H := fun _ _ _ e => e
theorem Off.trans {x : Addr} {H H' H'' : Hp} (a : Off x H H') (b : Off x H' H'') : Off x H H'' := fun c o n e => b c o n (a c o n e)
theorem Off.same {x : Addr} {H H' : Hp} (s : Same H H') : Off x H H' := fun b o _ e => s b o e
theorem Off.put {x : Addr} {H : Hp} {o : HO} : Off x H (upd H x o) := fun b _ n e => by rw [upd_ne n]; exact e
theorem Off.new {x p : Addr} {H : Hp} {o : HO} (h : H p = none) : Off x H (upd H p o) := Off.same (same_new h)
def isIns : HO → Bool
  | .ins _ _ _ => true
  | _ => false
theorem off_ne {x b C dx : Addr} {H : Hp} {fs : List (PySem.Str × V)} {o : HO} (hx : H x = some (.ins C dx fs)) (hb : H b = some o) (n : isIns o = false) : b ≠ x := fun e => by
  rw [e, hx] at hb
  cases hb
  cases n
theorem SqB.off {b : Bool} {K : PySem.W.Frag} {H H' : Hp} {x a C dx : Addr} {fs : List (PySem.Str × V)} {xs : List V} (h : SqB b K H a xs) (hx : H x = some (.ins C dx fs)) (o : Off x H H') : SqB b K H' a xs := by
  cases b with
  | false =>
    rcases (show SqT K H a xs from h) with (h | ⟨ob, h⟩) | h
    · exact .inl (.inl (o _ _ (off_ne hx h rfl) h))
    · exact .inl (.inr ⟨ob, o _ _ (off_ne hx h rfl) h⟩)
    · exact .inr h
  | true =>
    rcases (show SqL K H a xs from h) with (h | ⟨ob, h⟩) | h
    · exact .inl (.inl (o _ _ (off_ne hx h rfl) h))
    · exact .inl (.inr ⟨ob, o _ _ (off_ne hx h rfl) h⟩)
    · exact .inr h
theorem KeptAt.off {H H' : Hp} {x C dx : Addr} {fs : List (PySem.Str × V)} {R : Kept} (h : KeptAt H R) (hx : H x = some (.ins C dx fs)) (o : Off x H H') : KeptAt H' R := fun p m => o _ _ (off_ne hx (h p m) rfl) (h p m)
theorem ActsAt.off {H H' : Hp} {x p C dx : Addr} {fs : List (PySem.Str × V)} {G : List Grp} (h : ActsAt H p G) (hx : H x = some (.ins C dx fs)) (o : Off x H H') : ActsAt H' p G := by
  obtain ⟨kvs, h1, h2⟩ := h
  exact ⟨kvs, o _ _ (off_ne hx h1 rfl) h1, Paired.mapP h2 fun a b z => z.mono fun c xs y => o _ _ (off_ne hx y rfl) y⟩
theorem GuessV.off {H H' : Hp} {x C dx : Addr} {fs : List (PySem.Str × V)} {v : V} {g : Option (List Key)} (h : GuessV H v g) (hx : H x = some (.ins C dx fs)) (o : Off x H H') : GuessV H' v g := by
  cases g with
  | none => exact h
  | some k =>
    obtain ⟨q, e, t⟩ := h
    exact ⟨q, e, o _ _ (off_ne hx t rfl) t⟩
/-- the class Machine -/
structure MCls (K : PySem.W.Frag) (C : Addr) : Prop where
  cls : Cls K C
  letters : NoAttr K C "letters"
  states : NoAttr K C "states"
  rules : NoAttr K C "rules"
  yes : NoAttr K C "yes"
  symbols : NoAttr K C "symbols"
  acts : NoAttr K C "_acts"
  guess : NoAttr K C "guess"
section
variable {P : Program} {w : World} {K : PySem.W.Frag} {mg : PySem.Str → Option Value} {base : Heap}
structure InitDefs (P : Program) (w : World) (K : PySem.W.Frag) (mg : PySem.Str → Option Value) (base : Heap) : Prop where
  check : Got P w K mg base "check_arguments" 5 ["letters", "states", "rules", "yes"] (spCheck K)
  symbols : Got P w K mg base "symbols_of" 1 ["rules"] (spSymbols K)
  acts : Got P w K mg base "acts_by_key" 1 ["rules"] (spActs K)
  guess : Got P w K mg base "first_guess" 1 ["acts"] spGuess
/-- what the arguments are, the tuples among the rules being such -/
structure Right (K : PySem.W.Frag) (H : Hp) (l : PySem.Str) (n : Int) (aR aY : Addr) (bR bY : Bool) (R : Hand) (ys : List Int) : Prop where
  args : ArgsOk K H l n aR aY bR bY R ys
  raw : ∀ p ∈ R, p.2.1 = false → H p.1 = some (.tup p.2.2.vs)
  few : ∃ ks : List (List Key), ks.length ≤ 1900 ∧ ∀ p ∈ R, p.2.2.key ∈ ks
  most : R.length ≤ 20000
  fewY : ys.length < 4000
theorem nodup_sub {α : Type} [DecidableEq α] : ∀ {l ks : List α}, l.Nodup → (∀ x ∈ l, x ∈ ks) → l.length ≤ ks.length
  | [], ks, _, _ => Nat.zero_le _
  | x :: l, ks, nd, sub => by
    have n := List.nodup_cons.mp nd
    have mx := sub x List.mem_cons_self
    have ih := nodup_sub (l := l) (ks := ks.erase x) n.2 fun y my => (List.mem_erase_of_ne (fun e => n.1 (by rw [← e]; exact my))).mpr (sub y (List.mem_cons_of_mem _ my))
    rw [List.length_erase_of_mem mx] at ih
    have : 0 < ks.length := List.length_pos_of_mem mx
    rw [List.length_cons]
    omega
def rsOf (R : Hand) : List Rl := R.map fun p => p.2.2
def spInit (K : PySem.W.Frag) (C : Addr) : Sp := fun vs H Q _ => ∃ (x dx : Addr) (l : PySem.Str) (n : Int) (aR aY : Addr) (bR bY : Bool) (R : Hand) (ys : List Int), vs = [.ref x, .str l, .int n, .ref aR, .ref aY] ∧ H x = some (.ins C dx []) ∧ Right K H l n aR aY bR bY R ys ∧
  ∀ H', Off x H H' → MachAt K H' C x l n (rsOf R) ys → Q .non H'
theorem ok_init {f C : Addr} {fd : FuncData} {params : Arguments} {dvs : List V} {kws : List (PySem.Str × V)} (F : FunD K "__init__" "Machine.__init__" params (defBody sInit) (defScope sInit) dvs kws f fd) (T : TM mg) (G : InitDefs P w K mg base) (M : MCls K C) :
    FnOk P w K mg base CX0 6 f fd ["self", "letters", "states", "rules", "yes"] (spInit K C) := by
  refine F.ok scInit (fun vs H Q E h => ?_) (fun cdv A outer s H vs Q E hr h => ?_)
  · obtain ⟨x, dx, l, n, aR, aY, bR, bY, R, ys, rfl, _⟩ := h
    rfl
  · obtain ⟨x, dx, l, n, aR, aY, bR, bY, R, ys, rfl, hx, a, k⟩ := h
    have h1 := hr.mono (show 1 ≤ 5 by decide)
    have hu64 := hr.units
    refine ⟨_, pss_cons (ps_expr (pe_got G.check hr (by rfl) (pa_cons (pv 1) (pa_cons (pv 2) (pa_cons (pv 3) (pa_cons (pv 4) pa_nil))))))
      (pss_cons (ps_fld (pv 0) (pv 1) rfl)
      (pss_cons (ps_fld (pv 0) (pv 2) rfl)
      (pss_cons (ps_fld (pv 0) (pe_callTy call_tuple_of (by rfl) T.tuple PyProof.Rows.Boot.tuple (pa_cons (pe_callB (Sx.cr_sortMS rfl) (by rfl) T.sorted (by decide +kernel) (pa_cons (Sx.pe_sm (own := [("rule", 5)]) (g := gName 5) (tt := tYes) hu64 (by rfl) scInit.nd (pi_sq bR (pv 3))
          (blkOk_by (own := [("rule", 5)]) (N := nInit) (sc := defScope sInit) (by decide +kernel))
          (fun _ _ _ _ _ => pg_name (i := 5) scInit.nd rfl (Or.inl rfl)) (fun _ _ _ _ _ => pts_nil)
          (fun _ _ _ _ _ => pe_callTy (r := rTupOf K) call_tuple_of (by rfl) T.tuple PyProof.Rows.Boot.tuple (pa_cons (pv 5) pa_nil))) pa_nil)) pa_nil)) rfl)
      (pss_cons (ps_fld (pv 0) (pe_callTy call_tuple_of (by rfl) T.tuple PyProof.Rows.Boot.tuple (pa_cons (pe_callB (Sx.cr_sortI rfl) (by rfl) T.sorted (by decide +kernel) (pa_cons (pe_callTy (Sx.cr_setI rfl) (by rfl) T.set PyProof.Rows.Boot.set (pa_cons (pv 4) pa_nil)) pa_nil)) pa_nil)) rfl)
      (pss_cons (ps_fld (pv 0) (pe_got G.symbols h1 (by rfl) (pa_cons (pe_fld (pv 0) rfl) pa_nil)) rfl)
      (pss_cons (ps_fld (pv 0) (pe_got G.acts h1 (by rfl) (pa_cons (pe_fld (pv 0) rfl) pa_nil)) rfl)
      (pss_one (ps_fld (pv 0) (pe_got G.guess h1 (by rfl) (pa_cons (pe_fld (pv 0) rfl) pa_nil)) rfl)))))))), ?_⟩
    refine ⟨_, rfl, _, rfl, _, rfl, _, rfl, l, n, aR, aY, bR, bY, R, ys, rfl, a.args, fun H1 s1 => ?_⟩
    have hx1 := s1 _ _ hx
    refine ⟨_, rfl, _, rfl, x, C, dx, _, rfl, hx1, M.cls, M.letters, by decide, ?_⟩
    refine ⟨_, rfl, _, rfl, x, C, dx, _, rfl, upd_same, M.cls, M.states, (show 1 < 1000 by decide), ?_⟩
    have o3 : Off x H (upd (upd H1 x (.ins C dx [("letters", .str l)])) x (.ins C dx [("letters", .str l), ("states", .int n)])) := ((Off.same s1).trans Off.put).trans Off.put
    have hx3 : (upd (upd H1 x (.ins C dx [("letters", .str l)])) x (.ins C dx [("letters", .str l), ("states", .int n)])) x = some (.ins C dx [("letters", .str l), ("states", .int n)]) := upd_same
    show (tSeq _ _) _ _ (upd (upd H1 x (.ins C dx [("letters", .str l)])) x (.ins C dx [("letters", .str l), ("states", .int n)]))
    generalize upd (upd H1 x (.ins C dx [("letters", .str l)])) x (.ins C dx [("letters", .str l), ("states", .int n)]) = H3 at o3 hx3 ⊢
    have rs3 : SqB bR K H3 aR (refsH R) := a.args.rs.off hx o3
    have lR : (refsH R).length = R.length := List.length_map ..
    refine isq_of ⟨_, rfl, aR, rfl, ⟨_, rs3⟩, fun D hD => Sx.sm_it (walk_sq (b := bR) (K := K) (a := aR) (xs := refsH R)) (fun i H' => Same H3 H' ∧ ∃ L : Sx.Rows, H' D = some (Sx.MSetO P w D L) ∧ Sx.TupsIn H' L ∧ L.length ≤ i ∧
        (L.map (·.2)).Nodup ∧ ∀ c, c ∈ L.map (·.2) ↔ c ∈ (R.take i).map fun p => p.2.2.key)
      ⟨same_new hD, [], upd_same, fun p m => absurd m List.not_mem_nil, Nat.le_refl _, List.nodup_nil, fun c => by simp⟩ (fun i H' _ h => rs3.mono h.1) ?_ ?_⟩
    · rintro i y H4 H5 hi ⟨s4, L, hL, tL, lL, ndL, mL⟩ ⟨rfl, ey⟩
      rw [lR] at hi
      have hp : R[i]? = some R[i] := List.getElem?_eq_getElem hi
      have ey' : y = .ref R[i].1 := by
        unfold refsH at ey
        rw [List.getElem?_map, hp] at ey
        exact (Option.some.inj ey).symm
      subst ey'
      have m : R[i] ∈ R := List.getElem_mem hi
      obtain ⟨ks, lks, inks⟩ := a.few
      have few : L.length ≤ 1900 := by
        have z := nodup_sub ndL (ks := ks) fun c mc => by
          obtain ⟨q, mq, e⟩ := List.mem_map.mp ((mL c).mp mc)
          rw [← e]
          exact inks q (List.mem_of_mem_take mq)
        rw [List.length_map] at z
        omega
      have o4 : Off x H H5 := o3.trans (Off.same s4)
      have sq := (a.args.hand.at_ _ m).off hx o4
      -- the turn's end, the tuple at t
      have fin : ∀ (H6 : Hp) (t : Addr), Same H5 H6 → H6 t = some (.tup (R[i].2.2.key.map kV)) → ∃ (x : Addr) (k : List Key) (L : Sx.Rows), V.ref t = .ref x ∧ H6 x = some (.tup (k.map kV)) ∧ H6 D = some (Sx.MSetO P w D L) ∧ Sx.TupsIn H6 L ∧ L.length + 1 ≤ 2000 ∧
          ∀ L2 : Sx.Rows, (k ∈ L.map (·.2) → L2 = L) → (k ∉ L.map (·.2) → L2.Perm ((x, k) :: L)) → Same H3 (upd H6 D (Sx.MSetO P w D L2)) ∧ ∃ L' : Sx.Rows, (upd H6 D (Sx.MSetO P w D L2)) D = some (Sx.MSetO P w D L') ∧ Sx.TupsIn (upd H6 D (Sx.MSetO P w D L2)) L' ∧ L'.length ≤ i + 1 ∧
            (L'.map (·.2)).Nodup ∧ ∀ c, c ∈ L'.map (·.2) ↔ c ∈ (R.take (i + 1)).map fun p => p.2.2.key := fun H6 t s6 ht => by
        refine ⟨t, R[i].2.2.key, L, rfl, ht, s6 _ _ hL, fun p mp => s6 _ _ (tL p mp), by omega, fun L2 c1 c2 => ⟨same_mut (s4.trans s6) hD, L2, upd_same, ?_, ?_, ?_, ?_⟩⟩
        · intro p mp
          have tup : H6 p.1 = some (.tup (p.2.map kV)) := by
            rcases Classical.em (R[i].2.2.key ∈ L.map (·.2)) with c | c
            · rw [c1 c] at mp
              exact s6 _ _ (tL p mp)
            · rcases List.mem_cons.mp ((c2 c).mem_iff.mp mp) with e | mp
              · rw [e]; exact ht
              · exact s6 _ _ (tL p mp)
          rw [upd_ne (ne_of tup (s6 _ _ hL) (fun z => nomatch z))]
          exact tup
        · rcases Classical.em (R[i].2.2.key ∈ L.map (·.2)) with c | c
          · rw [c1 c]; omega
          · rw [(c2 c).length_eq, List.length_cons]; omega
        · rcases Classical.em (R[i].2.2.key ∈ L.map (·.2)) with c | c
          · rw [c1 c]; exact ndL
          · exact ((c2 c).map (·.2)).nodup_iff.mpr (List.nodup_cons.mpr ⟨c, ndL⟩)
        · intro c0
          rw [take_at hp, List.map_append, List.mem_append, ← mL c0]
          rcases Classical.em (R[i].2.2.key ∈ L.map (·.2)) with c | c
          · rw [c1 c]
            constructor
            · exact .inl
            · rintro (z | z)
              · exact z
              · rw [List.mem_singleton.mp z]; exact c
          · rw [((c2 c).map (·.2)).mem_iff, List.map_cons, List.mem_cons, List.map_cons, List.map_nil, List.mem_singleton]
            exact Or.comm
      refine ⟨rfl, ?_⟩
      refine ⟨_, rfl, R[i].1, R[i].2.2.vs, rfl, ?_⟩
      rcases eb : R[i].2.1 with _ | _
      · rw [eb] at sq
        exact .inr ⟨sq, fin H5 _ (fun _ _ z => z) (o4 _ _ (off_ne hx (a.raw _ m eb) rfl) (a.raw _ m eb))⟩
      · rw [eb] at sq
        exact .inl ⟨sq, fun t ht => fin _ t (same_new ht) upd_same⟩
    · rintro H4 ⟨s4, L, hL, tL, lL, ndL, mL⟩
      rw [lR, List.take_of_length_le (Nat.le_refl _)] at mL
      have keyOfRule : ∀ p ∈ L, ∃ r : Rl, p.2 = r.key := fun p mp => by
        obtain ⟨q, _, e⟩ := List.mem_map.mp ((mL p.2).mp (List.mem_map.mpr ⟨p, mp, rfl⟩))
        exact ⟨q.2.2, e.symm⟩
      refine ⟨D, L, true, sh8, rfl, hL, tL, fun p mp => by obtain ⟨r, e⟩ := keyOfRule p mp; rw [e]; exact shp_key r, fun L2 p5 pm nd2 up hp5 => ?_⟩
      refine ⟨p5, _, rfl, .inl ⟨SqL.of upd_same, fun q5 hq5 => ?_⟩⟩
      -- the kept rules
      have keys2 : L2.map (·.2) = (rulesOf (rsOf R)).map Rl.key := by
        rw [rulesOf_keys]
        refine Sx.lin_tup.is_asc nd2 (List.pairwise_map.mpr up) fun c => ?_
        rw [(pm.map (·.2)).mem_iff, mL c]
        unfold rsOf
        rw [List.map_map] <;> rfl
      have key2 : ∀ p ∈ L2, (unkey p.2).key = p.2 := fun p mp => by
        obtain ⟨r, e⟩ := keyOfRule p (pm.mem_iff.mp mp)
        rw [e, unkey_key]
      let K2 : Kept := L2.map fun p => (p.1, unkey p.2)
      have refs2 : refsK K2 = Sx.refsOf L2 := by
        show (L2.map _).map _ = L2.map _
        rw [List.map_map] <;> rfl
      have rules2 : K2.map (·.2) = rulesOf (rsOf R) := by
        have z := congrArg (List.map unkey) keys2
        rw [List.map_map, List.map_map] at z
        have e1 : (unkey ∘ Rl.key) = id := by funext r; rfl
        rw [e1, List.map_id] at z
        show (L2.map _).map _ = _
        rw [List.map_map]
        exact z
      have s6 : Same H3 (upd (upd H4 p5 (.lst (Sx.refsOf L2))) q5 (.tup (Sx.refsOf L2))) := (s4.trans (same_new hp5)).trans (same_new hq5)
      have kept6 : KeptAt (upd (upd H4 p5 (.lst (Sx.refsOf L2))) q5 (.tup (Sx.refsOf L2))) K2 := fun p mp => by
        obtain ⟨p0, m0, rfl⟩ := List.mem_map.mp mp
        have z := ((same_new hp5).trans (same_new (o := .tup (Sx.refsOf L2)) hq5)) _ _ (tL p0 (pm.mem_iff.mp m0))
        show _ = some (HO.tup ((unkey p0.2).vs))
        rw [← key_vs, key2 p0 m0]
        exact z
      have at6 : (upd (upd H4 p5 (.lst (Sx.refsOf L2))) q5 (.tup (Sx.refsOf L2))) q5 = some (.tup (refsK K2)) := by rw [upd_same, refs2]
      have most2 : (rulesOf (rsOf R)).length ≤ 20000 := by
        unfold rulesOf
        rw [List.length_map]
        refine Nat.le_trans (Sx.asc_len _ _) ?_
        rw [List.length_map]
        unfold rsOf
        rw [List.length_map]
        have := a.most
        omega
      have lK2 : K2.length ≤ 20000 := by
        have z := congrArg List.length rules2
        rw [List.length_map] at z
        omega
      generalize upd (upd H4 p5 (.lst (Sx.refsOf L2))) q5 (.tup (Sx.refsOf L2)) = H6 at s6 kept6 at6 ⊢
      clear_value K2
      have hx6 := s6 _ _ hx3
      refine ⟨_, rfl, x, C, dx, _, rfl, hx6, M.cls, M.rules, (show 2 < 1000 by decide), ?_⟩
      have o7 : Off x H6 (upd H6 x (.ins C dx [("letters", .str l), ("states", .int n), ("rules", .ref q5)])) := Off.put
      have hx7 : (upd H6 x (.ins C dx [("letters", .str l), ("states", .int n), ("rules", .ref q5)])) x = some (.ins C dx [("letters", .str l), ("states", .int n), ("rules", .ref q5)]) := upd_same
      show (tSeq _ _) _ _ (upd H6 x (.ins C dx [("letters", .str l), ("states", .int n), ("rules", .ref q5)]))
      generalize upd H6 x (.ins C dx [("letters", .str l), ("states", .int n), ("rules", .ref q5)]) = H7 at o7 hx7 ⊢
      have oH7 : Off x H H7 := (o3.trans (Off.same s6)).trans o7
      have kept7 := kept6.off hx6 o7
      have at7 := o7 _ _ (off_ne hx6 at6 rfl) at6
      have yes7 := a.args.yes.off hx oH7
      refine ⟨_, rfl, aY, ys, rfl, yes7.any, a.fewY, fun aS c le hn => ⟨aS, _, c, rfl, upd_same, by have := a.fewY; omega, fun ns p8 upn mem len hp8 => ?_⟩⟩
      refine ⟨p8, _, rfl, .inl ⟨SqL.of upd_same, fun q8 hq8 => ?_⟩⟩
      have ens : ns = intsOf ys := ints_are upn fun k => by rw [mem k, decide_eq_true_eq]
      subst ens
      have s8 : Same H7 (upd (upd (upd H7 aS (SetO w aS (fun j => decide (j ∈ ys)) c)) p8 (.lst ((intsOf ys).map V.int))) q8 (.tup ((intsOf ys).map V.int))) := ((same_new hn).trans (same_new hp8)).trans (same_new hq8)
      have at8 : (upd (upd (upd H7 aS (SetO w aS (fun j => decide (j ∈ ys)) c)) p8 (.lst ((intsOf ys).map V.int))) q8 (.tup ((intsOf ys).map V.int))) q8 = some (.tup ((intsOf ys).map V.int)) := upd_same
      show (tVar 0) _ (upd (upd (upd H7 aS (SetO w aS (fun j => decide (j ∈ ys)) c)) p8 (.lst ((intsOf ys).map V.int))) q8 (.tup ((intsOf ys).map V.int))) _
      generalize upd (upd (upd H7 aS (SetO w aS (fun j => decide (j ∈ ys)) c)) p8 (.lst ((intsOf ys).map V.int))) q8 (.tup ((intsOf ys).map V.int)) = H8 at s8 at8 ⊢
      have hx8 := s8 _ _ hx7
      refine ⟨_, rfl, x, C, dx, _, rfl, hx8, M.cls, M.yes, (show 3 < 1000 by decide), ?_⟩
      have o9 : Off x H8 (upd H8 x (.ins C dx [("letters", .str l), ("states", .int n), ("rules", .ref q5), ("yes", .ref q8)])) := Off.put
      have hx9 : (upd H8 x (.ins C dx [("letters", .str l), ("states", .int n), ("rules", .ref q5), ("yes", .ref q8)])) x = some (.ins C dx [("letters", .str l), ("states", .int n), ("rules", .ref q5), ("yes", .ref q8)]) := upd_same
      show (tSeq _ _) _ _ (upd H8 x (.ins C dx [("letters", .str l), ("states", .int n), ("rules", .ref q5), ("yes", .ref q8)]))
      generalize upd H8 x (.ins C dx [("letters", .str l), ("states", .int n), ("rules", .ref q5), ("yes", .ref q8)]) = H9 at o9 hx9 ⊢
      have o79 : Off x H7 H9 := (Off.same s8).trans o9
      have kept9 := kept7.off hx7 o79
      have at9 := o79 _ _ (off_ne hx7 at7 rfl) at7
      have atY9 := o9 _ _ (off_ne hx8 at8 rfl) at8
      -- symbols
      refine ⟨_, rfl, x, C, dx, _, .ref q5, rfl, hx9, M.cls, M.rules, rfl, q5, K2, rfl, .inl (.inl at9), kept9, lK2, fun H10 pS s10 hpS hS10 => ?_⟩
      have hx10 := s10 _ _ hx9
      refine ⟨_, rfl, x, C, dx, _, rfl, hx10, M.cls, M.symbols, (show 4 < 1000 by decide), ?_⟩
      have o11 : Off x H10 (upd H10 x (.ins C dx [("letters", .str l), ("states", .int n), ("rules", .ref q5), ("yes", .ref q8), ("symbols", .ref pS)])) := Off.put
      have hx11 : (upd H10 x (.ins C dx [("letters", .str l), ("states", .int n), ("rules", .ref q5), ("yes", .ref q8), ("symbols", .ref pS)])) x = some (.ins C dx [("letters", .str l), ("states", .int n), ("rules", .ref q5), ("yes", .ref q8), ("symbols", .ref pS)]) := upd_same
      show (tSeq _ _) _ _ (upd H10 x (.ins C dx [("letters", .str l), ("states", .int n), ("rules", .ref q5), ("yes", .ref q8), ("symbols", .ref pS)]))
      generalize upd H10 x (.ins C dx [("letters", .str l), ("states", .int n), ("rules", .ref q5), ("yes", .ref q8), ("symbols", .ref pS)]) = H11 at o11 hx11 ⊢
      have o911 : Off x H9 H11 := (Off.same s10).trans o11
      have kept11 := kept9.off hx9 o911
      have at11 := o911 _ _ (off_ne hx9 at9 rfl) at9
      have atY11 := o911 _ _ (off_ne hx9 atY9 rfl) atY9
      have atS11 := o11 _ _ (off_ne hx10 hS10 rfl) hS10
      -- acts
      refine ⟨_, rfl, x, C, dx, _, .ref q5, rfl, hx11, M.cls, M.rules, rfl, q5, K2, rfl, .inl (.inl at11), kept11, lK2, fun H12 pA s12 hpA hA12 => ?_⟩
      have hx12 := s12 _ _ hx11
      refine ⟨_, rfl, x, C, dx, _, rfl, hx12, M.cls, M.acts, (show 5 < 1000 by decide), ?_⟩
      have o13 : Off x H12 (upd H12 x (.ins C dx (putF "_acts" (.ref pA) [("letters", .str l), ("states", .int n), ("rules", .ref q5), ("yes", .ref q8), ("symbols", .ref pS)]))) := Off.put
      have hx13 : (upd H12 x (.ins C dx (putF "_acts" (.ref pA) [("letters", .str l), ("states", .int n), ("rules", .ref q5), ("yes", .ref q8), ("symbols", .ref pS)]))) x = some (.ins C dx [("letters", .str l), ("states", .int n), ("rules", .ref q5), ("yes", .ref q8), ("symbols", .ref pS), ("_acts", .ref pA)]) := upd_same
      generalize upd H12 x (.ins C dx (putF "_acts" (.ref pA) [("letters", .str l), ("states", .int n), ("rules", .ref q5), ("yes", .ref q8), ("symbols", .ref pS)])) = H13 at o13 hx13 ⊢
      have o1113 : Off x H11 H13 := (Off.same s12).trans o13
      have acts13 := hA12.off hx12 o13
      rw [rules2] at hS10 hA12 acts13 atS11
      -- guess
      refine ⟨_, rfl, x, C, dx, _, .ref pA, rfl, hx13, M.cls, M.acts, rfl, pA, _, rfl, acts13, by rw [grps_keys]; exact Sx.once_nodup _, fun g gm => Nat.le_trans (grps_len _ g gm) most2, fun gv hg => ?_⟩
      refine ⟨_, rfl, x, C, dx, _, rfl, hx13, M.cls, M.guess, (show 6 < 1000 by decide), ?_⟩
      have o14 : Off x H13 (upd H13 x (.ins C dx [("letters", .str l), ("states", .int n), ("rules", .ref q5), ("yes", .ref q8), ("symbols", .ref pS), ("_acts", .ref pA), ("guess", gv)])) := Off.put
      have o1114 := o1113.trans o14
      show Q .non (upd H13 x (.ins C dx [("letters", .str l), ("states", .int n), ("rules", .ref q5), ("yes", .ref q8), ("symbols", .ref pS), ("_acts", .ref pA), ("guess", gv)]))
      refine k _ ((oH7.trans o79).trans (o911.trans o1114)) ⟨dx, q5, q8, pS, pA, gv, K2, upd_same, ?_, kept11.off hx11 o1114, rules2, ?_, ?_, acts13.off hx13 o14, hg.off hx13 o14⟩
      · exact o1114 _ _ (off_ne hx11 at11 rfl) at11
      · exact o1114 _ _ (off_ne hx11 atY11 rfl) atY11
      · exact o1114 _ _ (off_ne hx11 atS11 rfl) atS11
end
end Mk

set_option Elab.async false
set_option maxRecDepth 100000
set_option maxHeartbeats 4000000
namespace Mk
open PySem L2 Pk
/-! what passes the checks is a machine's -/
theorem btw_is {lo hi : Int} {d : PyData} (h : btw lo hi d = true) : ∃ n, d = .int n ∧ lo ≤ n ∧ n ≤ hi := by
  cases d with
  | int n =>
    have h' : (decide (lo ≤ n) && decide (n ≤ hi)) = true := h
    rw [Bool.and_eq_true, decide_eq_true_eq, decide_eq_true_eq] at h'
    exact ⟨n, rfl, h'.1, h'.2⟩
  | _ => cases h
theorem sign_is {l : PySem.Str} {d : PyData} (h : signD l d = true) : ∃ s, d = .str s ∧ Sgn l s := by
  cases d with
  | str x =>
    have h' : signB l x = true := h
    obtain ⟨⟨cs⟩⟩ := x
    unfold signB at h'
    match cs, h' with
    | [c], h' =>
      have h2 : (decide (c ∈ ([60, 62] : List Nat)) || decide (c ∈ l.cps.toList)) = true := h'
      rw [Bool.or_eq_true, decide_eq_true_eq, decide_eq_true_eq] at h2
      refine ⟨_, rfl, c, rfl, ?_⟩
      rcases h2 with h2 | h2
      · rcases List.mem_cons.mp h2 with h2 | h2
        · exact .inl h2
        · exact .inr (.inl (List.mem_singleton.mp h2))
      · exact .inr (.inr h2)
    | [], h' => cases h'
    | _ :: _ :: _, h' => cases h'
  | _ => cases h
theorem top_is {d : PyData} (h : topD d = true) : ∃ s, d = .str s ∧ Top s := by
  cases d with
  | str x =>
    have h' : (symB x || decide (x = nil0)) = true := h
    rw [Bool.or_eq_true, decide_eq_true_eq] at h'
    exact ⟨x, rfl, h'⟩
  | _ => cases h
theorem move_is {s : PySem.Str} {d : PyData} (h : moveD s d = true) : ∃ n, d = .int n ∧ Mv s n := by
  cases d with
  | int n =>
    have h' : ((decide (-1 ≤ n) && decide (n ≤ 1)) && moveB s n) = true := h
    rw [Bool.and_eq_true, Bool.and_eq_true, decide_eq_true_eq, decide_eq_true_eq] at h'
    have b := h'.2
    unfold moveB at b
    refine ⟨n, rfl, h'.1.1, h'.1.2, fun e z => ?_, fun e z => ?_⟩
    · rw [decide_eq_true e, decide_eq_true z] at b
      cases b
    · rw [decide_eq_true (p := s = gt0) e, decide_eq_true (p := n = 1) z, Bool.and_true, Bool.or_true] at b
      cases b
  | _ => cases h
theorem let_is {m : Int} {d : PyData} (h : letD m d = true) : ∃ s, d = .str s ∧ lowB s = true ∧ (s.length : Int) ≤ m := by
  cases d with
  | str x =>
    have h' : (decide ((x.length : Int) ≤ m) && lowB x) = true := h
    rw [Bool.and_eq_true, decide_eq_true_eq] at h'
    exact ⟨x, rfl, h'.2, h'.1⟩
  | _ => cases h
theorem deed_is {t : PySem.Str} {x y : PyData} (h : deedD t x y = true) : ∃ d s, x = .str d ∧ y = .str s ∧ Deed t d s := by
  cases x with
  | str d =>
    have h' : (decide (d ∈ [keep0, pop0, push0, swap0]) && (!(decide (t = nil0) && !decide (d ∈ [keep0, push0])) && (if decide (d ∈ [push0, swap0]) = true then symD y else nilD y))) = true := h
    rw [Bool.and_eq_true, Bool.and_eq_true, decide_eq_true_eq] at h'
    obtain ⟨m, lo, r⟩ := h'
    have one : d = keep0 ∨ d = pop0 ∨ d = push0 ∨ d = swap0 := by simpa using m
    have low : t = nil0 → d = keep0 ∨ d = push0 := by
      intro e
      rw [decide_eq_true e, Bool.true_and, Bool.not_not, decide_eq_true_eq] at lo
      simpa using lo
    by_cases ps : d ∈ [push0, swap0]
    · rw [if_pos (decide_eq_true ps)] at r
      cases y with
      | str s =>
        have ps' : d = push0 ∨ d = swap0 := by simpa using ps
        refine ⟨d, s, rfl, rfl, one, low, fun _ => r, fun kp => ?_⟩
        exfalso
        rcases ps' with e | e <;> rw [e] at kp <;> revert kp <;> decide +kernel
      | _ => cases r
    · rw [if_neg (by rw [decide_eq_true_eq]; exact ps)] at r
      cases y with
      | str s =>
        have r' : s = nil0 := of_decide_eq_true r
        refine ⟨d, s, rfl, rfl, one, low, fun z => absurd (by simpa using z) ps, fun _ => r'⟩
      | _ => cases r
  | _ => cases h
def Rl.data (r : Rl) : List PyData := [.int r.st, .str r.sg, .str r.tp, .int r.af, .int r.mv, .str r.de, .str r.sy, .str r.sa]
theorem rule_is {l : PySem.Str} {n : Int} {d : PyData} (h : ruleD l n d = true) : ∃ r : Rl, RlOk l n r ∧ items d = some r.data := by
  unfold ruleD at h
  split at h
  · rename_i a b c e f g y i ei
    rw [Bool.and_eq_true, Bool.and_eq_true, Bool.and_eq_true, Bool.and_eq_true, Bool.and_eq_true, Bool.and_eq_true] at h
    obtain ⟨⟨ha, hb, hc⟩, ⟨he, hf⟩, hg, hi⟩ := h
    obtain ⟨st, rfl, s1, s2⟩ := btw_is ha
    obtain ⟨sg, rfl, hsg⟩ := sign_is hb
    obtain ⟨tp, rfl, htp⟩ := top_is hc
    obtain ⟨af, rfl, a1, a2⟩ := btw_is he
    obtain ⟨mv, rfl, hmv⟩ := move_is (s := sg) hf
    obtain ⟨de, sy, rfl, rfl, hde⟩ := deed_is (t := tp) hg
    obtain ⟨sa, rfl, hsa, lsa⟩ := let_is hi
    exact ⟨⟨st, sg, tp, af, mv, de, sy, sa⟩, ⟨⟨s1, s2⟩, hsg, htp, ⟨a1, a2⟩, hmv, hde, hsa, (by show sa.length ≤ 3; omega)⟩, ei⟩
  · cases h
theorem dpa_rule {K : PySem.W.Frag} {H : Hp} {vs : List V} {r : Rl} (h : DpAll K H vs r.data) : vs = r.vs := by
  unfold Rl.data at h
  cases h with | cons h1 h => cases h1; cases h with | cons h1 h => cases h1; cases h with | cons h1 h => cases h1; cases h with | cons h1 h => cases h1; cases h with | cons h1 h => cases h1; cases h with | cons h1 h => cases h1; cases h with | cons h1 h => cases h1; cases h with | cons h1 h => cases h1; cases h; rfl
theorem items_seq {d : PyData} {ds : List PyData} (h : items d = some ds) : isSeqT d = true := by
  cases d <;> first | rfl | cases h
theorem items_b {b : Bool} {ds : List PyData} : items (if b = true then .list ds else .tuple ds) = some ds := by cases b <;> rfl
/-- rules that pass are rules as they are handed in -/
theorem hand_is {K : PySem.W.Frag} {H : Hp} {l : PySem.Str} {n : Int} : ∀ {rs : List PyData} {xs : List V}, DpAll K H xs rs → (∀ r ∈ rs, ruleD l n r = true) →
    ∃ R : Hand, xs = refsH R ∧ (∀ p ∈ R, SqB p.2.1 K H p.1 p.2.2.vs) ∧ (∀ p ∈ R, RlOk l n p.2.2) ∧ rs.map items = R.map fun p => some p.2.2.data
  | [], _, h, _ => by
    cases h
    exact ⟨[], rfl, (fun _ m => absurd m List.not_mem_nil), (fun _ m => absurd m List.not_mem_nil), rfl⟩
  | d :: rs, _, h, a => by
    cases h with
    | cons h1 h2 =>
      obtain ⟨R, rfl, q, o, e⟩ := hand_is h2 fun r m => a r (List.mem_cons_of_mem _ m)
      obtain ⟨r, ok, ei⟩ := rule_is (a d List.mem_cons_self)
      obtain ⟨x, b, vs, ds, rfl, hs, hd, rfl⟩ := dp_seq h1 (items_seq ei)
      rw [items_b] at ei
      cases ei
      have ev := dpa_rule hd
      subst ev
      refine ⟨(x, b, r) :: R, rfl, fun p m => ?_, fun p m => ?_, ?_⟩
      · rcases List.mem_cons.mp m with m | m
        · subst m; exact hs
        · exact q p m
      · rcases List.mem_cons.mp m with m | m
        · subst m; exact ok
        · exact o p m
      · rw [List.map_cons, List.map_cons, e, items_b]
theorem first_all {l : PySem.Str} {n : Int} {rs : List PyData} (h : firstBad l n rs = none) : ∀ r ∈ rs, ruleD l n r = true := by
  unfold firstBad at h
  rw [List.findIdx?_eq_none_iff] at h
  intro r m
  have := h r m
  revert this
  cases ruleD l n r <;> simp
/-- what no check refuses -/
theorem where_none {d1 d2 : PyData} {rs ys : List PyData} (h : whereOf d1 d2 rs ys = none) : ∃ (l : PySem.Str) (n : Int), d1 = .str l ∧ Alpha l ∧ d2 = .int n ∧ (1 ≤ n ∧ n ≤ 2000) ∧ rs.length ≤ 20000 ∧ (∀ r ∈ rs, ruleD l n r = true) ∧ ∀ y ∈ ys, btw 0 (n - 1) y = true := by
  unfold whereOf at h
  by_cases a1 : ∃ x, d1 = .str x ∧ Alpha x
  · rw [if_neg (fun z => z a1)] at h
    obtain ⟨l, rfl, al⟩ := a1
    by_cases a2 : btw 1 2000 d2 = false
    · rw [if_pos a2] at h
      cases h
    · rw [if_neg a2] at h
      obtain ⟨n, rfl, n1, n2⟩ := btw_is (Bool.not_eq_false _ ▸ a2 : btw 1 2000 d2 = true)
      by_cases a3 : 20000 < rs.length
      · rw [if_pos a3] at h
        cases h
      · rw [if_neg a3] at h
        have h' : (match firstBad l n rs with
          | some i => some (PyData.int (i : Int))
          | none => if ys.all (btw 0 (n - 1)) = true then none else some (.str "yes")) = none := h
        cases e : firstBad l n rs with
        | some i => rw [e] at h'; cases h'
        | none =>
          rw [e] at h'
          have h2 : (if ys.all (btw 0 (n - 1)) = true then none else some (PyData.str "yes")) = none := h'
          by_cases a4 : ys.all (btw 0 (n - 1)) = true
          · exact ⟨l, n, rfl, al, rfl, ⟨n1, n2⟩, by omega, first_all e, fun y m => List.all_eq_true.mp a4 y m⟩
          · rw [if_neg a4] at h2
            cases h2
  · rw [if_pos a1] at h
    cases h
theorem ints_of {K : PySem.W.Frag} {H : Hp} {lo hi : Int} : ∀ {ys : List PyData} {us : List V}, DpAll K H us ys → (∀ y ∈ ys, btw lo hi y = true) → ∃ ns : List Int, us = ns.map V.int ∧ ys = ns.map PyData.int ∧ ∀ k ∈ ns, lo ≤ k ∧ k ≤ hi
  | [], _, h, _ => by
    cases h
    exact ⟨[], rfl, rfl, fun _ m => absurd m List.not_mem_nil⟩
  | d :: ys, _, h, a => by
    cases h with
    | cons h1 h2 =>
      obtain ⟨ns, rfl, rfl, b⟩ := ints_of h2 fun y m => a y (List.mem_cons_of_mem _ m)
      obtain ⟨n, rfl, lo', hi'⟩ := btw_is (a d List.mem_cons_self)
      cases h1
      refine ⟨n :: ns, rfl, rfl, fun k m => ?_⟩
      rcases List.mem_cons.mp m with m | m
      · subst m; exact ⟨lo', hi'⟩
      · exact b k m
end Mk

set_option Elab.async false
set_option maxRecDepth 100000
set_option maxHeartbeats 4000000
namespace Mk
open PySem L2 Pk
section
variable {P : Program} {w : World} {K : PySem.W.Frag} {mg : PySem.Str → Option Value} {base : Heap}
/-- a def that raises, promised with its errors -/
def GotE (P : Program) (w : World) (K : PySem.W.Frag) (mg : PySem.Str → Option Value) (base : Heap) (x : PySem.Str) (k : Nat) (ps : List PySem.Str) (sp : Sp) : Prop :=
  ∃ f fd, FnOk P w K mg base (L2N.CX P w) k f fd ps sp ∧ PySem.W.keepIn K (.ref f) = true ∧ Binds K fd ps [] ∧ mg x = some (.ref f)
structure InitDefsD (P : Program) (w : World) (K : PySem.W.Frag) (mg : PySem.Str → Option Value) (base : Heap) (B : Addr) : Prop where
  check : GotE P w K mg base "check_arguments" 5 ["letters", "states", "rules", "yes"] (spCheckD K B)
  symbols : Got P w K mg base "symbols_of" 1 ["rules"] (spSymbols K)
  acts : Got P w K mg base "acts_by_key" 1 ["rules"] (spActs K)
  guess : Got P w K mg base "first_guess" 1 ["acts"] spGuess
/-- four arguments of any data, the last two lists or tuples -/
structure ArgsD (K : PySem.W.Frag) (H : Hp) (v1 v2 : V) (d1 d2 : PyData) (aR aY : Addr) (bR bY : Bool) (xs us : List V) (rs es : List PyData) : Prop where
  g1 : Dp K H v1 d1
  s1 : Short 1000 d1
  g2 : Dp K H v2 d2
  sR : SqB bR K H aR xs
  dR : DpAll K H xs rs
  shR : ∀ r ∈ rs, ShortAll r
  lR : rs.length ≤ 100000
  sY : SqB bY K H aY us
  dY : DpAll K H us es
  lY : es.length ≤ 10000
def spInitD (K : PySem.W.Frag) (C B : Addr) : Sp := fun vs H Q E => ∃ (x dx : Addr) (v1 v2 : V) (d1 d2 : PyData) (aR aY : Addr) (bR bY : Bool) (xs us : List V) (rs es : List PyData), vs = [.ref x, v1, v2, .ref aR, .ref aY] ∧ H x = some (.ins C dx []) ∧ ArgsD K H v1 v2 d1 d2 aR aY bR bY xs us rs es ∧
  (whereOf d1 d2 rs es = none → ∃ (l : PySem.Str) (n : Int) (R : Hand) (ys : List Int), v1 = .str l ∧ v2 = .int n ∧ Right K H l n aR aY bR bY R ys ∧ ∀ H', Off x H H' → MachAt K H' C x l n (rsOf R) ys → Q .non H') ∧
  (∀ wd, whereOf d1 d2 rs es = some wd → ∀ (dx : Addr) (H' : Hp) (wv : V), H dx = none → Same H H' → H' dx = some (.xd [("where", wv)]) → (∀ H'', Dp K H'' wv wd) → E (.ref B) (some dx) H')
theorem okD_init {f C B : Addr} {fd : FuncData} {params : Arguments} {dvs : List V} {kws : List (PySem.Str × V)} (F : FunD K "__init__" "Machine.__init__" params (defBody sInit) (defScope sInit) dvs kws f fd) (T : TM mg) (G : InitDefsD P w K mg base B) (M : MCls K C) :
    FnOk P w K mg base (L2N.CX P w) 6 f fd ["self", "letters", "states", "rules", "yes"] (spInitD K C B) := by
  refine F.ok scInit (fun vs H Q E h => ?_) (fun cdv A outer s H vs Q E hr h => ?_)
  · obtain ⟨x, dx, v1, v2, d1, d2, aR, aY, bR, bY, xs, us, rs, es, rfl, _⟩ := h
    rfl
  · obtain ⟨x, dx, v1, v2, d1, d2, aR, aY, bR, bY, xs, us, rs, es, rfl, hx, g, kQ, kE0⟩ := h
    have kE : ∀ wd, whereOf d1 d2 rs es = some wd → ∀ (dx : Addr) (H' : Hp) (wv : V), H dx = none → Same H H' → H' dx = some (.xd [("where", wv)]) → (∀ H'', Dp K H'' wv wd) → E (.ref B) (some dx) H' := kE0
    obtain ⟨fc, fdc, okc, kpc, bc, mc⟩ := G.check
    have h1 := hr.mono (show 1 ≤ 5 by decide)
    have hu64 := hr.units
    refine ⟨_, pss_cons (ps_expr (pe_call okc hr (by rfl) mc kpc bc Paired.nil (L2N.passes_call (L2N.takes_of rfl rfl rfl rfl) fun _ _ _ _ h => h) (pa_cons (pv 1) (pa_cons (pv 2) (pa_cons (pv 3) (pa_cons (pv 4) pa_nil))))))
      (pss_cons (ps_fld (pv 0) (pv 1) rfl)
      (pss_cons (ps_fld (pv 0) (pv 2) rfl)
      (pss_cons (ps_fld (pv 0) (pe_callTy call_tuple_of (by rfl) T.tuple PyProof.Rows.Boot.tuple (pa_cons (pe_callB (Sx.cr_sortMS rfl) (by rfl) T.sorted (by decide +kernel) (pa_cons (Sx.pe_sm (own := [("rule", 5)]) (g := gName 5) (tt := tYes) hu64 (by rfl) scInit.nd (pi_sq bR (pv 3))
          (blkOk_by (own := [("rule", 5)]) (N := nInit) (sc := defScope sInit) (by decide +kernel))
          (fun _ _ _ _ _ => pg_name (i := 5) scInit.nd rfl (Or.inl rfl)) (fun _ _ _ _ _ => pts_nil)
          (fun _ _ _ _ _ => pe_callTy (r := rTupOf K) call_tuple_of (by rfl) T.tuple PyProof.Rows.Boot.tuple (pa_cons (pv 5) pa_nil))) pa_nil)) pa_nil)) rfl)
      (pss_cons (ps_fld (pv 0) (pe_callTy call_tuple_of (by rfl) T.tuple PyProof.Rows.Boot.tuple (pa_cons (pe_callB (Sx.cr_sortI rfl) (by rfl) T.sorted (by decide +kernel) (pa_cons (pe_callTy (Sx.cr_setI rfl) (by rfl) T.set PyProof.Rows.Boot.set (pa_cons (pv 4) pa_nil)) pa_nil)) pa_nil)) rfl)
      (pss_cons (ps_fld (pv 0) (pe_got G.symbols h1 (by rfl) (pa_cons (pe_fld (pv 0) rfl) pa_nil)) rfl)
      (pss_cons (ps_fld (pv 0) (pe_got G.acts h1 (by rfl) (pa_cons (pe_fld (pv 0) rfl) pa_nil)) rfl)
      (pss_one (ps_fld (pv 0) (pe_got G.guess h1 (by rfl) (pa_cons (pe_fld (pv 0) rfl) pa_nil)) rfl)))))))), ?_⟩
    refine ⟨_, rfl, _, rfl, _, rfl, _, rfl, v1, v2, d1, d2, aR, aY, bR, bY, xs, us, rs, es, rfl, g.g1, g.s1, g.g2, g.sR, g.dR, g.shR, g.lR, g.sY, g.dY, g.lY, fun wn H1 s1 => ?_, kE⟩
    obtain ⟨l, n, R, ys, rfl, rfl, a, k⟩ := kQ wn
    have hx1 := s1 _ _ hx
    refine ⟨_, rfl, _, rfl, x, C, dx, _, rfl, hx1, M.cls, M.letters, by decide, ?_⟩
    refine ⟨_, rfl, _, rfl, x, C, dx, _, rfl, upd_same, M.cls, M.states, (show 1 < 1000 by decide), ?_⟩
    have o3 : Off x H (upd (upd H1 x (.ins C dx [("letters", .str l)])) x (.ins C dx [("letters", .str l), ("states", .int n)])) := ((Off.same s1).trans Off.put).trans Off.put
    have hx3 : (upd (upd H1 x (.ins C dx [("letters", .str l)])) x (.ins C dx [("letters", .str l), ("states", .int n)])) x = some (.ins C dx [("letters", .str l), ("states", .int n)]) := upd_same
    show (tSeq _ _) _ _ (upd (upd H1 x (.ins C dx [("letters", .str l)])) x (.ins C dx [("letters", .str l), ("states", .int n)]))
    generalize upd (upd H1 x (.ins C dx [("letters", .str l)])) x (.ins C dx [("letters", .str l), ("states", .int n)]) = H3 at o3 hx3 ⊢
    have rs3 : SqB bR K H3 aR (refsH R) := a.args.rs.off hx o3
    have lR : (refsH R).length = R.length := List.length_map ..
    refine isq_of ⟨_, rfl, aR, rfl, ⟨_, rs3⟩, fun D hD => Sx.sm_it (walk_sq (b := bR) (K := K) (a := aR) (xs := refsH R)) (fun i H' => Same H3 H' ∧ ∃ L : Sx.Rows, H' D = some (Sx.MSetO P w D L) ∧ Sx.TupsIn H' L ∧ L.length ≤ i ∧
        (L.map (·.2)).Nodup ∧ ∀ c, c ∈ L.map (·.2) ↔ c ∈ (R.take i).map fun p => p.2.2.key)
      ⟨same_new hD, [], upd_same, fun p m => absurd m List.not_mem_nil, Nat.le_refl _, List.nodup_nil, fun c => by simp⟩ (fun i H' _ h => rs3.mono h.1) ?_ ?_⟩
    · rintro i y H4 H5 hi ⟨s4, L, hL, tL, lL, ndL, mL⟩ ⟨rfl, ey⟩
      rw [lR] at hi
      have hp : R[i]? = some R[i] := List.getElem?_eq_getElem hi
      have ey' : y = .ref R[i].1 := by
        unfold refsH at ey
        rw [List.getElem?_map, hp] at ey
        exact (Option.some.inj ey).symm
      subst ey'
      have m : R[i] ∈ R := List.getElem_mem hi
      obtain ⟨ks, lks, inks⟩ := a.few
      have few : L.length ≤ 1900 := by
        have z := nodup_sub ndL (ks := ks) fun c mc => by
          obtain ⟨q, mq, e⟩ := List.mem_map.mp ((mL c).mp mc)
          rw [← e]
          exact inks q (List.mem_of_mem_take mq)
        rw [List.length_map] at z
        omega
      have o4 : Off x H H5 := o3.trans (Off.same s4)
      have sq := (a.args.hand.at_ _ m).off hx o4
      -- the turn's end, the tuple at t
      have fin : ∀ (H6 : Hp) (t : Addr), Same H5 H6 → H6 t = some (.tup (R[i].2.2.key.map kV)) → ∃ (x : Addr) (k : List Key) (L : Sx.Rows), V.ref t = .ref x ∧ H6 x = some (.tup (k.map kV)) ∧ H6 D = some (Sx.MSetO P w D L) ∧ Sx.TupsIn H6 L ∧ L.length + 1 ≤ 2000 ∧
          ∀ L2 : Sx.Rows, (k ∈ L.map (·.2) → L2 = L) → (k ∉ L.map (·.2) → L2.Perm ((x, k) :: L)) → Same H3 (upd H6 D (Sx.MSetO P w D L2)) ∧ ∃ L' : Sx.Rows, (upd H6 D (Sx.MSetO P w D L2)) D = some (Sx.MSetO P w D L') ∧ Sx.TupsIn (upd H6 D (Sx.MSetO P w D L2)) L' ∧ L'.length ≤ i + 1 ∧
            (L'.map (·.2)).Nodup ∧ ∀ c, c ∈ L'.map (·.2) ↔ c ∈ (R.take (i + 1)).map fun p => p.2.2.key := fun H6 t s6 ht => by
        refine ⟨t, R[i].2.2.key, L, rfl, ht, s6 _ _ hL, fun p mp => s6 _ _ (tL p mp), by omega, fun L2 c1 c2 => ⟨same_mut (s4.trans s6) hD, L2, upd_same, ?_, ?_, ?_, ?_⟩⟩
        · intro p mp
          have tup : H6 p.1 = some (.tup (p.2.map kV)) := by
            rcases Classical.em (R[i].2.2.key ∈ L.map (·.2)) with c | c
            · rw [c1 c] at mp
              exact s6 _ _ (tL p mp)
            · rcases List.mem_cons.mp ((c2 c).mem_iff.mp mp) with e | mp
              · rw [e]; exact ht
              · exact s6 _ _ (tL p mp)
          rw [upd_ne (ne_of tup (s6 _ _ hL) (fun z => nomatch z))]
          exact tup
        · rcases Classical.em (R[i].2.2.key ∈ L.map (·.2)) with c | c
          · rw [c1 c]; omega
          · rw [(c2 c).length_eq, List.length_cons]; omega
        · rcases Classical.em (R[i].2.2.key ∈ L.map (·.2)) with c | c
          · rw [c1 c]; exact ndL
          · exact ((c2 c).map (·.2)).nodup_iff.mpr (List.nodup_cons.mpr ⟨c, ndL⟩)
        · intro c0
          rw [take_at hp, List.map_append, List.mem_append, ← mL c0]
          rcases Classical.em (R[i].2.2.key ∈ L.map (·.2)) with c | c
          · rw [c1 c]
            constructor
            · exact .inl
            · rintro (z | z)
              · exact z
              · rw [List.mem_singleton.mp z]; exact c
          · rw [((c2 c).map (·.2)).mem_iff, List.map_cons, List.mem_cons, List.map_cons, List.map_nil, List.mem_singleton]
            exact Or.comm
      refine ⟨rfl, ?_⟩
      refine ⟨_, rfl, R[i].1, R[i].2.2.vs, rfl, ?_⟩
      rcases eb : R[i].2.1 with _ | _
      · rw [eb] at sq
        exact .inr ⟨sq, fin H5 _ (fun _ _ z => z) (o4 _ _ (off_ne hx (a.raw _ m eb) rfl) (a.raw _ m eb))⟩
      · rw [eb] at sq
        exact .inl ⟨sq, fun t ht => fin _ t (same_new ht) upd_same⟩
    · rintro H4 ⟨s4, L, hL, tL, lL, ndL, mL⟩
      rw [lR, List.take_of_length_le (Nat.le_refl _)] at mL
      have keyOfRule : ∀ p ∈ L, ∃ r : Rl, p.2 = r.key := fun p mp => by
        obtain ⟨q, _, e⟩ := List.mem_map.mp ((mL p.2).mp (List.mem_map.mpr ⟨p, mp, rfl⟩))
        exact ⟨q.2.2, e.symm⟩
      refine ⟨D, L, true, sh8, rfl, hL, tL, fun p mp => by obtain ⟨r, e⟩ := keyOfRule p mp; rw [e]; exact shp_key r, fun L2 p5 pm nd2 up hp5 => ?_⟩
      refine ⟨p5, _, rfl, .inl ⟨SqL.of upd_same, fun q5 hq5 => ?_⟩⟩
      -- the kept rules
      have keys2 : L2.map (·.2) = (rulesOf (rsOf R)).map Rl.key := by
        rw [rulesOf_keys]
        refine Sx.lin_tup.is_asc nd2 (List.pairwise_map.mpr up) fun c => ?_
        rw [(pm.map (·.2)).mem_iff, mL c]
        unfold rsOf
        rw [List.map_map] <;> rfl
      have key2 : ∀ p ∈ L2, (unkey p.2).key = p.2 := fun p mp => by
        obtain ⟨r, e⟩ := keyOfRule p (pm.mem_iff.mp mp)
        rw [e, unkey_key]
      let K2 : Kept := L2.map fun p => (p.1, unkey p.2)
      have refs2 : refsK K2 = Sx.refsOf L2 := by
        show (L2.map _).map _ = L2.map _
        rw [List.map_map] <;> rfl
      have rules2 : K2.map (·.2) = rulesOf (rsOf R) := by
        have z := congrArg (List.map unkey) keys2
        rw [List.map_map, List.map_map] at z
        have e1 : (unkey ∘ Rl.key) = id := by funext r; rfl
        rw [e1, List.map_id] at z
        show (L2.map _).map _ = _
        rw [List.map_map]
        exact z
      have s6 : Same H3 (upd (upd H4 p5 (.lst (Sx.refsOf L2))) q5 (.tup (Sx.refsOf L2))) := (s4.trans (same_new hp5)).trans (same_new hq5)
      have kept6 : KeptAt (upd (upd H4 p5 (.lst (Sx.refsOf L2))) q5 (.tup (Sx.refsOf L2))) K2 := fun p mp => by
        obtain ⟨p0, m0, rfl⟩ := List.mem_map.mp mp
        have z := ((same_new hp5).trans (same_new (o := .tup (Sx.refsOf L2)) hq5)) _ _ (tL p0 (pm.mem_iff.mp m0))
        show _ = some (HO.tup ((unkey p0.2).vs))
        rw [← key_vs, key2 p0 m0]
        exact z
      have at6 : (upd (upd H4 p5 (.lst (Sx.refsOf L2))) q5 (.tup (Sx.refsOf L2))) q5 = some (.tup (refsK K2)) := by rw [upd_same, refs2]
      have most2 : (rulesOf (rsOf R)).length ≤ 20000 := by
        unfold rulesOf
        rw [List.length_map]
        refine Nat.le_trans (Sx.asc_len _ _) ?_
        rw [List.length_map]
        unfold rsOf
        rw [List.length_map]
        have := a.most
        omega
      have lK2 : K2.length ≤ 20000 := by
        have z := congrArg List.length rules2
        rw [List.length_map] at z
        omega
      generalize upd (upd H4 p5 (.lst (Sx.refsOf L2))) q5 (.tup (Sx.refsOf L2)) = H6 at s6 kept6 at6 ⊢
      clear_value K2
      have hx6 := s6 _ _ hx3
      refine ⟨_, rfl, x, C, dx, _, rfl, hx6, M.cls, M.rules, (show 2 < 1000 by decide), ?_⟩
      have o7 : Off x H6 (upd H6 x (.ins C dx [("letters", .str l), ("states", .int n), ("rules", .ref q5)])) := Off.put
      have hx7 : (upd H6 x (.ins C dx [("letters", .str l), ("states", .int n), ("rules", .ref q5)])) x = some (.ins C dx [("letters", .str l), ("states", .int n), ("rules", .ref q5)]) := upd_same
      show (tSeq _ _) _ _ (upd H6 x (.ins C dx [("letters", .str l), ("states", .int n), ("rules", .ref q5)]))
      generalize upd H6 x (.ins C dx [("letters", .str l), ("states", .int n), ("rules", .ref q5)]) = H7 at o7 hx7 ⊢
      have oH7 : Off x H H7 := (o3.trans (Off.same s6)).trans o7
      have kept7 := kept6.off hx6 o7
      have at7 := o7 _ _ (off_ne hx6 at6 rfl) at6
      have yes7 := a.args.yes.off hx oH7
      refine ⟨_, rfl, aY, ys, rfl, yes7.any, a.fewY, fun aS c le hn => ⟨aS, _, c, rfl, upd_same, by have := a.fewY; omega, fun ns p8 upn mem len hp8 => ?_⟩⟩
      refine ⟨p8, _, rfl, .inl ⟨SqL.of upd_same, fun q8 hq8 => ?_⟩⟩
      have ens : ns = intsOf ys := ints_are upn fun k => by rw [mem k, decide_eq_true_eq]
      subst ens
      have s8 : Same H7 (upd (upd (upd H7 aS (SetO w aS (fun j => decide (j ∈ ys)) c)) p8 (.lst ((intsOf ys).map V.int))) q8 (.tup ((intsOf ys).map V.int))) := ((same_new hn).trans (same_new hp8)).trans (same_new hq8)
      have at8 : (upd (upd (upd H7 aS (SetO w aS (fun j => decide (j ∈ ys)) c)) p8 (.lst ((intsOf ys).map V.int))) q8 (.tup ((intsOf ys).map V.int))) q8 = some (.tup ((intsOf ys).map V.int)) := upd_same
      show (tVar 0) _ (upd (upd (upd H7 aS (SetO w aS (fun j => decide (j ∈ ys)) c)) p8 (.lst ((intsOf ys).map V.int))) q8 (.tup ((intsOf ys).map V.int))) _
      generalize upd (upd (upd H7 aS (SetO w aS (fun j => decide (j ∈ ys)) c)) p8 (.lst ((intsOf ys).map V.int))) q8 (.tup ((intsOf ys).map V.int)) = H8 at s8 at8 ⊢
      have hx8 := s8 _ _ hx7
      refine ⟨_, rfl, x, C, dx, _, rfl, hx8, M.cls, M.yes, (show 3 < 1000 by decide), ?_⟩
      have o9 : Off x H8 (upd H8 x (.ins C dx [("letters", .str l), ("states", .int n), ("rules", .ref q5), ("yes", .ref q8)])) := Off.put
      have hx9 : (upd H8 x (.ins C dx [("letters", .str l), ("states", .int n), ("rules", .ref q5), ("yes", .ref q8)])) x = some (.ins C dx [("letters", .str l), ("states", .int n), ("rules", .ref q5), ("yes", .ref q8)]) := upd_same
      show (tSeq _ _) _ _ (upd H8 x (.ins C dx [("letters", .str l), ("states", .int n), ("rules", .ref q5), ("yes", .ref q8)]))
      generalize upd H8 x (.ins C dx [("letters", .str l), ("states", .int n), ("rules", .ref q5), ("yes", .ref q8)]) = H9 at o9 hx9 ⊢
      have o79 : Off x H7 H9 := (Off.same s8).trans o9
      have kept9 := kept7.off hx7 o79
      have at9 := o79 _ _ (off_ne hx7 at7 rfl) at7
      have atY9 := o9 _ _ (off_ne hx8 at8 rfl) at8
      -- symbols
      refine ⟨_, rfl, x, C, dx, _, .ref q5, rfl, hx9, M.cls, M.rules, rfl, q5, K2, rfl, .inl (.inl at9), kept9, lK2, fun H10 pS s10 hpS hS10 => ?_⟩
      have hx10 := s10 _ _ hx9
      refine ⟨_, rfl, x, C, dx, _, rfl, hx10, M.cls, M.symbols, (show 4 < 1000 by decide), ?_⟩
      have o11 : Off x H10 (upd H10 x (.ins C dx [("letters", .str l), ("states", .int n), ("rules", .ref q5), ("yes", .ref q8), ("symbols", .ref pS)])) := Off.put
      have hx11 : (upd H10 x (.ins C dx [("letters", .str l), ("states", .int n), ("rules", .ref q5), ("yes", .ref q8), ("symbols", .ref pS)])) x = some (.ins C dx [("letters", .str l), ("states", .int n), ("rules", .ref q5), ("yes", .ref q8), ("symbols", .ref pS)]) := upd_same
      show (tSeq _ _) _ _ (upd H10 x (.ins C dx [("letters", .str l), ("states", .int n), ("rules", .ref q5), ("yes", .ref q8), ("symbols", .ref pS)]))
      generalize upd H10 x (.ins C dx [("letters", .str l), ("states", .int n), ("rules", .ref q5), ("yes", .ref q8), ("symbols", .ref pS)]) = H11 at o11 hx11 ⊢
      have o911 : Off x H9 H11 := (Off.same s10).trans o11
      have kept11 := kept9.off hx9 o911
      have at11 := o911 _ _ (off_ne hx9 at9 rfl) at9
      have atY11 := o911 _ _ (off_ne hx9 atY9 rfl) atY9
      have atS11 := o11 _ _ (off_ne hx10 hS10 rfl) hS10
      -- acts
      refine ⟨_, rfl, x, C, dx, _, .ref q5, rfl, hx11, M.cls, M.rules, rfl, q5, K2, rfl, .inl (.inl at11), kept11, lK2, fun H12 pA s12 hpA hA12 => ?_⟩
      have hx12 := s12 _ _ hx11
      refine ⟨_, rfl, x, C, dx, _, rfl, hx12, M.cls, M.acts, (show 5 < 1000 by decide), ?_⟩
      have o13 : Off x H12 (upd H12 x (.ins C dx (putF "_acts" (.ref pA) [("letters", .str l), ("states", .int n), ("rules", .ref q5), ("yes", .ref q8), ("symbols", .ref pS)]))) := Off.put
      have hx13 : (upd H12 x (.ins C dx (putF "_acts" (.ref pA) [("letters", .str l), ("states", .int n), ("rules", .ref q5), ("yes", .ref q8), ("symbols", .ref pS)]))) x = some (.ins C dx [("letters", .str l), ("states", .int n), ("rules", .ref q5), ("yes", .ref q8), ("symbols", .ref pS), ("_acts", .ref pA)]) := upd_same
      generalize upd H12 x (.ins C dx (putF "_acts" (.ref pA) [("letters", .str l), ("states", .int n), ("rules", .ref q5), ("yes", .ref q8), ("symbols", .ref pS)])) = H13 at o13 hx13 ⊢
      have o1113 : Off x H11 H13 := (Off.same s12).trans o13
      have acts13 := hA12.off hx12 o13
      rw [rules2] at hS10 hA12 acts13 atS11
      -- guess
      refine ⟨_, rfl, x, C, dx, _, .ref pA, rfl, hx13, M.cls, M.acts, rfl, pA, _, rfl, acts13, by rw [grps_keys]; exact Sx.once_nodup _, fun g gm => Nat.le_trans (grps_len _ g gm) most2, fun gv hg => ?_⟩
      refine ⟨_, rfl, x, C, dx, _, rfl, hx13, M.cls, M.guess, (show 6 < 1000 by decide), ?_⟩
      have o14 : Off x H13 (upd H13 x (.ins C dx [("letters", .str l), ("states", .int n), ("rules", .ref q5), ("yes", .ref q8), ("symbols", .ref pS), ("_acts", .ref pA), ("guess", gv)])) := Off.put
      have o1114 := o1113.trans o14
      show Q .non (upd H13 x (.ins C dx [("letters", .str l), ("states", .int n), ("rules", .ref q5), ("yes", .ref q8), ("symbols", .ref pS), ("_acts", .ref pA), ("guess", gv)]))
      refine k _ ((oH7.trans o79).trans (o911.trans o1114)) ⟨dx, q5, q8, pS, pA, gv, K2, upd_same, ?_, kept11.off hx11 o1114, rules2, ?_, ?_, acts13.off hx13 o14, hg.off hx13 o14⟩
      · exact o1114 _ _ (off_ne hx11 at11 rfl) at11
      · exact o1114 _ _ (off_ne hx11 atY11 rfl) atY11
      · exact o1114 _ _ (off_ne hx11 atS11 rfl) atS11
end
end Mk

set_option Elab.async false
set_option maxRecDepth 100000
set_option maxHeartbeats 4000000
namespace Mk
open PySem L2 Pk
abbrev sWhole : Stmt := top 56
abbrev sSame : Stmt := top 57
abbrev sCell : Stmt := top 58
abbrev sDigits : Stmt := top 59
abbrev sAny : Stmt := top 60
abbrev sSym : Stmt := top 61
abbrev sPool : Stmt := top 62
abbrev sLRule : Stmt := top 63
abbrev sLRules : Stmt := top 64
abbrev sYes : Stmt := top 65
abbrev sOnce : Stmt := top 66
abbrev sDue : Stmt := top 67
abbrev sFields : Stmt := top 68
section
variable {P : Program} {w : World} {K : PySem.W.Frag} {mg : PySem.Str → Option Value} {base : Heap}
/-! _law_cell: some int -/
theorem small100k {n : Nat} (h : n ≤ 100000) : n < sizeLine := Nat.lt_of_le_of_lt h (by decide)
def spCellA (K : PySem.W.Frag) : Sp := fun vs H Q _ => ∃ (l : Addr) (ns : List Int) (j : Nat), vs = [.ref l, .int (j : Int)] ∧ SqL K H l (ns.map V.int) ∧ ∀ z, Q (.int z) H
theorem scCell : FnScope ["script", "k", "seed", "cell"] ["script", "k"] (defScope sCell) := ⟨rfl, rfl, rfl, by decide +kernel, rfl, by decide +kernel, by decide +kernel⟩
theorem ok_cell {f : Addr} {fd : FuncData} (F : Fun K "_law_cell" "_law_cell" sCell f fd) (T : TM mg) : FnOk P w K mg base CX0 1 f fd ["script", "k"] (spCellA K) := by
  refine F.ok scCell (fun vs H Q E h => ?_) (fun cdv A outer s H vs Q E hr h => ?_)
  · obtain ⟨l, ns, j, rfl, _⟩ := h
    rfl
  · obtain ⟨l, ns, j, rfl, hS, k⟩ := h
    refine ⟨_, pss_cons (ps_if (pt_cmp (pc_lt (pv 1) (pe_callB call_len_seq (by rfl) T.len PySem.boot_len (pa_cons (pv 0) pa_nil)))) (pss_one (ps_ret (pe_ix ix_list (pv 0) (pv 1) fun _ _ => rfl))) pss_nil)
      (pss_cons (ps_set (i := 2) scCell.nd rfl (Or.inl rfl) pe_int)
      (pss_cons (ps_for PassesOwn.never rfl (pi_list (pv 0)) (pg_name (i := 3) scCell.nd rfl (Or.inl rfl))
        (pss_one (ps_set (i := 2) scCell.nd rfl (Or.inl rfl) (pe_op op_mod (pe_callTy call_int1 (by rfl) T.int PyProof.Rows.Boot.int (pa_cons (pe_op op_add (pe_op op_mul (pv 2) pe_int)
          (pe_op op_mod (pe_callTy call_int1 (by rfl) T.int PyProof.Rows.Boot.int (pa_cons (pv 3) pa_nil)) pe_int)) pa_nil)) pe_int))))
      (pss_one (ps_ret (pe_op op_mod (pe_callTy call_int1 (by rfl) T.int PyProof.Rows.Boot.int (pa_cons (pe_op op_mul (pe_op op_mul (pe_op op_add (pv 2) pe_int) (pe_op op_add (pv 1) pe_int)) pe_int) pa_nil)) pe_int))))), ?_⟩
    refine ⟨_, rfl, _, rfl, l, _, rfl, .inl hS, _, _, rfl, rfl, _, rfl, ?_⟩
    refine ite2 (fun c => ?_) (fun c => ?_)
    · have c' := of_decide_eq_true c
      rw [List.length_map] at c'
      have ej : (ns.map V.int)[j]? = some (V.int ns[j]) := by rw [List.getElem?_map, List.getElem?_eq_getElem (by omega)]; rfl
      exact ⟨_, rfl, _, rfl, l, _, _, _, rfl, rfl, hS, atI_nat ej, k _⟩
    · refine ⟨_, rfl, l, rfl, ⟨_, hS⟩, for_list (K := K) (a := l) (xs := ns.map V.int) (fun i σ H' => H' = H ∧ ∃ (z : Int) (v : Option V), σ = [some (.ref l), some (.int j), some (.int z), v] ∧ 0 ≤ z ∧ z < 1000003)
        ⟨rfl, 17, none, rfl, by decide, by decide⟩ (fun i σ H' _ h => by rw [h.1]; exact hS) ?_ ?_⟩
      · rintro i y σ H' hi ⟨rfl, z, v, rfl, hz0, hz1⟩
        obtain ⟨u, _, rfl⟩ := mapInt hi
        refine ⟨_, rfl, _, _, rfl, rfl, .inl (by omega), _, rfl, .inl ⟨_, rfl, _, _, rfl, rfl, (by show (0 : Int) < 1000003; decide), _, _, rfl, rfl, .inl ⟨_, rfl, _, _, rfl, rfl, (by show (0 : Int) < 1000003; decide), ?_⟩⟩⟩
        exact ⟨rfl, _, _, rfl, Int.emod_nonneg _ (by decide), Int.emod_lt_of_pos _ (by decide)⟩
      · rintro σ H' ⟨rfl, z, v, rfl, hz0, hz1⟩
        refine ⟨_, rfl, _, _, rfl, rfl, _, rfl, _, _, rfl, rfl, _, _, rfl, rfl, .inl (by omega), _, _, rfl, rfl, .inr (by decide), .inl ⟨_, rfl, _, _, rfl, rfl, (by show (0 : Int) < 2147483647; decide), ?_⟩⟩
        exact k _
end
end Mk

set_option Elab.async false
set_option maxRecDepth 100000
set_option maxHeartbeats 4000000
namespace Mk
open PySem L2 Pk
section
variable {P : Program} {w : World} {K : PySem.W.Frag} {mg : PySem.Str → Option Value} {base : Heap}
/-! _law_digits: so many digits, each below its size -/
def Digs (sizes row : List Int) : Prop := row.length = sizes.length ∧ ∀ (i : Nat) (s : Int), sizes[i]? = some s → ∃ d, row[i]? = some d ∧ 0 ≤ d ∧ d < s
def spDigits (K : PySem.W.Frag) : Sp := fun vs H Q _ => ∃ (c : Int) (l : Addr) (sizes : List Int), vs = [.int c, .ref l] ∧ SqL K H l (sizes.map V.int) ∧ sizes.length ≤ 10000 ∧ (∀ s ∈ sizes, 0 < s ∧ s < 2 ^ 200) ∧
  ∀ (row : List Int) (p : Addr) (H' : Hp), Digs sizes row → H p = none → Same H H' → H' p = some (.lst (row.map V.int)) → Q (.ref p) H'
theorem map_snoc (row : List Int) (d : Int) : row.map V.int ++ [V.int d] = (row ++ [d]).map V.int := by rw [List.map_append]; rfl
theorem digs_nil : Digs [] [] := ⟨rfl, fun i s e => by simp at e⟩
theorem take_succ_of {α : Type} {l : List α} {i : Nat} {x : α} (h : l[i]? = some x) : l.take (i + 1) = l.take i ++ [x] := by
  rw [List.take_add_one, h]
  rfl
theorem digs_snoc {sizes row : List Int} {i : Nat} {s d : Int} (h : Digs (sizes.take i) row) (e : sizes[i]? = some s) (h0 : 0 ≤ d) (h1 : d < s) : Digs (sizes.take (i + 1)) (row ++ [d]) := by
  rw [take_succ_of e]
  obtain ⟨hl, hd⟩ := h
  refine ⟨by rw [List.length_append, List.length_append, hl]; rfl, fun j t ej => ?_⟩
  by_cases c : j < (sizes.take i).length
  · rw [List.getElem?_append_left c] at ej
    obtain ⟨x, e1, e2⟩ := hd j t ej
    exact ⟨x, by rw [List.getElem?_append_left (by omega)]; exact e1, e2⟩
  · have cj : j = (sizes.take i).length := by
      have q := (List.getElem?_eq_some_iff.mp ej).1
      rw [List.length_append, List.length_singleton] at q
      omega
    rw [cj, List.getElem?_append_right (Nat.le_refl _), Nat.sub_self] at ej
    cases ej
    exact ⟨d, by rw [cj, List.getElem?_append_right (by omega), hl, Nat.sub_self]; rfl, h0, h1⟩
theorem scDigits : FnScope ["cell", "sizes", "row", "rest", "size", "seed", "k", "twice"] ["cell", "sizes"] (defScope sDigits) := ⟨rfl, rfl, rfl, by decide +kernel, rfl, by decide +kernel, by decide +kernel⟩
theorem ok_digits {f : Addr} {fd : FuncData} (F : Fun K "_law_digits" "_law_digits" sDigits f fd) (T : TM mg) : FnOk P w K mg base CX0 1 f fd ["cell", "sizes"] (spDigits K) := by
  refine F.ok scDigits (fun vs H Q E h => ?_) (fun cdv A outer s H vs Q E hr h => ?_)
  · obtain ⟨c, l, sizes, rfl, _⟩ := h
    rfl
  · obtain ⟨c, l, sizes, rfl, hS, hl, hz, k⟩ := h
    refine ⟨_, pss_cons (ps_set (i := 2) scDigits.nd rfl (Or.inl rfl) (pe_lst pa_nil))
      (pss_cons (ps_set (i := 3) scDigits.nd rfl (Or.inl rfl) (pe_callTy call_int1 (by rfl) T.int PyProof.Rows.Boot.int (pa_cons (pv 0) pa_nil)))
      (pss_cons (ps_if (pt_cmp (pc_ge (pv 3) (pe_op op_pow pe_int pe_int)))
        (pss_cons (ps_set (i := 3) scDigits.nd rfl (Or.inl rfl) (pe_op op_sub (pv 3) (pe_op op_pow pe_int pe_int)))
        (pss_cons (ps_for PassesOwn.never rfl (pi_list (pv 1)) (pg_name (i := 4) scDigits.nd rfl (Or.inl rfl))
          (pss_cons (ps_expr (pe_bm PySem.F.plainAttrs_list PySem.F.slot_list_append PySem.F.type_list_append mt_append (pv 2) (pa_cons (pe_op op_mod (pe_callTy call_int1 (by rfl) T.int PyProof.Rows.Boot.int (pa_cons (pv 3) pa_nil)) (pv 4)) pa_nil)))
          (pss_one (ps_set (i := 3) scDigits.nd rfl (Or.inl rfl) (pe_op op_fdivW (pe_callTy call_int1 (by rfl) T.int PyProof.Rows.Boot.int (pa_cons (pv 3) pa_nil)) (pv 4))))))
        (pss_one (ps_ret (pv 2))))) pss_nil)
      (pss_cons (ps_set (i := 5) scDigits.nd rfl (Or.inl rfl) (pe_op op_mod (pe_callTy call_int1 (by rfl) T.int PyProof.Rows.Boot.int (pa_cons (pv 3) pa_nil)) pe_int))
      (pss_cons (ps_for PassesOwn.never rfl (pi_range1 (by rfl) T.range (pa_cons (pe_callB call_len_seq (by rfl) T.len PySem.boot_len (pa_cons (pv 1) pa_nil)) pa_nil)) (pg_name (i := 6) scDigits.nd rfl (Or.inl rfl))
        (pss_cons (ps_set (i := 5) scDigits.nd rfl (Or.inl rfl) (pe_op op_mod (pe_callTy call_int1 (by rfl) T.int PyProof.Rows.Boot.int (pa_cons (pe_op op_add (pe_op op_add (pe_op op_mul (pv 5) pe_int) (pe_op op_mul pe_int (pv 6))) pe_int) pa_nil)) pe_int))
        (pss_cons (ps_set (i := 7) scDigits.nd rfl (Or.inl rfl) (pe_op op_mod (pe_callTy call_int1 (by rfl) T.int PyProof.Rows.Boot.int (pa_cons (pe_op op_mul (pv 5) (pe_op op_add (pe_op op_fdiv (pv 5) pe_int) pe_int)) pa_nil)) pe_int))
        (pss_one (ps_expr (pe_bm PySem.F.plainAttrs_list PySem.F.slot_list_append PySem.F.type_list_append mt_append (pv 2) (pa_cons (pe_op op_mod (pe_op op_fdiv (pv 7) pe_int) (pe_ix ix_list (pv 1) (pv 6) fun _ _ => rfl)) pa_nil)))))))
      (pss_one (ps_ret (pv 2))))))), ?_⟩
    refine ⟨Nat.zero_le _, fun p hp => ?_⟩
    have s0 : Same H (upd H p (.lst [])) := same_new hp
    refine ⟨_, rfl, .inl ⟨c, rfl, ?_⟩⟩
    refine ⟨_, rfl, _, _, rfl, rfl, ⟨by decide, by decide, by decide⟩, _, _, rfl, rfl, _, rfl, ?_⟩
    refine ite2 (fun cc => ?_) (fun cc => ?_)
    · refine ⟨_, rfl, _, _, rfl, rfl, ⟨by decide, by decide, by decide⟩, _, _, rfl, rfl, ?_⟩
      refine ⟨_, rfl, l, rfl, ⟨_, s0.seq hS⟩, for_list (K := K) (a := l) (xs := sizes.map V.int) (fun i σ H' => Same H H' ∧ ∃ (r : Int) (row : List Int) (v : Option V), σ = [some (.int c), some (.ref l), some (.ref p), some (.int r), v, none, none, none] ∧ H' p = some (.lst (row.map V.int)) ∧ Digs (sizes.take i) row)
        ⟨s0, _, [], none, rfl, upd_same, digs_nil⟩ (fun i σ H' _ h => h.1.seq hS) ?_ ?_⟩
      · rintro i y σ H' hi ⟨s1, r, row, v, rfl, hrow, dg⟩
        obtain ⟨u, eu, rfl⟩ := mapInt hi
        obtain ⟨u0, u1⟩ := hz u (List.mem_of_getElem? eu)
        have hi2 : i < sizes.length := (List.getElem?_eq_some_iff.mp eu).1
        have lr : row.length ≤ i := by rw [dg.1, List.length_take]; omega
        refine ⟨_, rfl, .inl ⟨rfl, _, SqL.of hrow⟩, _, rfl, .inl ⟨_, rfl, _, rfl, _, _, rfl, rfl, u0, p, _, _, rfl, rfl, hrow, ?_, ?_⟩⟩
        · rw [List.length_map]
          exact small100k (by omega)
        refine ⟨_, rfl, .inl ⟨_, rfl, _, rfl, _, _, rfl, rfl, ⟨u0, ?_⟩, ?_⟩⟩
        · exact (wide_div (i := r) (b := 200) u0 (by omega) (by decide) (by decide)).2
        refine ⟨same_mut s1 hp, _, row ++ [r % u], _, rfl, ?_, digs_snoc dg eu (Int.emod_nonneg _ (by omega)) (Int.emod_lt_of_pos _ u0)⟩
        rw [upd_same, List.map_append]
        rfl
      · rintro σ H' ⟨s1, r, row, v, rfl, hrow, dg⟩
        rw [List.length_map, List.take_length] at dg
        exact ⟨_, rfl, k row p H' dg hp s1 hrow⟩
    · refine ⟨_, rfl, .inl ⟨_, rfl, _, _, rfl, rfl, (by show (0 : Int) < 2147483629; decide), ?_⟩⟩
      refine ⟨_, rfl, l, _, rfl, .inl (s0.seq hS), ?_⟩
      rw [List.length_map]
      refine ⟨_, rfl, by omega, by omega, for_range (lo := 0) (n := ((sizes.length : Int)).toNat) (fun i σ H' => Same H H' ∧ ∃ (sd : Int) (row : List Int) (v v2 : Option V), σ = [some (.int c), some (.ref l), some (.ref p), some (.int c), none, some (.int sd), v, v2] ∧ 0 ≤ sd ∧ sd < 2 ^ 40 ∧ H' p = some (.lst (row.map V.int)) ∧ Digs (sizes.take i) row)
        ⟨s0, _, [], none, none, rfl, Int.emod_nonneg _ (by decide), Int.lt_trans (Int.emod_lt_of_pos _ (by decide)) (by decide), upd_same, digs_nil⟩ ?_ ?_⟩
      · rintro i σ H' hi ⟨s1, sd, row, v, v2, rfl, h0, h1, hrow, dg⟩
        have hi2 : i < sizes.length := by omega
        have eu : sizes[i]? = some sizes[i] := List.getElem?_eq_getElem hi2
        obtain ⟨u0, u1⟩ := hz _ (List.mem_of_getElem? eu)
        have lr : row.length ≤ i := by rw [dg.1, List.length_take]; omega
        have ei : (0 : Int) + (i : Int) = (i : Int) := by omega
        refine ⟨_, rfl, _, _, rfl, rfl, .inl (by omega), _, rfl, _, _, rfl, rfl, .inl (by decide), _, _, rfl, rfl, _, _, rfl, rfl, .inl ⟨_, rfl, _, _, rfl, rfl, (by show (0 : Int) < 2147483647; decide), ?_⟩⟩
        have b0 := Int.emod_nonneg (sd * 48271 + 974711 * (0 + (i : Int)) + 12345) (show (2147483647 : Int) ≠ 0 by decide)
        have b1 := Int.emod_lt_of_pos (sd * 48271 + 974711 * (0 + (i : Int)) + 12345) (show (0 : Int) < 2147483647 by decide)
        refine ⟨_, rfl, _, rfl, _, _, rfl, rfl, ⟨by decide, by decide⟩, _, _, rfl, rfl, _, _, rfl, rfl, .inl (by omega), .inl ⟨_, rfl, _, _, rfl, rfl, (by show (0 : Int) < 2147483629; decide), ?_⟩⟩
        refine ⟨_, rfl, .inl ⟨rfl, _, SqL.of hrow⟩, _, rfl, _, _, rfl, rfl, ⟨by decide, by decide⟩, _, rfl, _, rfl, l, _, (i : Int), _, rfl, by rw [ei], s1.seq hS, atI_nat (by rw [List.getElem?_map, eu]; rfl), _, _, rfl, rfl, u0, p, _, _, rfl, rfl, hrow, ?_, ?_⟩
        · rw [List.length_map]
          exact small100k (by omega)
        exact ⟨same_mut s1 hp, _, row ++ [_], _, _, rfl, b0, Int.lt_trans b1 (by decide), upd_same.trans (congrArg (fun l => some (HO.lst l)) (map_snoc row _)), digs_snoc dg eu (Int.emod_nonneg _ (by omega)) (Int.emod_lt_of_pos _ u0)⟩
      · rintro σ H' ⟨s1, sd, row, v, v2, rfl, h0, h1, hrow, dg⟩
        rw [Int.toNat_natCast, List.take_length] at dg
        exact ⟨_, rfl, k row p H' dg hp s1 hrow⟩
end
end Mk

set_option Elab.async false
set_option maxRecDepth 100000
set_option maxHeartbeats 4000000
namespace Mk
open PySem L2 Pk
section
variable {P : Program} {w : World} {K : PySem.W.Frag} {mg : PySem.Str → Option Value} {base : Heap}
/-! _law_whole -/
def spWhole : Sp := fun vs H Q _ => ∃ n : Int, vs = [.int n] ∧ Q (.bl true) H
theorem scWhole : FnScope ["value"] ["value"] (defScope sWhole) := ⟨rfl, rfl, rfl, by decide +kernel, rfl, by decide +kernel, by decide +kernel⟩
theorem ok_whole {f : Addr} {fd : FuncData} (F : Fun K "_law_whole" "_law_whole" sWhole f fd) (T : TM mg) : FnOk P w K mg base CX0 1 f fd ["value"] spWhole := by
  refine F.ok scWhole (fun vs H Q E h => ?_) (fun cdv A outer s H vs Q E hr h => ?_)
  · obtain ⟨n, rfl, _⟩ := h
    rfl
  · obtain ⟨n, rfl, k⟩ := h
    refine ⟨_, pss_one (ps_ret (pe_and (pe_callB call_isi (by rfl) T.isi (by decide +kernel) (pa_cons (pv 0) (pa_cons (pe_bltn (v := .ty "int") (by rfl) T.int PyProof.Rows.Boot.int rfl) pa_nil)))
      (pe_one (pe_not (pe_callB call_isi (by rfl) T.isi (by decide +kernel) (pa_cons (pv 0) (pa_cons (pe_bltn (v := .ty "bool") (by rfl) T.bool PyProof.Rows.Boot.bool rfl) pa_nil))))))), ?_⟩
    refine ⟨_, rfl, _, _, _, _, true, rfl, .ty _, .base (.int _), kit_ty (by decide +kernel), _, rfl, ?_⟩
    refine iteT ?_
    refine ⟨_, rfl, _, _, _, _, false, rfl, .ty _, .base (.int _), kit_ty (by decide +kernel), _, rfl, k⟩
/-! _law_same -/
def depthOk : Nat → PyData → Prop
  | _, .none => True
  | _, .bool _ => True
  | _, .int _ => True
  | _, .str _ => True
  | 0, .tuple _ => False
  | n + 1, .tuple ds => ds.length ≤ 100000 ∧ ∀ d ∈ ds, depthOk n d
  | _, .list _ => False
  | _, .dict _ => False
def spSame (K : PySem.W.Frag) (n : Nat) : Sp := fun vs H Q _ => ∃ (x y : V) (d : PyData), vs = [x, y] ∧ Dp K H x d ∧ Dp K H y d ∧ depthOk n d ∧ Q (.bl true) H
theorem scSame : FnScope ["told", "due", "k"] ["told", "due"] (defScope sSame) := ⟨rfl, rfl, rfl, by decide +kernel, rfl, by decide +kernel, by decide +kernel⟩
theorem tyx_tup {H : Hp} {a : Addr} {xs : List V} (h : SqT K H a xs) : TyX K H (.ref a) (.type "tuple") := by
  rcases h with (h | ⟨o, h⟩) | ⟨o, its, n, h, hc, _⟩
  · exact .base (.tup h)
  · exact .fTuple h
  · exact .kTuple h hc
theorem depthOk_list {n : Nat} {ds : List PyData} (h : depthOk n (.list ds)) : False := by cases n <;> exact h
theorem depthOk_dict {n : Nat} {ds : List (PyData × PyData)} (h : depthOk n (.dict ds)) : False := by cases n <;> exact h
def ifThen (s : Stmt) : List Stmt := match s with
  | .If _ b _ _ => b
  | _ => []
theorem same_of {f fW : Addr} {fd fdW : FuncData} (F : Fun K "_law_same" "_law_same" sSame f fd) (T : TM mg) (GW : FnOk P w K mg base CX0 1 fW fdW ["value"] spWhole) (kW : PySem.W.keepIn K (.ref fW) = true) (bW : Binds K fdW ["value"] []) (gW : mg "_law_whole" = some (.ref fW)) (n : Nat)
    (loop : ∀ (cdv : Value) (A : Around) (outer : List Env) (s : Shared) (H : Hp) (E : XK), Room (n + 1) (A.deeper (PyProof.Rows.envOfC "_law_same" (defScope sSame) s.heap.objs.size f cdv)) →
      ∃ tb : TS, PSs (cxOf CX0 P w K mg base ["told", "due", "k"] "_law_same" (defScope sSame) f cdv A outer s H E).nox (ifThen ((defBody sSame).getD 0 (.Pass ⟨0, 0, 0, 0⟩))) tb ∧
        ∀ (ds : List PyData) (D : Ends), depthOk n (.tuple ds) → ∀ (x y : V), Dp K H x (.tuple ds) → Dp K H y (.tuple ds) → D.rt (.bl true) H → tb D [some x, some y, none] H) :
    FnOk P w K mg base CX0 (n + 2) f fd ["told", "due"] (spSame K n) := by
  refine F.ok scSame (fun vs H Q E h => ?_) (fun cdv A outer s H vs Q E hr h => ?_)
  · obtain ⟨x, y, d, rfl, _⟩ := h
    rfl
  · obtain ⟨x, y, d, rfl, hx, hy, hd, k⟩ := h
    have hr1 : Room 1 _ := hr.mono (by omega)
    obtain ⟨tb, hb, hbt⟩ := loop cdv A outer s H E hr
    refine ⟨_, pss_cons (ps_if (pt_val (pe_callB call_isi (by rfl) T.isi (by decide +kernel) (pa_cons (pv 1) (pa_cons (pe_bltn (v := .ty "tuple") (by rfl) T.tuple PyProof.Rows.Boot.tuple rfl) pa_nil)))) hb pss_nil)
      (pss_cons (ps_if (pt_cmp (pc_isN (pv 1))) (pss_one (ps_ret (pe_cmp (pc_isN (pv 0)) rfl))) pss_nil)
      (pss_cons (ps_if (pt_val (pe_callB call_isi (by rfl) T.isi (by decide +kernel) (pa_cons (pv 1) (pa_cons (pe_bltn (v := .ty "bool") (by rfl) T.bool PyProof.Rows.Boot.bool rfl) pa_nil))))
        (pss_one (ps_ret (pe_and (pe_callB call_isi (by rfl) T.isi (by decide +kernel) (pa_cons (pv 0) (pa_cons (pe_bltn (v := .ty "bool") (by rfl) T.bool PyProof.Rows.Boot.bool rfl) pa_nil))) (pe_one (pe_cmpR op_eq (pv 0) (pv 1) (nomark _)))))) pss_nil)
      (pss_cons (ps_if (pt_val (pe_callB call_isi (by rfl) T.isi (by decide +kernel) (pa_cons (pv 1) (pa_cons (pe_bltn (v := .ty "int") (by rfl) T.int PyProof.Rows.Boot.int rfl) pa_nil))))
        (pss_one (ps_ret (pe_and (pe_call GW hr1 (by rfl) gW kW bW .nil pass0 (pa_cons (pv 0) pa_nil)) (pe_one (pe_cmpR op_eq (pv 0) (pv 1) (nomark _)))))) pss_nil)
      (pss_one (ps_ret (pe_and (pe_callB call_isi (by rfl) T.isi (by decide +kernel) (pa_cons (pv 0) (pa_cons (pe_bltn (v := .ty "str") (by rfl) T.str PyProof.Rows.Boot.str rfl) pa_nil))) (pe_one (pe_cmpR op_eq (pv 0) (pv 1) (nomark _))))))))), ?_⟩
    cases d with
    | none =>
      cases hx
      cases hy
      refine ⟨_, rfl, _, _, _, _, false, rfl, .ty _, .base .non, kit_ty (by decide +kernel), _, rfl, ?_⟩
      refine iteF ?_
      refine ⟨_, rfl, _, rfl, ?_⟩
      refine iteT ?_
      exact ⟨_, rfl, k⟩
    | bool b =>
      cases hx
      cases hy
      refine ⟨_, rfl, _, _, _, _, false, rfl, .ty _, .base (.bl _), kit_ty (by decide +kernel), _, rfl, ?_⟩
      refine iteF ?_
      refine ⟨_, rfl, _, rfl, ?_⟩
      refine iteF ?_
      refine ⟨_, rfl, _, _, _, _, true, rfl, .ty _, .base (.bl _), kit_ty (by decide +kernel), _, rfl, ?_⟩
      refine iteT ?_
      refine ⟨_, rfl, _, _, _, _, true, rfl, .ty _, .base (.bl _), kit_ty (by decide +kernel), _, rfl, ?_⟩
      refine iteT ?_
      refine ⟨_, rfl, _, rfl, rfl, ?_⟩
      rw [decide_eq_true rfl]
      exact k
    | int i =>
      cases hx
      cases hy
      refine ⟨_, rfl, _, _, _, _, false, rfl, .ty _, .base (.int _), kit_ty (by decide +kernel), _, rfl, ?_⟩
      refine iteF ?_
      refine ⟨_, rfl, _, rfl, ?_⟩
      refine iteF ?_
      refine ⟨_, rfl, _, _, _, _, false, rfl, .ty _, .base (.int _), kit_ty (by decide +kernel), _, rfl, ?_⟩
      refine iteF ?_
      refine ⟨_, rfl, _, _, _, _, true, rfl, .ty _, .base (.int _), kit_ty (by decide +kernel), _, rfl, ?_⟩
      refine iteT ?_
      refine ⟨_, rfl, _, rfl, _, rfl, ?_⟩
      refine iteT ?_
      refine ⟨_, rfl, _, rfl, rfl, ?_⟩
      rw [decide_eq_true rfl]
      exact k
    | str z =>
      cases hx
      cases hy
      refine ⟨_, rfl, _, _, _, _, false, rfl, .ty _, .base (.str _), kit_ty (by decide +kernel), _, rfl, ?_⟩
      refine iteF ?_
      refine ⟨_, rfl, _, rfl, ?_⟩
      refine iteF ?_
      refine ⟨_, rfl, _, _, _, _, false, rfl, .ty _, .base (.str _), kit_ty (by decide +kernel), _, rfl, ?_⟩
      refine iteF ?_
      refine ⟨_, rfl, _, _, _, _, false, rfl, .ty _, .base (.str _), kit_ty (by decide +kernel), _, rfl, ?_⟩
      refine iteF ?_
      refine ⟨_, rfl, _, _, _, _, true, rfl, .ty _, .base (.str _), kit_ty (by decide +kernel), _, rfl, ?_⟩
      refine iteT ?_
      refine ⟨_, rfl, _, rfl, rfl, ?_⟩
      rw [decide_eq_true rfl]
      exact k
    | list ds => exact (depthOk_list hd).elim
    | tuple ds =>
      have hx' := hx
      have hy' := hy
      cases hx with
      | tup hsx hax =>
        cases hy with
        | tup hsy hay =>
          refine ⟨_, rfl, _, _, _, _, true, rfl, .ty _, tyx_tup hsy, kit_ty (by decide +kernel), _, rfl, ?_⟩
          refine iteT ?_
          exact hbt ds _ hd _ _ hx' hy' k
    | dict ds => exact (depthOk_dict hd).elim
theorem ok_same {f fW : Addr} {fd fdW : FuncData} (F : Fun K "_law_same" "_law_same" sSame f fd) (T : TM mg) (FW : Fun K "_law_whole" "_law_whole" sWhole fW fdW) (bW : Binds K fdW ["value"] []) (gW : mg "_law_whole" = some (.ref fW))
    (bS : Binds K fd ["told", "due"] []) (gS : mg "_law_same" = some (.ref f)) : ∀ n : Nat, FnOk P w K mg base CX0 (n + 2) f fd ["told", "due"] (spSame K n) := by
  have GW : FnOk P w K mg base CX0 1 fW fdW ["value"] spWhole := ok_whole FW T
  intro n
  induction n with
  | zero => exact same_of F T GW FW.kp bW gW 0 fun cdv A outer s H E hr => ⟨_, pss_never, fun ds D hd => hd.elim⟩
  | succ n ih =>
    refine same_of F T GW FW.kp bW gW (n + 1) fun cdv A outer s H E hr => ?_
    refine ⟨_, pss_cons (ps_if (PW.pt (pw_or (pt_not (pt_val (pe_callB call_isi (by rfl) T.isi (by decide +kernel) (pa_cons (pv 0) (pa_cons (pe_bltn (v := .ty "tuple") (by rfl) T.tuple PyProof.Rows.Boot.tuple rfl) pa_nil)))))
        (pw_or1 (pt_cmpR op_ne (pe_callB call_len_seq (by rfl) T.len PySem.boot_len (pa_cons (pv 0) pa_nil)) (pe_callB call_len_seq (by rfl) T.len PySem.boot_len (pa_cons (pv 1) pa_nil)) (nomark _))))) (pss_one (ps_ret pe_bl)) pss_nil)
      (pss_cons (ps_for PassesOwn.never rfl (pi_range1 (by rfl) T.range (pa_cons (pe_callB call_len_seq (by rfl) T.len PySem.boot_len (pa_cons (pv 1) pa_nil)) pa_nil)) (pg_name (i := 2) scSame.nd rfl (Or.inl rfl))
        (pss_one (ps_if (pt_not (pt_val (pe_call ih hr (by rfl) gS F.kp bS .nil pass0 (pa_cons (pe_ix ix_seq (pv 0) (pv 2) fun _ _ => rfl) (pa_cons (pe_ix ix_seq (pv 1) (pv 2) fun _ _ => rfl) pa_nil))))) (pss_one (ps_ret pe_bl)) pss_nil)))
      (pss_one (ps_ret pe_bl))), fun ds D hd x y hx hy k => ?_⟩
    cases hx with
    | @tup a xs _ hsx hax =>
    cases hy with
    | @tup b ys _ hsy hay =>
    have lx := dpa_len hax
    have ly := dpa_len hay
    refine ⟨_, rfl, _, _, _, _, true, rfl, .ty _, tyx_tup hsx, kit_ty (by decide +kernel), _, rfl, ?_⟩
    refine iteF ?_
    refine ⟨_, rfl, a, xs, rfl, .inr hsx, _, rfl, b, ys, rfl, .inr hsy, rfl, _, rfl, ?_⟩
    refine iteNS (by rw [lx, ly]) ?_
    have hl : ys.length ≤ 100000 := by rw [ly]; exact hd.1
    refine ⟨_, rfl, b, ys, rfl, .inr hsy, _, rfl, by omega, by omega, for_range (lo := 0) (n := ((ys.length : Int)).toNat) (fun i σ H' => H' = H ∧ ∃ v : Option V, σ = [some (.ref a), some (.ref b), v])
      ⟨rfl, none, rfl⟩ ?_ ?_⟩
    · rintro i σ H' hi ⟨rfl, v, rfl⟩
      have hi' : i < ys.length := by omega
      have ex : xs[i]? = some xs[i] := List.getElem?_eq_getElem (by omega)
      have ey : ys[i]? = some ys[i] := List.getElem?_eq_getElem hi'
      obtain ⟨d1, e1, q1⟩ := dpa_get hax ex
      obtain ⟨d2, e2, q2⟩ := dpa_get hay ey
      rw [e1] at e2
      cases e2
      have ei : (0 : Int) + (i : Int) = (i : Int) := by omega
      refine ⟨_, rfl, _, rfl, .inr (.inl ⟨a, xs, (i : Int), _, rfl, by rw [ei], hsx, atI_nat ex, _, rfl, _, rfl, .inr (.inl ⟨b, ys, (i : Int), _, rfl, by rw [ei], hsy, atI_nat ey, ?_⟩)⟩)⟩
      refine ⟨_, _, d1, rfl, q1, q2, hd.2 d1 (List.mem_of_getElem? e1), _, rfl, ?_⟩
      refine iteF ?_
      exact ⟨rfl, _, rfl⟩
    · rintro σ H' ⟨rfl, v, rfl⟩
      exact k
end
end Mk

set_option Elab.async false
set_option maxRecDepth 100000
set_option maxHeartbeats 4000000
namespace Mk
open PySem L2 Pk
/-! texts of signs -/
abbrev sgn1 (c : Nat) : PySem.Str := ⟨#[c]⟩
theorem joinL_one : ∀ cs : List Nat, TL.joinL [] (cs.map fun c => [c]) = cs
  | [] => rfl
  | [c] => rfl
  | c :: d :: r => by
    show [c] ++ ([] ++ TL.joinL [] ((d :: r).map fun c => [c])) = c :: d :: r
    rw [joinL_one (d :: r)] <;> rfl
theorem join_signs (cs : List Nat) : Txt.join (PySem.Str.ofString "") (cs.map sgn1) = ⟨cs.toArray⟩ := by
  have e : cs.map sgn1 = (cs.map fun c => [c]).map SX.S := by
    rw [List.map_map]
    exact List.map_congr_left fun c _ => rfl
  have z : PySem.Str.ofString "" = SX.S [] := by decide +kernel
  rw [e, z, SX.join_S, joinL_one] <;> rfl
def abc (p : Nat → Bool) : List Nat := ((List.range 26).filter p).map (97 + ·)
theorem abc_low {p : Nat → Bool} {c : Nat} (h : c ∈ abc p) : 97 ≤ c ∧ c ≤ 122 := by
  obtain ⟨k, m, rfl⟩ := List.mem_map.mp h
  have z := List.mem_range.mp (List.mem_filter.mp m).1
  omega
theorem alpha_of {cs : List Nat} (low : ∀ c ∈ cs, 97 ≤ c ∧ c ≤ 122) (pos : 1 ≤ cs.length) (most : cs.length ≤ 26) (up : cs.Pairwise (· < ·)) : Alpha ⟨cs.toArray⟩ where
  low := by
    show cs.all lowC = true
    rw [List.all_eq_true]
    intro c m
    unfold lowC
    rw [decide_eq_true (low c m).1, decide_eq_true (low c m).2] <;> rfl
  pos := pos
  most := most
  up := fun i c d e1 e2 => by
    have e1' : cs[i]? = some c := e1
    have e2' : cs[i + 1]? = some d := e2
    obtain ⟨h1, rfl⟩ := List.getElem?_eq_some_iff.mp e1'
    obtain ⟨h2, rfl⟩ := List.getElem?_eq_some_iff.mp e2'
    exact List.pairwise_iff_getElem.mp up i (i + 1) h1 h2 (Nat.lt_succ_self i)
theorem alpha_abc {p : Nat → Bool} (h : ∃ k, k < 26 ∧ p k = true) : Alpha ⟨(abc p).toArray⟩ := by
  refine alpha_of (fun c m => abc_low m) ?_ ?_ ?_
  · obtain ⟨k, lt, e⟩ := h
    have m : k ∈ (List.range 26).filter p := List.mem_filter.mpr ⟨List.mem_range.mpr lt, e⟩
    unfold abc
    rw [List.length_map]
    exact List.length_pos_of_mem m
  · unfold abc
    rw [List.length_map]
    exact Nat.le_trans (List.length_filter_le _ _) (by rw [List.length_range]; exact Nat.le_refl _)
  · unfold abc
    rw [List.pairwise_map]
    exact (List.pairwise_lt_range (n := 26)).filter p |>.imp fun h => by omega
theorem alpha_one {c : Nat} (h : 97 ≤ c ∧ c ≤ 122) : Alpha (sgn1 c) := alpha_of (cs := [c]) (fun d m => by rw [List.mem_singleton.mp m]; exact h) (Nat.le_refl _) (show 1 ≤ 26 by decide) (List.pairwise_singleton _ _)
abbrev abc26 : PySem.Str := PySem.Str.ofString "abcdefghijklmnopqrstuvwxyz"
theorem abc26_eq : abc26 = ⟨(abc fun _ => true).toArray⟩ := by decide +kernel
theorem abc26_at {k : Nat} (h : k < 26) : abc26.cps.toList[k]? = some (97 + k) := by
  have all : ∀ k, k < 26 → abc26.cps.toList[k]? = some (97 + k) := by decide +kernel
  exact all k h
theorem abc_snoc (p : Nat → Bool) (i : Nat) : (((List.range (i + 1)).filter p).map (97 + ·)) = (((List.range i).filter p).map (97 + ·)) ++ (if p i = true then [97 + i] else []) := by
  rw [List.range_succ, List.filter_append, List.map_append]
  by_cases c : p i = true
  · rw [List.filter_cons_of_pos c, if_pos c] <;> rfl
  · rw [List.filter_cons_of_neg c, if_neg c] <;> rfl
end Mk

set_option Elab.async false
set_option maxRecDepth 100000
set_option maxHeartbeats 4000000
namespace Mk
open PySem L2 Pk
section
variable {P : Program} {w : World} {K : PySem.W.Frag} {mg : PySem.Str → Option Value} {base : Heap}
abbrev nAny : List PySem.Str := ["cell", "letters", "row", "k"]
theorem scAny : FnScope nAny ["cell"] (defScope sAny) := ⟨rfl, rfl, rfl, by decide +kernel, rfl, by decide +kernel, by decide +kernel⟩
def spAny : Sp := fun vs H Q _ => ∃ c : Int, vs = [.int c] ∧ ∀ (x : PySem.Str) (H' : Hp), Alpha x → Same H H' → Q (.str x) H'
abbrev anySizes : List Int := [6, 26, 26, 26] ++ List.replicate 26 2
/-- the list that a comprehension over the 26 letters fills -/
def AbcAt (H0 : Hp) (D : Addr) (p : Nat → Bool) (i : Nat) (H' : Hp) : Prop := Same H0 H' ∧ H' D = some (.lst (((((List.range i).filter p).map (97 + ·)).map sgn1).map V.str))
theorem abc_step {H0 H1 H4 : Hp} {D : Addr} {p : Nat → Bool} {i : Nat} (h : AbcAt H0 D p i H1) (s : Same H1 H4) (hD : H0 D = none) (lt : i < 26) (e : p i = true) : ∃ acc, H4 D = some (.lst acc) ∧ acc.length < sizeLine ∧ AbcAt H0 D p (i + 1) (upd H4 D (.lst (acc ++ [V.str (sgn1 (97 + i))]))) := by
  refine ⟨_, s _ _ h.2, ?_, same_mut (h.1.trans s) hD, ?_⟩
  · rw [List.length_map, List.length_map, List.length_map]
    refine Nat.lt_of_le_of_lt (Nat.le_trans (List.length_filter_le _ _) ?_) (show 26 < sizeLine by decide)
    rw [List.length_range]
    omega
  · rw [upd_same, abc_snoc, if_pos e, List.map_append, List.map_append] <;> rfl
theorem abc_skip {H0 H1 H4 : Hp} {D : Addr} {p : Nat → Bool} {i : Nat} (h : AbcAt H0 D p i H1) (s : Same H1 H4) (e : p i = false) : AbcAt H0 D p (i + 1) H4 := by
  refine ⟨h.1.trans s, ?_⟩
  rw [s _ _ h.2, abc_snoc, if_neg (by rw [e]; decide), List.append_nil]
theorem abc_join {p : Nat → Bool} : Txt.join (PySem.Str.ofString "") ((((List.range 26).filter p).map (97 + ·)).map sgn1) = ⟨(abc p).toArray⟩ := join_signs _
theorem abc_short (p : Nat → Bool) : (((((List.range 26).filter p).map (97 + ·)).map sgn1).map (·.length)).sum + ((((List.range 26).filter p).map (97 + ·)).map sgn1).length * (PySem.Str.ofString "").length ≤ 16777216 := by
  have z : (PySem.Str.ofString "").length = 0 := by decide +kernel
  have one : ∀ cs : List Nat, ((cs.map sgn1).map (·.length)).sum = cs.length := by
    intro cs
    induction cs with
    | nil => rfl
    | cons c r ih =>
      rw [List.map_cons, List.map_cons, List.sum_cons, ih, List.length_cons]
      show 1 + r.length = _
      omega
  rw [z, one, List.length_map]
  have y := List.length_filter_le p (List.range 26)
  rw [List.length_range] at y
  omega
theorem ok_any {f : Addr} {fd : FuncData} (F : Fun K "_law_any_letters" "_law_any_letters" sAny f fd) (T : TM mg) (G : Got P w K mg base "_law_digits" 1 ["cell", "sizes"] (spDigits K)) : FnOk P w K mg base CX0 2 f fd ["cell"] spAny := by
  refine F.ok scAny (fun vs H Q E h => ?_) (fun cdv A outer s H vs Q E hr h => ?_)
  · obtain ⟨c, rfl, _⟩ := h
    rfl
  · obtain ⟨c, rfl, k⟩ := h
    refine ⟨_, pss_cons (ps_set (i := 1) scAny.nd rfl (Or.inr rfl) pe_str)
      (pss_cons (ps_set (i := 2) scAny.nd rfl (Or.inr rfl) (pe_got G hr (by rfl) (pa_cons (pv 0) (pa_cons (pe_op op_cat (pe_lst (pa_cons pe_int (pa_cons pe_int (pa_cons pe_int (pa_cons pe_int pa_nil))))) (pe_op op_rep (pe_lst (pa_cons pe_int pa_nil)) pe_int)) pa_nil))))
      (pss_cons (ps_if (pt_cmpR op_eq (pe_ix ix_list (pv 2) pe_int fun _ _ => rfl) pe_int (nomark _)) (pss_one (ps_ret (pe_ix ix_str (pv 1) (pe_ix ix_list (pv 2) pe_int fun _ _ => rfl) fun _ _ => rfl))) pss_nil)
      (pss_cons (ps_if (pt_cmpR op_lt (pe_ix ix_list (pv 2) pe_int fun _ _ => rfl) pe_int (nomark _)) (pss_one (ps_ret (pe_join pe_str (pe_lc (own := [("k", 3)]) (g := gName 3) (by rfl) scAny.nd (pi_range1 (by rfl) T.range (pa_cons pe_int pa_nil))
          (blkOk_by (own := [("k", 3)]) (N := nAny) (sc := defScope sAny) (by decide +kernel)) (fun _ _ _ _ _ => pg_name (i := 3) scAny.nd rfl (Or.inl rfl))
          (fun _ _ _ _ _ => pts_one (pt_cmpR (r := rIn K false) op_in_seq (pv 3) (pe_slice (r := rSlL K) sl_list (pv 2) (po_some pe_int) (po_some pe_int)) rfl)) (fun _ _ _ _ _ => pe_ix ix_str (pv 1) (pv 3) fun _ _ => rfl))))) pss_nil)
      (pss_cons (ps_if (pt_cmpR op_eq (pe_ix ix_list (pv 2) pe_int fun _ _ => rfl) pe_int (nomark _)) (pss_one (ps_ret (pe_join pe_str (pe_lc (own := [("k", 3)]) (g := gName 3) (by rfl) scAny.nd (pi_range1 (by rfl) T.range (pa_cons pe_int pa_nil))
          (blkOk_by (own := [("k", 3)]) (N := nAny) (sc := defScope sAny) (by decide +kernel)) (fun _ _ _ _ _ => pg_name (i := 3) scAny.nd rfl (Or.inl rfl))
          (fun _ _ _ _ _ => pts_one (PW.pt (pw_or (pt_cmpR op_eq (pv 3) (pe_ix (r := rIxL K) ix_list (pv 2) pe_int fun _ _ => rfl) (nomark _)) (pw_or1 (pt_cmpR op_eq (pe_ix (r := rIxL K) ix_list (pv 2) (pe_op op_add pe_int (pv 3)) fun _ _ => rfl) pe_int (nomark _))))))
          (fun _ _ _ _ _ => pe_ix ix_str (pv 1) (pv 3) fun _ _ => rfl))))) pss_nil)
      (pss_one (ps_ret (pv 1))))))), ?_⟩
    refine ⟨_, rfl, by decide, fun l1 hl1 => ?_⟩
    refine ⟨by decide, fun l2 hl2 => ?_⟩
    refine ⟨l2, 26, _, rfl, rfl, upd_same, by decide, by decide, by decide, fun l3 hl3 => ?_⟩
    refine ⟨l1, l3, _, _, rfl, rfl, same_new hl3 _ _ (same_new hl2 _ _ upd_same), upd_same, by decide, fun l4 hl4 => ?_⟩
    refine ⟨c, l4, anySizes, rfl, SqL.of upd_same, by decide, by decide, fun row p H1 dg hp s1 hrow => ?_⟩
    have sA : Same H H1 := ((((same_new hl1).trans (same_new hl2)).trans (same_new hl3)).trans (same_new hl4)).trans s1
    clear s1 hl1 hl2 hl3 hl4 hp
    obtain ⟨d0, e0, a0, b0⟩ := dg.2 0 6 rfl
    obtain ⟨d1, e1, a1, b1⟩ := dg.2 1 26 rfl
    have rowAt : ∀ {i : Nat} {d : Int}, row[i]? = some d → atI (row.map V.int) (i : Int) = some (V.int d) := fun {i d} e => atI_nat (by rw [List.getElem?_map, e]; rfl)
    refine ⟨_, rfl, _, _, _, _, rfl, rfl, SqL.of hrow, rowAt (i := 0) e0, rfl, _, rfl, ?_⟩
    refine ite2 (fun _ => ?_) (fun _ => ?_)
    · have lt : d1.toNat < 26 := by omega
      refine ⟨_, rfl, _, rfl, _, _, _, _, rfl, rfl, SqL.of hrow, rowAt (i := 1) e1, _, d1, 97 + d1.toNat, rfl, rfl, by decide, ?_, k _ _ (alpha_one (by omega)) sA⟩
      have z : ((d1.toNat : Nat) : Int) = d1 := Int.toNat_of_nonneg a1
      rw [← z]
      exact atI_nat (abc26_at lt)
    have sz26 : abc26.length ≤ sizeLine := by decide +kernel
    have len26 : row.length = 30 := dg.1
    have atK : ∀ {i : Nat}, i < 26 → atI abc26.cps.toList (0 + (i : Int)) = some (97 + i) := fun {i} lt => by
      rw [Int.zero_add]
      exact atI_nat (abc26_at lt)
    refine ⟨_, rfl, _, _, _, _, rfl, rfl, SqL.of hrow, rowAt (i := 0) e0, _, _, rfl, rfl, _, rfl, ?_⟩
    refine ite2 (fun _ => ?_) (fun _ => ?_)
    · -- some of three
      let part := cutV (row.map V.int) (some 1) (some 4)
      let q : Nat → Bool := fun k => inV (.int (k : Int)) part
      refine ⟨⟨_, rfl⟩, 26, rfl, by decide, by decide, fun D hD => lc_range (lo := 0) (n := 26) (AbcAt H1 D q) ⟨same_new hD, upd_same⟩ ?_ ?_⟩
      · rintro i H2 hi h2
        refine ⟨rfl, ?_⟩
        refine ⟨_, rfl, _, rfl, 1, rfl, 4, rfl, p, _, rfl, SqL.of (h2.1 _ _ hrow), fun u hu => ?_⟩
        have flat : part.all flatV = true := by
          rw [List.all_eq_true]
          intro v m
          have m2 : v ∈ row.map V.int := List.mem_of_mem_drop (List.mem_of_mem_take m)
          obtain ⟨z, _, rfl⟩ := List.mem_map.mp m2
          rfl
        refine ⟨u, part, rfl, .inl (SqL.of upd_same), rfl, flat, _, rfl, ?_⟩
        have ei : inV (.int (0 + (i : Int))) part = q i := by rw [Int.zero_add]
        refine ite2 (fun y => ?_) (fun y => ?_)
        · have y' : q i = true := by rw [← ei]; exact y
          exact ⟨_, rfl, _, rfl, abc26, _, 97 + i, rfl, rfl, sz26, atK hi, abc_step h2 (same_new hu) hD hi y'⟩
        · have y' : q i = false := by rw [← ei]; exact Bool.eq_false_iff.mpr y
          exact abc_skip h2 (same_new hu) y'
      · rintro H2 h2
        refine ⟨_, D, _, rfl, rfl, .inl (SqL.of h2.2), abc_short q, ?_⟩
        rw [abc_join]
        refine k _ _ (alpha_abc ⟨d1.toNat, by omega, ?_⟩) (sA.trans h2.1)
        have z : ((d1.toNat : Nat) : Int) = d1 := Int.toNat_of_nonneg a1
        show inV (.int ((d1.toNat : Nat) : Int)) part = true
        rw [z]
        unfold inV
        refine List.any_eq_true.mpr ⟨.int d1, ?_, by simp [eqV]⟩
        have at_ : part[0]? = some (.int d1) := by
          have h0 : HT.sIx (row.map V.int).length 0 (some 1) = 1 := by rw [List.length_map, len26]; decide
          have h4 : HT.sIx (row.map V.int).length (row.map V.int).length (some 4) = 4 := by rw [List.length_map, len26]; decide
          show (cutV (row.map V.int) (some 1) (some 4))[0]? = _
          unfold cutV
          rw [h0, h4, List.getElem?_take_of_lt (by decide), List.getElem?_drop, List.getElem?_map, e1] <;> rfl
        exact List.mem_of_getElem? at_
    refine ⟨_, rfl, _, _, _, _, rfl, rfl, SqL.of hrow, rowAt (i := 0) e0, rfl, _, rfl, ?_⟩
    refine ite2 (fun _ => ?_) (fun _ => ?_)
    · -- one, and others by their bits
      have z : ((d1.toNat : Nat) : Int) = d1 := Int.toNat_of_nonneg a1
      have bit : ∀ {i : Nat}, i < 26 → ∃ d : Int, row[4 + i]? = some d := fun {i} lt => by
        have all : ∀ i, i < 26 → anySizes[4 + i]? = some 2 := by decide
        obtain ⟨d, e, _⟩ := dg.2 (4 + i) 2 (all i lt)
        exact ⟨d, e⟩
      let q : Nat → Bool := fun k => decide ((k : Int) = d1) || decide (row[4 + k]? = some 1)
      refine ⟨⟨_, rfl⟩, 26, rfl, by decide, by decide, fun D hD => lc_range (lo := 0) (n := 26) (AbcAt H1 D q) ⟨same_new hD, upd_same⟩ ?_ ?_⟩
      · rintro i H2 hi h2
        refine ⟨rfl, ?_⟩
        have ei : decide (V.int (0 + (i : Int)) = V.int d1) = decide ((i : Int) = d1) := by rw [Int.zero_add]; exact dec_intV _ _
        refine ⟨_, rfl, _, rfl, _, _, _, _, rfl, rfl, SqL.of (h2.1 _ _ hrow), rowAt (i := 1) e1, rfl, _, rfl, ?_⟩
        obtain ⟨d4, e4⟩ := bit hi
        have e4n : (4 : Int) + (0 + (i : Int)) = ((4 + i : Nat) : Int) := by omega
        have one : decide (V.int d4 = V.int 1) = decide (row[4 + i]? = some 1) := by rw [e4]; simp
        have tail : q i = true → ∃ acc, H2 D = some (HO.lst acc) ∧ acc.length < sizeLine ∧ AbcAt H1 D q (i + 1) (upd H2 D (HO.lst (acc ++ [V.str (sgn1 (97 + i))]))) := fun y => abc_step h2 (fun _ _ x => x) hD hi y
        refine ite2 (fun y => ?_) (fun y => ?_)
        · have y' : q i = true := by
            show (decide ((i : Int) = d1) || _) = true
            rw [← ei, y] <;> rfl
          refine iteT ?_
          exact ⟨_, rfl, _, rfl, abc26, _, 97 + i, rfl, rfl, sz26, atK hi, tail y'⟩
        · have no : decide ((i : Int) = d1) = false := by rw [← ei]; exact Bool.eq_false_iff.mpr y
          refine ⟨_, rfl, _, rfl, _, _, rfl, rfl, p, _, _, _, rfl, rfl, SqL.of (h2.1 _ _ hrow), (by rw [e4n]; exact rowAt e4), rfl, _, rfl, ?_⟩
          refine ite2 (fun y2 => ?_) (fun y2 => ?_)
          · have y' : q i = true := by
              show (decide ((i : Int) = d1) || decide (row[4 + i]? = some 1)) = true
              rw [← one, y2, Bool.or_true]
            exact ⟨_, rfl, _, rfl, abc26, _, 97 + i, rfl, rfl, sz26, atK hi, tail y'⟩
          · have y' : q i = false := by
              show (decide ((i : Int) = d1) || decide (row[4 + i]? = some 1)) = false
              rw [no, ← one, Bool.eq_false_iff.mpr y2] <;> rfl
            exact abc_skip h2 (fun _ _ x => x) y'
      · rintro H2 h2
        refine ⟨_, D, _, rfl, rfl, .inl (SqL.of h2.2), abc_short q, ?_⟩
        rw [abc_join]
        refine k _ _ (alpha_abc ⟨d1.toNat, by omega, ?_⟩) (sA.trans h2.1)
        show (decide (((d1.toNat : Nat) : Int) = d1) || _) = true
        rw [z, decide_eq_true rfl] <;> rfl
    · refine ⟨_, rfl, ?_⟩
      refine k _ _ ?_ sA
      show Alpha abc26
      rw [abc26_eq]
      exact alpha_abc ⟨0, by decide, rfl⟩
end
end Mk

set_option Elab.async false
set_option maxRecDepth 100000
set_option maxHeartbeats 4000000
namespace Mk
open PySem L2 Pk
abbrev signs62 : PySem.Str := PySem.Str.ofString "abcdefghijklmnopqrstuvwxyzABCDEFGHIJKLMNOPQRSTUVWXYZ0123456789"
def s62 (k : Nat) : Nat := signs62.cps.toList.getD k 0
theorem s62_at {k : Nat} (h : k < 62) : signs62.cps.toList[k]? = some (s62 k) ∧ markC (s62 k) = true := by
  have all : ∀ k, k < 62 → signs62.cps.toList[k]? = some (s62 k) ∧ markC (s62 k) = true := by decide +kernel
  exact all k h
theorem signs_sum : ∀ cs : List Nat, ((cs.map sgn1).map (·.length)).sum = cs.length
  | [] => rfl
  | c :: r => by
    rw [List.map_cons, List.map_cons, List.sum_cons, signs_sum r, List.length_cons]
    show 1 + r.length = _
    omega
theorem signs_short {cs : List Nat} (h : cs.length ≤ 1000) : ((cs.map sgn1).map (·.length)).sum + (cs.map sgn1).length * (PySem.Str.ofString "").length ≤ 16777216 := by
  have z : (PySem.Str.ofString "").length = 0 := by decide +kernel
  rw [z, signs_sum]
  omega
/-- digits that a symbol is made of -/
structure SymRow (row : List Int) : Prop where
  n : ∃ d : Nat, row[0]? = some (d : Int) ∧ d < 8
  all : ∀ j, 1 ≤ j → j ≤ 8 → ∃ d : Nat, row[j]? = some (d : Int) ∧ d < 62
  most : row.length ≤ 1000
section
variable {P : Program} {w : World} {K : PySem.W.Frag} {mg : PySem.Str → Option Value} {base : Heap}
def spSym (K : PySem.W.Frag) : Sp := fun vs H Q _ => ∃ (p : Addr) (row : List Int), vs = [.ref p] ∧ SqL K H p (row.map V.int) ∧ SymRow row ∧ ∀ (x : PySem.Str) (H' : Hp), symB x = true → Same H H' → Q (.str x) H'
abbrev nSym : List PySem.Str := ["row", "signs", "digit"]
theorem scSym : FnScope nSym ["row"] (defScope sSym) := ⟨rfl, rfl, rfl, by decide +kernel, rfl, by decide +kernel, by decide +kernel⟩
theorem ok_sym {f : Addr} {fd : FuncData} (F : Fun K "_law_symbol" "_law_symbol" sSym f fd) : FnOk P w K mg base CX0 1 f fd ["row"] (spSym K) := by
  refine F.ok scSym (fun vs H Q E h => ?_) (fun cdv A outer s H vs Q E hr h => ?_)
  · obtain ⟨p, row, rfl, _⟩ := h
    rfl
  · obtain ⟨p, row, rfl, hS, hR, k⟩ := h
    refine ⟨_, pss_cons (ps_set (i := 1) scSym.nd rfl (Or.inr rfl) pe_str)
      (pss_one (ps_ret (pe_join pe_str (pe_lc (own := [("digit", 2)]) (g := gName 2) (tt := tYes) (by rfl) scSym.nd (pi_list (pe_slice sl_list (pv 0) (po_some pe_int) (po_some (pe_op op_add pe_int (pe_ix ix_list (pv 0) pe_int fun _ _ => rfl)))))
          (blkOk_by (own := [("digit", 2)]) (N := nSym) (sc := defScope sSym) (by decide +kernel)) (fun _ _ _ _ _ => pg_name (i := 2) scSym.nd rfl (Or.inl rfl)) (fun _ _ _ _ _ => pts_nil)
          (fun _ _ _ _ _ => pe_ix ix_str (pv 1) (pv 2) fun _ _ => rfl))))), ?_⟩
    obtain ⟨d0, e0, b0⟩ := hR.n
    have most := hR.most
    have len9 : 9 ≤ row.length := by
      obtain ⟨d, e, _⟩ := hR.all 8 (by decide) (by decide)
      exact (List.getElem?_eq_some_iff.mp e).1
    have cutE : cutV (row.map V.int) (some 1) (some (2 + (d0 : Int))) = ((row.drop 1).take (1 + d0)).map V.int := by
      have h0 : HT.sIx (row.map V.int).length 0 (some 1) = 1 := by
        rw [List.length_map]
        unfold HT.sIx
        simp
        omega
      have h4 : HT.sIx (row.map V.int).length (row.map V.int).length (some (2 + (d0 : Int))) = 2 + d0 := by
        rw [List.length_map]
        unfold HT.sIx
        simp only []
        rw [if_neg (by omega)]
        omega
      unfold cutV
      rw [h0, h4, ← List.map_drop, ← List.map_take, show 2 + d0 - 1 = 1 + d0 by omega]
    refine ⟨⟨_, rfl⟩, ?_⟩
    refine ⟨_, rfl, 1, rfl, _, rfl, p, _, _, _, rfl, rfl, hS, atI_nat (j := 0) (by rw [List.getElem?_map, e0]; rfl), _, _, rfl, rfl, _, rfl, p, _, rfl, hS, fun u hu => ?_⟩
    rw [cutE]
    generalize hp : (row.drop 1).take (1 + d0) = part
    have lp : part.length = 1 + d0 := by
      rw [← hp, List.length_take, List.length_drop]
      omega
    have at_ : ∀ {j : Nat} {v : V}, (part.map V.int)[j]? = some v → ∃ d : Nat, v = .int (d : Int) ∧ d < 62 := fun {j v} e => by
      have lt : j < part.length := by
        have z := (List.getElem?_eq_some_iff.mp e).1
        rwa [List.length_map] at z
      obtain ⟨d, e1, b⟩ := hR.all (1 + j) (by omega) (by omega)
      have e2 : part[j]? = some (d : Int) := by rw [← hp, List.getElem?_take_of_lt (by omega), List.getElem?_drop, e1]
      rw [List.getElem?_map, e2] at e
      exact ⟨d, (Option.some.inj e).symm, b⟩
    refine ⟨u, rfl, ⟨_, SqL.of upd_same⟩, fun D hD => lc_list (K := K) (a := u) (xs := part.map V.int) (fun j H' => Same (upd H u (.lst (part.map V.int))) H' ∧ ∃ cs : List Nat, H' D = some (.lst ((cs.map sgn1).map V.str)) ∧ cs.length = j ∧ ∀ c ∈ cs, markC c = true)
      ⟨same_new hD, [], upd_same, rfl, fun c m => absurd m List.not_mem_nil⟩ (fun j H' _ h => SqL.of (h.1 _ _ upd_same)) ?_ ?_⟩
    · rintro j y H1 hj ⟨s1, cs, hD1, lc, ok⟩
      obtain ⟨d, rfl, b⟩ := at_ hj
      have lt : j < part.length := by
        have z := (List.getElem?_eq_some_iff.mp hj).1
        rwa [List.length_map] at z
      obtain ⟨g1, g2⟩ := s62_at b
      refine ⟨rfl, ?_⟩
      refine ⟨_, rfl, _, rfl, signs62, _, s62 d, rfl, rfl, by decide +kernel, atI_nat g1, _, hD1, ?_, same_mut s1 hD, cs ++ [s62 d], ?_, ?_, ?_⟩
      · rw [List.length_map, List.length_map]
        exact Nat.lt_of_le_of_lt (show cs.length ≤ 8 by omega) (by decide)
      · rw [upd_same, List.map_append, List.map_append] <;> rfl
      · rw [List.length_append, lc] <;> rfl
      · intro c m
        rcases List.mem_append.mp m with m | m
        · exact ok c m
        · rw [List.mem_singleton.mp m]; exact g2
    · rintro H1 ⟨s1, cs, hD1, lc, ok⟩
      rw [List.length_map, lp] at lc
      refine ⟨_, D, _, rfl, rfl, .inl (SqL.of hD1), signs_short (by omega), ?_⟩
      rw [join_signs]
      refine k _ _ ?_ ((same_new hu).trans s1)
      unfold symB
      have l1 : (⟨cs.toArray⟩ : PySem.Str).length = cs.length := rfl
      rw [l1, decide_eq_true (p := 1 ≤ cs.length) (by omega), decide_eq_true (p := cs.length ≤ 8) (by omega)]
      show (true && true && cs.all markC) = true
      rw [List.all_eq_true.mpr ok] <;> rfl
end
end Mk

set_option Elab.async false
set_option maxRecDepth 100000
set_option maxHeartbeats 4000000
namespace Mk
open PySem L2 Pk
abbrev words12 : List PySem.Str := ["say", "push", "yes", "keep", "Z", "zz", "10", "9", "letters", "0", "a", "eightsym"]
theorem words_ok {i : Nat} (h : i < 12) : ∃ x, words12[i]? = some x ∧ symB x = true := by
  have all : ∀ i, i < 12 → ∃ x, words12[i]? = some x ∧ symB x = true := by
    intro i hi
    have e : words12[i]? = some (words12.getD i ⟨#[]⟩) := by
      rw [List.getD_eq_getElem?_getD, List.getElem?_eq_getElem (show i < words12.length from hi)] <;> rfl
    refine ⟨_, e, ?_⟩
    have z : ∀ i, i < 12 → symB (words12.getD i ⟨#[]⟩) = true := by decide +kernel
    exact z i hi
  exact all i h
abbrev poolOne : List Int := [3, 12, 8, 62, 62, 62, 62, 62, 62, 62, 62]
abbrev poolSizes : List Int := poolOne ++ poolOne ++ poolOne ++ poolOne ++ poolOne
theorem poolSizes_at {k j : Nat} (hk : k < 5) (hj : j < 11) : poolSizes[11 * k + j]? = poolOne[j]? := by
  have all : ∀ k, k < 5 → ∀ j, j < 11 → poolSizes[11 * k + j]? = poolOne[j]? := by decide
  exact all k hk j hj
/-- a slice within the row -/
theorem cut_in {row : List Int} {a b : Nat} (h : b ≤ row.length) (ab : a ≤ b) : cutV (row.map V.int) (some (a : Int)) (some (b : Int)) = ((row.drop a).take (b - a)).map V.int := by
  have h0 : HT.sIx (row.map V.int).length 0 (some (a : Int)) = a := by
    rw [List.length_map]
    unfold HT.sIx
    simp only []
    rw [if_neg (by omega)]
    omega
  have h4 : HT.sIx (row.map V.int).length (row.map V.int).length (some (b : Int)) = b := by
    rw [List.length_map]
    unfold HT.sIx
    simp only []
    rw [if_neg (by omega)]
    omega
  unfold cutV
  rw [h0, h4, ← List.map_drop, ← List.map_take]
theorem cut_from {row : List Int} {a : Nat} (h : a ≤ row.length) : cutV (row.map V.int) (some (a : Int)) none = (row.drop a).map V.int := by
  have h0 : HT.sIx (row.map V.int).length 0 (some (a : Int)) = a := by
    rw [List.length_map]
    unfold HT.sIx
    simp only []
    rw [if_neg (by omega)]
    omega
  have h4 : HT.sIx (row.map V.int).length (row.map V.int).length none = row.length := by
    rw [List.length_map]
    rfl
  unfold cutV
  rw [h0, h4, ← List.map_drop, ← List.map_take, List.take_of_length_le (by rw [List.length_drop]; exact Nat.le_refl _)]
section
variable {P : Program} {w : World} {K : PySem.W.Frag} {mg : PySem.Str → Option Value} {base : Heap}
def spPool : Sp := fun vs H Q _ => ∃ c : Int, vs = [.int c] ∧ ∀ (p : Addr) (H' : Hp) (xs : List PySem.Str), xs.length = 5 → (∀ x ∈ xs, symB x = true) → Same H H' → H p = none → H' p = some (.lst (xs.map V.str)) → Q (.ref p) H'
abbrev nPool : List PySem.Str := ["cell", "words", "row", "pool", "k", "part"]
theorem scPool : FnScope nPool ["cell"] (defScope sPool) := ⟨rfl, rfl, rfl, by decide +kernel, rfl, by decide +kernel, by decide +kernel⟩
theorem ok_pool {f : Addr} {fd : FuncData} (F : Fun K "_law_pool" "_law_pool" sPool f fd) (T : TM mg) (G : Got P w K mg base "_law_digits" 1 ["cell", "sizes"] (spDigits K)) (GS : Got P w K mg base "_law_symbol" 1 ["row"] (spSym K)) : FnOk P w K mg base CX0 2 f fd ["cell"] spPool := by
  refine F.ok scPool (fun vs H Q E h => ?_) (fun cdv A outer s H vs Q E hr h => ?_)
  · obtain ⟨c, rfl, _⟩ := h
    rfl
  · obtain ⟨c, rfl, k⟩ := h
    refine ⟨_, pss_cons (ps_set (i := 1) scPool.nd rfl (Or.inl rfl) (pe_lst (pa_cons pe_str (pa_cons pe_str (pa_cons pe_str (pa_cons pe_str (pa_cons pe_str (pa_cons pe_str (pa_cons pe_str (pa_cons pe_str (pa_cons pe_str (pa_cons pe_str (pa_cons pe_str (pa_cons pe_str pa_nil))))))))))))))
      (pss_cons (ps_set (i := 2) scPool.nd rfl (Or.inl rfl) (pe_got G hr (by rfl) (pa_cons (pv 0) (pa_cons (pe_op op_rep (pe_op op_cat (pe_lst (pa_cons pe_int (pa_cons pe_int (pa_cons pe_int pa_nil)))) (pe_op op_rep (pe_lst (pa_cons pe_int pa_nil)) pe_int)) pe_int) pa_nil))))
      (pss_cons (ps_set (i := 3) scPool.nd rfl (Or.inl rfl) (pe_lst pa_nil))
      (pss_cons (ps_for PassesOwn.never rfl (pi_range1 (by rfl) T.range (pa_cons pe_int pa_nil)) (pg_name (i := 4) scPool.nd rfl (Or.inl rfl))
        (pss_cons (ps_set (i := 5) scPool.nd rfl (Or.inl rfl) (pe_slice sl_list (pv 2) (po_some (pe_op op_mul pe_int (pv 4))) (po_some (pe_op op_add (pe_op op_mul pe_int (pv 4)) pe_int))))
        (pss_one (ps_if (pt_cmpR op_eq (pe_ix ix_list (pv 5) pe_int fun _ _ => rfl) pe_int (nomark _))
          (pss_one (ps_expr (pe_bm PySem.F.plainAttrs_list PySem.F.slot_list_append PySem.F.type_list_append mt_append (pv 3) (pa_cons (pe_ix ix_list (pv 1) (pe_ix ix_list (pv 5) pe_int fun _ _ => rfl) fun _ _ => rfl) pa_nil))))
          (pss_one (ps_expr (pe_bm PySem.F.plainAttrs_list PySem.F.slot_list_append PySem.F.type_list_append mt_append (pv 3) (pa_cons (pe_got GS hr (by rfl) (pa_cons (pe_slice sl_list (pv 5) (po_some pe_int) po_none) pa_nil)) pa_nil))))))))
      (pss_one (ps_ret (pv 3)))))), ?_⟩
    refine ⟨by decide, fun lw hw => ?_⟩
    refine ⟨_, rfl, by decide, fun l1 hl1 => ?_⟩
    refine ⟨by decide, fun l2 hl2 => ?_⟩
    refine ⟨l2, 8, _, rfl, rfl, upd_same, by decide, by decide, by decide, fun l3 hl3 => ?_⟩
    refine ⟨l1, l3, _, _, rfl, rfl, same_new hl3 _ _ (same_new hl2 _ _ upd_same), upd_same, by decide, fun l4 hl4 => ?_⟩
    refine ⟨l4, 5, _, rfl, rfl, upd_same, by decide, by decide, by decide, fun l5 hl5 => ?_⟩
    refine ⟨c, l5, poolSizes, rfl, SqL.of upd_same, by decide, by decide, fun row p H1 dg hp s1 hrow => ?_⟩
    have sW := same_new (o := .lst (words12.map V.str)) hw
    have sB : Same (upd H lw (.lst (words12.map V.str))) H1 := (((((same_new hl1).trans (same_new hl2)).trans (same_new hl3)).trans (same_new hl4)).trans (same_new hl5)).trans s1
    have hwords : H1 lw = some (.lst (words12.map V.str)) := sB _ _ upd_same
    have sA : Same H H1 := sW.trans sB
    clear s1 hl1 hl2 hl3 hl4 hl5 hp sW sB
    have len55 : row.length = 55 := dg.1
    refine ⟨Nat.zero_le _, fun q hq => ?_⟩
    have hqH : H q = none := sA.free hq
    refine ⟨5, rfl, by decide, by decide, for_range (lo := 0) (n := 5) (fun i σ H' => Same H1 H' ∧ ∃ (v v2 : Option V) (xs : List PySem.Str), σ = [some (.int c), some (.ref lw), some (.ref p), some (.ref q), v, v2] ∧ H' q = some (.lst (xs.map V.str)) ∧ xs.length = i ∧ ∀ x ∈ xs, symB x = true)
      ⟨same_new hq, none, none, [], rfl, upd_same, rfl, fun x m => absurd m List.not_mem_nil⟩ ?_ ?_⟩
    · rintro i σ H2 hi ⟨s2, v, v2, xs, rfl, hq2, lx, ok⟩
      have hrow2 := s2 _ _ hrow
      refine ⟨_, rfl, _, rfl, _, _, rfl, rfl, .inl (by decide), _, rfl, _, rfl, _, _, rfl, rfl, .inl (by decide), _, _, rfl, rfl, _, rfl, p, _, rfl, SqL.of hrow2, fun u hu => ?_⟩
      have ea : (11 : Int) * (0 + (i : Int)) = ((11 * i : Nat) : Int) := by omega
      have eb : (11 : Int) * (0 + (i : Int)) + 11 = ((11 * i + 11 : Nat) : Int) := by omega
      rw [eb, ea, cut_in (row := row) (a := 11 * i) (b := 11 * i + 11) (by omega) (by omega), show 11 * i + 11 - 11 * i = 11 by omega]
      generalize hp : (row.drop (11 * i)).take 11 = part
      have pAt : ∀ j, j < 11 → part[j]? = row[11 * i + j]? := fun j hj => by
        rw [← hp, List.getElem?_take_of_lt hj, List.getElem?_drop]
      have dig : ∀ (j : Nat) (t : Int), j < 11 → poolOne[j]? = some t → ∃ d : Nat, part[j]? = some (d : Int) ∧ (d : Int) < t := fun j t hj e => by
        obtain ⟨d, e1, e2, e3⟩ := dg.2 (11 * i + j) t (by rw [poolSizes_at hi hj]; exact e)
        exact ⟨d.toNat, by rw [pAt j hj, e1, Int.toNat_of_nonneg e2], by rw [Int.toNat_of_nonneg e2]; exact e3⟩
      have lp : part.length = 11 := by
        rw [← hp, List.length_take, List.length_drop]
        omega
      obtain ⟨d0, e0, b0⟩ := dig 0 3 (by decide) rfl
      obtain ⟨d1, e1, b1⟩ := dig 1 12 (by decide) rfl
      have partAt : ∀ {j : Nat} {d : Nat}, part[j]? = some (d : Int) → atI (part.map V.int) (j : Int) = some (V.int d) := fun {j d} e => atI_nat (by rw [List.getElem?_map, e]; rfl)
      have sU : Same H2 (upd H2 u (.lst (part.map V.int))) := same_new hu
      have uq : q ≠ u := ne_of_none hq2 hu
      refine ⟨_, rfl, u, _, _, _, rfl, rfl, SqL.of upd_same, partAt (j := 0) e0, rfl, _, rfl, ?_⟩
      refine ite2 (fun _ => ?_) (fun _ => ?_)
      · obtain ⟨y, ey, oky⟩ := words_ok (i := d1) (by omega)
        refine ⟨_, rfl, .inl ⟨rfl, _, SqL.of (sU _ _ hq2)⟩, _, rfl, _, rfl, u, _, _, _, rfl, rfl, SqL.of upd_same, partAt (j := 1) e1, lw, _, _, _, rfl, rfl, SqL.of (sU _ _ (s2 _ _ hwords)), atI_nat (j := d1) (by rw [List.getElem?_map, ey]; rfl), q, _, _, rfl, rfl, sU _ _ hq2, ?_, ?_⟩
        · rw [List.length_map]
          exact Nat.lt_of_le_of_lt (show xs.length ≤ 5 by omega) (by decide)
        · refine ⟨same_mut (s2.trans sU) hq, _, _, xs ++ [y], rfl, ?_, by rw [List.length_append, lx]; rfl, fun x m => ?_⟩
          · rw [upd_same, List.map_append] <;> rfl
          · rcases List.mem_append.mp m with m | m
            · exact ok x m
            · rw [List.mem_singleton.mp m]; exact oky
      · refine ⟨_, rfl, .inl ⟨rfl, _, SqL.of (sU _ _ hq2)⟩, _, rfl, 2, rfl, u, _, rfl, SqL.of upd_same, fun r hr2 => ?_⟩
        have e2 : cutV (part.map V.int) (some 2) none = (part.drop 2).map V.int := cut_from (row := part) (a := 2) (by omega)
        rw [e2]
        have rowS : SymRow (part.drop 2) := by
          refine ⟨?_, fun j j1 j8 => ?_, by rw [List.length_drop]; omega⟩
          · obtain ⟨d, e, b⟩ := dig 2 8 (by decide) rfl
            exact ⟨d, by rw [List.getElem?_drop]; exact e, by omega⟩
          · have all : ∀ j, 1 ≤ j → j ≤ 8 → poolOne[2 + j]? = some 62 := by
              intro j h1 h8
              have z : ∀ j, j < 9 → 1 ≤ j → poolOne[2 + j]? = some 62 := by decide
              exact z j (by omega) h1
            obtain ⟨d, e, b⟩ := dig (2 + j) 62 (by omega) (all j j1 j8)
            exact ⟨d, by rw [List.getElem?_drop]; exact e, by omega⟩
        refine ⟨r, part.drop 2, rfl, SqL.of upd_same, rowS, fun y H3 oky s3 => ?_⟩
        have sC := (sU.trans (same_new (o := .lst ((part.drop 2).map V.int)) hr2)).trans s3
        refine ⟨q, _, _, rfl, rfl, sC _ _ hq2, ?_, ?_⟩
        · rw [List.length_map]
          exact Nat.lt_of_le_of_lt (show xs.length ≤ 5 by omega) (by decide)
        · refine ⟨same_mut (s2.trans sC) hq, _, _, xs ++ [y], rfl, ?_, by rw [List.length_append, lx]; rfl, fun x m => ?_⟩
          · rw [upd_same, List.map_append] <;> rfl
          · rcases List.mem_append.mp m with m | m
            · exact ok x m
            · rw [List.mem_singleton.mp m]; exact oky
    · rintro σ H2 ⟨s2, v, v2, xs, rfl, hq2, lx, ok⟩
      exact ⟨_, rfl, k q H2 xs lx ok (sA.trans s2) hqH hq2⟩
end
end Mk

set_option Elab.async false
set_option maxRecDepth 100000
set_option maxHeartbeats 4000000
namespace Mk
open PySem L2 Pk
theorem seq_split {t u : TS} {D : Ends} {σ : L2.St} {H : Hp} (Good : L2.St → Hp → Prop) (g : ∀ σ' H', Good σ' H' → u D σ' H') (h : (∀ σ' H', Good σ' H' → u D σ' H') → t { D with nx := u D } σ H) : tSeq t u D σ H := h g
theorem seq_const {v : V} {i : Nat} {u : TS} {D : Ends} {σ : L2.St} {H : Hp} (h : u D (σ.set i (some v)) H) : tSeq (tAsg (tC v) (gName i)) u D σ H := h
/-- rules that stand -/
structure Drawn (H : Hp) (l : PySem.Str) (n : Int) (B : Kept) : Prop where
  at_ : KeptAt H B
  ok : ∀ p ∈ B, RlOk l n p.2
  few : B.length ≤ 50
section
variable {P : Program} {w : World} {K : PySem.W.Frag} {mg : PySem.Str → Option Value} {base : Heap}
def spLRule : Sp := fun vs H Q _ => ∃ (c : Int) (l : PySem.Str) (n : Int) (pp pb : Addr) (xs : List PySem.Str) (B : Kept), vs = [.int c, .str l, .int n, .ref pp, .ref pb] ∧ Alpha l ∧ 1 ≤ n ∧ n ≤ 2000 ∧ H pp = some (.lst (xs.map V.str)) ∧ xs.length = 5 ∧ (∀ x ∈ xs, symB x = true) ∧
  H pb = some (.lst (refsK B)) ∧ Drawn H l n B ∧ ∀ (q : Addr) (r : Rl) (H' : Hp), RlOk l n r → H' q = some (.tup r.vs) → Same H H' → Q (.ref q) H'
abbrev nLRule : List PySem.Str := ["cell", "letters", "states", "pool", "before", "row", "signs", "own", "key", "earlier", "move", "deed", "symbol", "said", "letter", "digit"]
theorem scLRule : FnScope nLRule ["cell", "letters", "states", "pool", "before"] (defScope sLRule) := ⟨rfl, rfl, rfl, by decide +kernel, rfl, by decide +kernel, by decide +kernel⟩
abbrev ruleSizes : List Int := [6, 997, 28, 8, 2000, 2000, 3, 4, 7, 4, 26, 26, 26, 8] ++ List.replicate 8 62
theorem ok_lrule {f : Addr} {fd : FuncData} (F : Fun K "_law_rule" "_law_rule" sLRule f fd) (T : TM mg) (G : Got P w K mg base "_law_digits" 1 ["cell", "sizes"] (spDigits K)) (GS : Got P w K mg base "_law_symbol" 1 ["row"] (spSym K)) :
    FnOk P w K mg base CX0 2 f fd ["cell", "letters", "states", "pool", "before"] spLRule := by
  refine F.ok scLRule (fun vs H Q E h => ?_) (fun cdv A outer s H vs Q E hr h => ?_)
  · obtain ⟨c, l, n, pp, pb, xs, B, rfl, _⟩ := h
    rfl
  · obtain ⟨c, l, n, pp, pb, xs, B, rfl, al, n1, n2, hpool, lx, okx, hbef, hB, k⟩ := h
    have nd := scLRule.nd
    refine ⟨_, pss_cons (ps_set (i := 5) nd rfl (Or.inl rfl) (pe_got G hr (by rfl) (pa_cons (pv 0) (pa_cons (pe_op op_cat (pe_lst (pa_cons pe_int (pa_cons pe_int (pa_cons pe_int (pa_cons pe_int (pa_cons pe_int (pa_cons pe_int (pa_cons pe_int (pa_cons pe_int (pa_cons pe_int (pa_cons pe_int (pa_cons pe_int (pa_cons pe_int (pa_cons pe_int (pa_cons pe_int pa_nil))))))))))))))) (pe_op op_rep (pe_lst (pa_cons pe_int pa_nil)) pe_int)) pa_nil))))
      (pss_cons (ps_set (i := 6) nd rfl (Or.inl rfl) (pe_op op_cat (pe_lst (pa_cons pe_str (pa_cons pe_str pa_nil))) (pe_lc (own := [("letter", 14)]) (g := gName 14) (tt := tYes) (by rfl) nd (pi_str (pv 1))
          (blkOk_by (own := [("letter", 14)]) (N := nLRule) (sc := defScope sLRule) (by decide +kernel)) (fun _ _ _ _ _ => pg_name (i := 14) nd rfl (Or.inl rfl)) (fun _ _ _ _ _ => pts_nil) (fun _ _ _ _ _ => pv 14))))
      (pss_cons (ps_set (i := 7) nd rfl (Or.inl rfl) (pe_got GS hr (by rfl) (pa_cons (pe_slice sl_list (pv 5) (po_some pe_int) po_none) pa_nil)))
      (pss_cons (ps_set (i := 8) nd rfl (Or.inl rfl) (pe_tup (pa_cons (pe_op op_mod (pe_callTy call_int1 (by rfl) T.int PyProof.Rows.Boot.int (pa_cons (pe_ix ix_list (pv 5) pe_int fun _ _ => rfl) pa_nil)) (pv 2))
          (pa_cons (pe_ix ix_list (pv 6) (pe_op op_mod (pe_callTy call_int1 (by rfl) T.int PyProof.Rows.Boot.int (pa_cons (pe_ix ix_list (pv 5) pe_int fun _ _ => rfl) pa_nil)) (pe_callB call_len_seq (by rfl) T.len PySem.boot_len (pa_cons (pv 6) pa_nil))) fun _ _ => rfl)
          (pa_cons (pe_ix ix_list (pe_op op_cat (pe_op op_cat (pe_lst (pa_cons pe_str (pa_cons pe_str pa_nil))) (pv 3)) (pe_lst (pa_cons (pv 7) pa_nil))) (pe_ix ix_list (pv 5) pe_int fun _ _ => rfl) fun _ _ => rfl) pa_nil)))))
      (pss_cons (ps_if (PW.pt (pw_and (pt_cmpR op_lt (pe_ix ix_list (pv 5) pe_int fun _ _ => rfl) pe_int (nomark _)) (pw_and1 (pt_cmpR op_gt (pe_callB call_len_seq (by rfl) T.len PySem.boot_len (pa_cons (pv 4) pa_nil)) pe_int (nomark _)))))
          (pss_cons (ps_set (i := 9) nd rfl (Or.inl rfl) (pe_ix ix_list (pv 4) (pe_op op_mod (pe_callTy call_int1 (by rfl) T.int PyProof.Rows.Boot.int (pa_cons (pe_ix ix_list (pv 5) pe_int fun _ _ => rfl) pa_nil)) (pe_callB call_len_seq (by rfl) T.len PySem.boot_len (pa_cons (pv 4) pa_nil))) fun _ _ => rfl))
          (pss_cons (ps_if (pt_cmpR op_eq (pe_ix ix_list (pv 5) pe_int fun _ _ => rfl) pe_int (nomark _)) (pss_one (ps_ret (pv 9))) pss_nil)
          (pss_one (ps_set (i := 8) nd rfl (Or.inl rfl) (pe_slice sl_tup (pv 9) po_none (po_some pe_int)))))) pss_nil)
      (pss_cons (ps_set (i := 10) nd rfl (Or.inl rfl) (pe_op op_sub (pe_ix ix_list (pv 5) pe_int fun _ _ => rfl) pe_int))
      (pss_cons (ps_if (pt_cmpR op_eq (pe_ix ix_tup (pv 8) pe_int fun _ _ => rfl) pe_str (nomark _)) (pss_one (ps_set (i := 10) nd rfl (Or.inl rfl) (pe_callB call_abs (by rfl) T.abs (by decide +kernel) (pa_cons (pv 10) pa_nil)))) pss_nil)
      (pss_cons (ps_if (pt_cmpR op_eq (pe_ix ix_tup (pv 8) pe_int fun _ _ => rfl) pe_str (nomark _)) (pss_one (ps_set (i := 10) nd rfl (Or.inl rfl) (pe_un un_neg (pe_callB call_abs (by rfl) T.abs (by decide +kernel) (pa_cons (pv 10) pa_nil))))) pss_nil)
      (pss_cons (ps_set (i := 11) nd rfl (Or.inl rfl) (pe_ix ix_list (pe_lst (pa_cons pe_str (pa_cons pe_str (pa_cons pe_str (pa_cons pe_str pa_nil))))) (pe_ix ix_list (pv 5) pe_int fun _ _ => rfl) fun _ _ => rfl))
      (pss_cons (ps_if (pt_cmpR op_eq (pe_ix ix_tup (pv 8) pe_int fun _ _ => rfl) pe_str (nomark _)) (pss_one (ps_set (i := 11) nd rfl (Or.inl rfl) (pe_ix ix_list (pe_lst (pa_cons pe_str (pa_cons pe_str (pa_cons pe_str (pa_cons pe_str pa_nil))))) (pe_ix ix_list (pv 5) pe_int fun _ _ => rfl) fun _ _ => rfl))) pss_nil)
      (pss_cons (ps_set (i := 12) nd rfl (Or.inl rfl) pe_str)
      (pss_cons (ps_if (PW.pt (pw_or (pt_cmpR op_eq (pv 11) pe_str (nomark _)) (pw_or1 (pt_cmpR op_eq (pv 11) pe_str (nomark _))))) (pss_one (ps_set (i := 12) nd rfl (Or.inl rfl) (pe_ix ix_list (pe_op op_cat (pv 3) (pe_lst (pa_cons (pv 7) (pa_cons (pv 7) pa_nil)))) (pe_ix ix_list (pv 5) pe_int fun _ _ => rfl) fun _ _ => rfl))) pss_nil)
      (pss_cons (ps_set (i := 13) nd rfl (Or.inl rfl) (pe_join pe_str (pe_lc (own := [("digit", 15)]) (g := gName 15) (tt := tYes) (by rfl) nd (pi_list (pe_slice sl_list (pv 5) (po_some pe_int) (po_some (pe_op op_add pe_int (pe_ix ix_list (pv 5) pe_int fun _ _ => rfl)))))
          (blkOk_by (own := [("digit", 15)]) (N := nLRule) (sc := defScope sLRule) (by decide +kernel)) (fun _ _ _ _ _ => pg_name (i := 15) nd rfl (Or.inl rfl)) (fun _ _ _ _ _ => pts_nil) (fun _ _ _ _ _ => pe_ix ix_str pe_str (pv 15) fun _ _ => rfl))))
      (pss_one (ps_ret (pe_op op_catT (pv 8) (pe_tup (pa_cons (pe_op op_mod (pe_callTy call_int1 (by rfl) T.int PyProof.Rows.Boot.int (pa_cons (pe_ix ix_list (pv 5) pe_int fun _ _ => rfl) pa_nil)) (pv 2)) (pa_cons (pv 10) (pa_cons (pv 11) (pa_cons (pv 12) (pa_cons (pv 13) pa_nil))))))))))))))))))))), ?_⟩
    refine ⟨_, rfl, by decide, fun l1 hl1 => ?_⟩
    refine ⟨by decide, fun l2 hl2 => ?_⟩
    refine ⟨l2, 8, _, rfl, rfl, upd_same, by decide, by decide, by decide, fun l3 hl3 => ?_⟩
    refine ⟨l1, l3, _, _, rfl, rfl, same_new hl3 _ _ (same_new hl2 _ _ upd_same), upd_same, by decide, fun l4 hl4 => ?_⟩
    refine ⟨c, l4, ruleSizes, rfl, SqL.of upd_same, by decide, by decide, fun row p H1 dg hp s1 hrow => ?_⟩
    have sA : Same H H1 := ((((same_new hl1).trans (same_new hl2)).trans (same_new hl3)).trans (same_new hl4)).trans s1
    clear s1 hl1 hl2 hl3 hl4 hp
    have len22 : row.length = 22 := dg.1
    have dig : ∀ (j : Nat) (t : Int), ruleSizes[j]? = some t → ∃ d : Nat, row[j]? = some (d : Int) ∧ (d : Int) < t := fun j t e => by
      obtain ⟨d, e1, e2, e3⟩ := dg.2 j t e
      exact ⟨d.toNat, by rw [e1, Int.toNat_of_nonneg e2], by rw [Int.toNat_of_nonneg e2]; exact e3⟩
    have rowAt : ∀ {j : Nat} {d : Nat}, row[j]? = some (d : Int) → atI (row.map V.int) (j : Int) = some (V.int d) := fun {j d} e => atI_nat (by rw [List.getElem?_map, e]; rfl)
    obtain ⟨d0, e0, b0⟩ := dig 0 6 rfl
    obtain ⟨d1, e1, b1⟩ := dig 1 997 rfl
    obtain ⟨d2, e2, b2⟩ := dig 2 28 rfl
    obtain ⟨d3, e3, b3⟩ := dig 3 8 rfl
    obtain ⟨d4, e4, b4⟩ := dig 4 2000 rfl
    obtain ⟨d5, e5, b5⟩ := dig 5 2000 rfl
    obtain ⟨d6, e6, b6⟩ := dig 6 3 rfl
    obtain ⟨d7, e7, b7⟩ := dig 7 4 rfl
    obtain ⟨d8, e8, b8⟩ := dig 8 7 rfl
    obtain ⟨d9, e9, b9⟩ := dig 9 4 rfl
    -- signs
    refine ⟨by decide, fun la ha => ?_⟩
    refine ⟨_, rfl, l, rfl, fun D hD => lc_it walk_str (fun i H' => Same (upd H1 la (.lst [.str lt0, .str gt0])) H' ∧ H' D = some (.lst (((l.cps.toList.take i).map sgn1).map V.str)))
      ⟨same_new hD, upd_same⟩ (fun _ _ _ _ => trivial) ?_ ?_⟩
    · rintro i y H2 H3 hi ⟨s2, hD2⟩ ⟨rfl, c0, hc0, rfl⟩
      have hc1 : l.cps.toList[i]? = some c0 := by rw [Array.getElem?_toList]; exact hc0
      refine ⟨rfl, ?_⟩
      refine ⟨_, rfl, _, hD2, ?_, same_mut s2 hD, ?_⟩
      · rw [List.length_map, List.length_map, List.length_take, Array.length_toList]
        have q : l.cps.size ≤ 26 := al.most
        exact Nat.lt_of_le_of_lt (Nat.le_trans (Nat.min_le_right _ _) q) (by decide)
      · rw [upd_same, take_at hc1, List.map_append, List.map_append]
        rfl
    rintro H2 ⟨s2, hD2⟩
    have full : l.cps.toList.take l.cps.size = l.cps.toList := List.take_of_length_le (by rw [Array.length_toList]; exact Nat.le_refl _)
    rw [full] at hD2
    refine ⟨la, D, _, _, rfl, rfl, s2 _ _ upd_same, hD2, ?_, fun ls hls => ?_⟩
    · rw [List.length_map, List.length_map, Array.length_toList]
      have q : l.cps.size ≤ 26 := al.most
      exact Nat.le_trans (Nat.add_le_add_left q _) (by decide)
    have s12 : Same H1 (upd H2 ls (.lst (([lt0, gt0] ++ l.cps.toList.map sgn1).map V.str))) := ((same_new ha).trans s2).trans (same_new hls)
    have eSL : ([V.str lt0, V.str gt0] ++ (l.cps.toList.map sgn1).map V.str) = ([lt0, gt0] ++ l.cps.toList.map sgn1).map V.str := by rw [List.map_append] <;> rfl
    have hSL : (upd H2 ls (.lst (([lt0, gt0] ++ l.cps.toList.map sgn1).map V.str))) ls = some (.lst (([lt0, gt0] ++ l.cps.toList.map sgn1).map V.str)) := upd_same
    rw [show ([V.str (PySem.Str.ofString "<"), V.str (PySem.Str.ofString ">")] ++ (l.cps.toList.map sgn1).map V.str) = ([lt0, gt0] ++ l.cps.toList.map sgn1).map V.str from eSL]
    generalize upd H2 ls (.lst (([lt0, gt0] ++ l.cps.toList.map sgn1).map V.str)) = H3 at s12 hSL ⊢
    have sB := sA.trans s12
    -- own
    refine ⟨_, rfl, 13, rfl, p, _, rfl, SqL.of (s12 _ _ hrow), fun u hu => ?_⟩
    have e13 : cutV (row.map V.int) (some 13) none = (row.drop 13).map V.int := cut_from (row := row) (a := 13) (by omega)
    rw [e13]
    have rowS : SymRow (row.drop 13) := by
      refine ⟨?_, fun j j1 j8 => ?_, by rw [List.length_drop]; omega⟩
      · obtain ⟨d, e, b⟩ := dig 13 8 rfl
        exact ⟨d, by rw [List.getElem?_drop]; exact e, by omega⟩
      · have all : ∀ j, j < 9 → 1 ≤ j → ruleSizes[13 + j]? = some 62 := by decide
        obtain ⟨d, e, b⟩ := dig (13 + j) 62 (all j (by omega) j1)
        exact ⟨d, by rw [List.getElem?_drop]; exact e, by omega⟩
    refine ⟨u, row.drop 13, rfl, SqL.of upd_same, rowS, fun own H4 okO s4 => ?_⟩
    have s34 : Same H3 H4 := (same_new hu).trans s4
    have sC := sB.trans s34
    have hrow4 := s34 _ _ (s12 _ _ hrow)
    have hSL4 := s34 _ _ hSL
    have hpool4 := sC _ _ hpool
    have hbef4 := sC _ _ hbef
    clear hu s4
    generalize hSLd : ([lt0, gt0] ++ l.cps.toList.map sgn1) = SL at hSL4
    have okSL : ∀ x ∈ SL, Sgn l x := by
      intro x m
      rw [← hSLd] at m
      rcases List.mem_append.mp m with m | m
      · rcases List.mem_cons.mp m with e | m
        · exact ⟨60, by rw [e]; decide +kernel, .inl rfl⟩
        · exact ⟨62, by rw [List.mem_singleton.mp m]; decide +kernel, .inr (.inl rfl)⟩
      · obtain ⟨c0, m0, rfl⟩ := List.mem_map.mp m
        exact ⟨c0, rfl, .inr (.inr m0)⟩
    have posSL : 0 < SL.length := by rw [← hSLd]; simp
    -- key
    refine ⟨_, rfl, _, _, _, _, rfl, rfl, SqL.of hrow4, rowAt (j := 4) e4, .inl ⟨_, rfl, _, rfl, _, _, rfl, rfl, by omega, ?_⟩⟩
    have lt2 : d2 % SL.length < SL.length := Nat.mod_lt _ posSL
    have at2 : (SL.map V.str)[d2 % SL.length]? = some (V.str SL[d2 % SL.length]) := by rw [List.getElem?_map, List.getElem?_eq_getElem lt2] <;> rfl
    have sgOk : Sgn l SL[d2 % SL.length] := okSL _ (List.getElem_mem lt2)
    generalize SL[d2 % SL.length] = sg0 at at2 sgOk
    have e2i : (d2 : Int) % (((SL.map V.str).length : Nat) : Int) = ((d2 % SL.length : Nat) : Int) := by rw [List.length_map]; omega
    have posI : (0 : Int) < (((SL.map V.str).length : Nat) : Int) := by rw [List.length_map]; omega
    refine ⟨_, rfl, _, rfl, _, _, _, _, rfl, rfl, SqL.of hrow4, rowAt (j := 2) e2, .inl ⟨_, rfl, _, rfl, ls, _, rfl, .inl (SqL.of hSL4), _, _, rfl, rfl, posI, ls, _, _, _, rfl, rfl, SqL.of hSL4, by rw [e2i]; exact atI_nat at2, ?_⟩⟩
    -- the tops
    refine ⟨by decide, fun a1 h1 => ?_⟩
    refine ⟨_, rfl, a1, pp, _, _, rfl, rfl, upd_same, same_new h1 _ _ hpool4, by rw [List.length_map, lx]; decide, fun a2 h2 => ?_⟩
    refine ⟨_, rfl, show 1 ≤ sizeLine by decide, fun a3 h3 => ?_⟩
    refine ⟨a2, a3, _, _, rfl, rfl, same_new h3 _ _ upd_same, upd_same, by rw [List.length_append, List.length_map, lx]; exact (show 2 + 5 + 1 ≤ sizeLine by decide), fun a4 h4 => ?_⟩
    have s4d : Same H4 (upd (upd (upd (upd H4 a1 (.lst [V.str nil0, V.str nil0])) a2 (.lst ([V.str nil0, V.str nil0] ++ xs.map V.str))) a3 (.lst [V.str own])) a4 (.lst (([V.str nil0, V.str nil0] ++ xs.map V.str) ++ [V.str own]))) := (((same_new h1).trans (same_new h2)).trans (same_new h3)).trans (same_new h4)
    have eTL : (([V.str nil0, V.str nil0] ++ xs.map V.str) ++ [V.str own]) = ([nil0, nil0] ++ xs ++ [own]).map V.str := by rw [List.map_append, List.map_append] <;> rfl
    have hTL : (upd (upd (upd (upd H4 a1 (.lst [V.str nil0, V.str nil0])) a2 (.lst ([V.str nil0, V.str nil0] ++ xs.map V.str))) a3 (.lst [V.str own])) a4 (.lst (([V.str nil0, V.str nil0] ++ xs.map V.str) ++ [V.str own]))) a4 = some (.lst (([nil0, nil0] ++ xs ++ [own]).map V.str)) := by rw [upd_same, eTL]
    show (tOp (rIxL K) (tVar 5) (tC (V.int 3))) _ (upd (upd (upd (upd H4 a1 (.lst [V.str nil0, V.str nil0])) a2 (.lst ([V.str nil0, V.str nil0] ++ xs.map V.str))) a3 (.lst [V.str own])) a4 (.lst (([V.str nil0, V.str nil0] ++ xs.map V.str) ++ [V.str own]))) _
    generalize upd (upd (upd (upd H4 a1 (.lst [V.str nil0, V.str nil0])) a2 (.lst ([V.str nil0, V.str nil0] ++ xs.map V.str))) a3 (.lst [V.str own])) a4 (.lst (([V.str nil0, V.str nil0] ++ xs.map V.str) ++ [V.str own])) = H5 at s4d hTL ⊢
    clear h1 h2 h3 h4
    have lTL : ([nil0, nil0] ++ xs ++ [own]).length = 8 := by rw [List.length_append, List.length_append, lx] <;> rfl
    have lt3 : d3 < ([nil0, nil0] ++ xs ++ [own]).length := by omega
    have at3 : (([nil0, nil0] ++ xs ++ [own]).map V.str)[d3]? = some (V.str ([nil0, nil0] ++ xs ++ [own])[d3]) := by rw [List.getElem?_map, List.getElem?_eq_getElem lt3] <;> rfl
    have tpOk : Top ([nil0, nil0] ++ xs ++ [own])[d3] := by
      have m := List.getElem_mem lt3
      rcases List.mem_append.mp m with m | m
      · rcases List.mem_append.mp m with m | m
        · rcases List.mem_cons.mp m with e | m
          · exact .inr e
          · exact .inr (List.mem_singleton.mp m)
        · exact .inl (okx _ m)
      · rw [List.mem_singleton.mp m]
        exact .inl okO
    generalize ([nil0, nil0] ++ xs ++ [own])[d3] = tp0 at at3 tpOk
    refine ⟨_, rfl, _, _, _, _, rfl, rfl, SqL.of (s4d _ _ hrow4), rowAt (j := 3) e3, a4, _, _, _, rfl, rfl, SqL.of hTL, atI_nat at3, show 3 ≤ sizeLine by decide, fun kq hkq => ?_⟩
    have s46 : Same H4 (upd H5 kq (.tup [.int ((d4 : Int) % n), .str sg0, .str tp0])) := s4d.trans (same_new hkq)
    have hkq6 : (upd H5 kq (.tup [.int ((d4 : Int) % n), .str sg0, .str tp0])) kq = some (.tup [.int ((d4 : Int) % n), .str sg0, .str tp0]) := upd_same
    dsimp only [gName]
    generalize upd H5 kq (.tup [.int ((d4 : Int) % n), .str sg0, .str tp0]) = H6 at s46 hkq6 ⊢
    have st0 : 0 ≤ (d4 : Int) % n ∧ (d4 : Int) % n ≤ n - 1 := ⟨Int.emod_nonneg _ (by omega), by have := Int.emod_lt_of_pos (d4 : Int) (show 0 < n by omega); omega⟩
    have hrow6 := s46 _ _ hrow4
    have hbef6 := s46 _ _ hbef4
    have sD := sC.trans s46
    refine seq_split (fun σ' H' => Same H6 H' ∧ ∃ (v9 : Option V) (kq : Addr) (st : Int) (sg tp : PySem.Str), σ' = [some (.int c), some (.str l), some (.int n), some (.ref pp), some (.ref pb), some (.ref p), some (.ref ls), some (.str own), some (.ref kq), v9, none, none, none, none, none, none] ∧
        H' kq = some (.tup [.int st, .str sg, .str tp]) ∧ (0 ≤ st ∧ st ≤ n - 1) ∧ Sgn l sg ∧ Top tp) ?_ (fun rest => ?_)
    rotate_left
    · have plain : ∀ {D : Ends}, D.nx = D.nx → True := fun _ => trivial
      refine ⟨_, rfl, _, _, _, _, rfl, rfl, SqL.of hrow6, rowAt (j := 0) e0, _, _, rfl, rfl, _, rfl, ?_⟩
      refine ite2 (fun _ => ?_) (fun _ => iteF (rest _ _ ⟨fun _ _ z => z, none, kq, _, sg0, tp0, rfl, hkq6, st0, sgOk, tpOk⟩))
      refine ⟨_, rfl, pb, _, rfl, .inl (SqL.of hbef6), _, _, rfl, rfl, _, rfl, ?_⟩
      refine ite2 (fun big => ?_) (fun _ => rest _ _ ⟨fun _ _ z => z, none, kq, _, sg0, tp0, rfl, hkq6, st0, sgOk, tpOk⟩)
      have posB : 0 < B.length := by
        have z := of_decide_eq_true big
        unfold refsK at z
        rw [List.length_map] at z
        omega
      have ltB : d1 % B.length < B.length := Nat.mod_lt _ posB
      have eB : (d1 : Int) % (((refsK B).length : Nat) : Int) = ((d1 % B.length : Nat) : Int) := by unfold refsK; rw [List.length_map]; omega
      have atB : (refsK B)[d1 % B.length]? = some (.ref B[d1 % B.length].1) := by unfold refsK; rw [List.getElem?_map, List.getElem?_eq_getElem ltB] <;> rfl
      have mB : B[d1 % B.length] ∈ B := List.getElem_mem ltB
      have okB := hB.ok _ mB
      have tupB := sD _ _ (hB.at_ _ mB)
      generalize B[d1 % B.length] = e at atB mB okB tupB
      have posBI : (0 : Int) < (((refsK B).length : Nat) : Int) := by unfold refsK; rw [List.length_map]; omega
      refine ⟨_, rfl, _, rfl, _, _, _, _, rfl, rfl, SqL.of hrow6, rowAt (j := 1) e1, .inl ⟨_, rfl, _, rfl, pb, _, rfl, .inl (SqL.of hbef6), _, _, rfl, rfl, posBI, pb, _, _, _, rfl, rfl, SqL.of hbef6, by rw [eB]; exact atI_nat atB, ?_⟩⟩
      refine ⟨_, rfl, _, _, _, _, rfl, rfl, SqL.of hrow6, rowAt (j := 0) e0, rfl, _, rfl, ?_⟩
      refine ite2 (fun _ => ?_) (fun _ => ?_)
      · exact ⟨_, rfl, k e.1 e.2 H6 okB tupB sD⟩
      · refine ⟨_, rfl, 3, rfl, e.1, e.2.vs, rfl, .inl (.inl tupB), (show ¬ (HT.sIx 8 0 none = 0 ∧ HT.sIx 8 8 (some 3) = 8) by decide), fun q3 h3 => ?_⟩
        exact rest _ _ ⟨same_new h3, _, q3, e.2.st, e.2.sg, e.2.tp, rfl, upd_same, okB.st, okB.sg, okB.tp⟩
    rintro σ H7 ⟨s7, v9, kq, st, sg, tp, rfl, hkq7, st7, sg7, tp7⟩
    have hrow7 := s7 _ _ hrow6
    have sE := sD.trans s7
    have same0 : Same H7 H7 := fun _ _ z => z
    -- move
    refine ⟨_, rfl, _, _, _, _, rfl, rfl, SqL.of hrow7, rowAt (j := 6) e6, _, _, rfl, rfl, ?_⟩
    dsimp only [gName]
    refine seq_split (fun σ' H' => H7 = H' ∧ ∃ m : Int, σ' = [some (.int c), some (.str l), some (.int n), some (.ref pp), some (.ref pb), some (.ref p), some (.ref ls), some (.str own), some (.ref kq), v9, some (.int m), none, none, none, none, none] ∧ -1 ≤ m ∧ m ≤ 1 ∧ (sg = lt0 → 0 ≤ m)) ?_ (fun rest => ?_)
    rotate_left
    · refine ⟨_, rfl, kq, _, _, _, rfl, rfl, .inl (.inl hkq7), rfl, rfl, _, rfl, ?_⟩
      rw [show decide (V.str sg = V.str (PySem.Str.ofString "<")) = decide (sg = lt0) from dec_str sg lt0]
      refine ite2 (fun e => ?_) (fun e => ?_)
      · refine ⟨_, rfl, _, rfl, ?_⟩
        refine rest _ _ ⟨rfl, _, rfl, ?_, ?_, fun _ => ?_⟩ <;> (split <;> omega)
      · exact rest _ _ ⟨rfl, _, rfl, by omega, by omega, fun z => absurd (decide_eq_true z) e⟩
    rintro σ H' ⟨rfl, m1, rfl, lo1, hi1, lm1⟩
    refine seq_split (fun σ' H' => H7 = H' ∧ ∃ m : Int, σ' = [some (.int c), some (.str l), some (.int n), some (.ref pp), some (.ref pb), some (.ref p), some (.ref ls), some (.str own), some (.ref kq), v9, some (.int m), none, none, none, none, none] ∧ Mv sg m) ?_ (fun rest => ?_)
    rotate_left
    · refine ⟨_, rfl, kq, _, _, _, rfl, rfl, .inl (.inl hkq7), rfl, rfl, _, rfl, ?_⟩
      rw [show decide (V.str sg = V.str (PySem.Str.ofString ">")) = decide (sg = gt0) from dec_str sg gt0]
      refine ite2 (fun e => ?_) (fun e => ?_)
      · have eg : sg = gt0 := of_decide_eq_true e
        refine ⟨_, rfl, _, rfl, _, rfl, ?_⟩
        have ab : 0 ≤ (if m1 < 0 then -m1 else m1) ∧ (if m1 < 0 then -m1 else m1) ≤ 1 := by split <;> omega
        refine rest _ _ ⟨rfl, _, rfl, by omega, by omega, fun z => ?_, fun _ => by omega⟩
        rw [eg] at z
        exact absurd z (by decide +kernel)
      · refine rest _ _ ⟨rfl, m1, rfl, lo1, hi1, fun z => ?_, fun z => absurd (decide_eq_true z) e⟩
        have := lm1 z
        omega
    rintro σ H' ⟨rfl, mv, rfl, mvOk⟩
    -- deed
    refine ⟨show 4 ≤ sizeLine by decide, fun a5 h5 => ?_⟩
    have at7 : ([V.str keep0, V.str pop0, V.str push0, V.str swap0])[d7]? = some (V.str ([keep0, pop0, push0, swap0].getD d7 keep0)) := by
      have all : ∀ j, j < 4 → ([V.str keep0, V.str pop0, V.str push0, V.str swap0])[j]? = some (V.str ([keep0, pop0, push0, swap0].getD j keep0)) := by
        intro j hj
        match j, hj with
        | 0, _ => rfl
        | 1, _ => rfl
        | 2, _ => rfl
        | 3, _ => rfl
      exact all d7 (by omega)
    have one7 : ∀ j, j < 4 → [keep0, pop0, push0, swap0].getD j keep0 = keep0 ∨ [keep0, pop0, push0, swap0].getD j keep0 = pop0 ∨ [keep0, pop0, push0, swap0].getD j keep0 = push0 ∨ [keep0, pop0, push0, swap0].getD j keep0 = swap0 := by
      intro j hj
      match j, hj with
      | 0, _ => exact .inl rfl
      | 1, _ => exact .inr (.inl rfl)
      | 2, _ => exact .inr (.inr (.inl rfl))
      | 3, _ => exact .inr (.inr (.inr rfl))
    have at7b : ([V.str keep0, V.str keep0, V.str push0, V.str push0])[d7]? = some (V.str ([keep0, keep0, push0, push0].getD d7 keep0)) := by
      have all : ∀ j, j < 4 → ([V.str keep0, V.str keep0, V.str push0, V.str push0])[j]? = some (V.str ([keep0, keep0, push0, push0].getD j keep0)) := by
        intro j hj
        match j, hj with
        | 0, _ => rfl
        | 1, _ => rfl
        | 2, _ => rfl
        | 3, _ => rfl
      exact all d7 (by omega)
    have two7 : ∀ j, j < 4 → [keep0, keep0, push0, push0].getD j keep0 = keep0 ∨ [keep0, keep0, push0, push0].getD j keep0 = push0 := by
      intro j hj
      match j, hj with
      | 0, _ => exact .inl rfl
      | 1, _ => exact .inl rfl
      | 2, _ => exact .inr rfl
      | 3, _ => exact .inr rfl
    have s8 : Same H7 (upd H7 a5 (.lst [V.str keep0, V.str pop0, V.str push0, V.str swap0])) := same_new h5
    refine ⟨_, rfl, _, _, _, _, rfl, rfl, SqL.of (s8 _ _ hrow7), rowAt (j := 7) e7, a5, _, _, _, rfl, rfl, SqL.of upd_same, atI_nat at7, ?_⟩
    dsimp only [gName]
    refine seq_split (fun σ' H' => Same H7 H' ∧ ∃ de : PySem.Str, σ' = [some (.int c), some (.str l), some (.int n), some (.ref pp), some (.ref pb), some (.ref p), some (.ref ls), some (.str own), some (.ref kq), v9, some (.int mv), some (.str de), none, none, none, none] ∧ (de = keep0 ∨ de = pop0 ∨ de = push0 ∨ de = swap0) ∧ (tp = nil0 → de = keep0 ∨ de = push0)) ?_ (fun rest => ?_)
    rotate_left
    · refine ⟨_, rfl, kq, _, _, _, rfl, rfl, .inl (.inl (s8 _ _ hkq7)), rfl, rfl, _, rfl, ?_⟩
      rw [show decide (V.str tp = V.str (PySem.Str.ofString "")) = decide (tp = nil0) from dec_str tp nil0]
      refine ite2 (fun e => ?_) (fun e => ?_)
      · refine ⟨show 4 ≤ sizeLine by decide, fun a6 h6 => ?_⟩
        have s9 := s8.trans (same_new (o := .lst [V.str keep0, V.str keep0, V.str push0, V.str push0]) h6)
        refine ⟨_, rfl, _, _, _, _, rfl, rfl, SqL.of (s9 _ _ hrow7), rowAt (j := 7) e7, a6, _, _, _, rfl, rfl, SqL.of upd_same, atI_nat at7b, ?_⟩
        refine rest _ _ ⟨s9, _, rfl, ?_, fun _ => two7 d7 (by omega)⟩
        rcases two7 d7 (by omega) with z | z
        · exact .inl z
        · exact .inr (.inr (.inl z))
      · exact rest _ _ ⟨s8, _, rfl, one7 d7 (by omega), fun z => absurd (decide_eq_true z) e⟩
    rintro σ H8 ⟨s8, de, rfl, deOne, deLow⟩
    have hpool8 := s8 _ _ (s7 _ _ (s46 _ _ hpool4))
    have hrow8 := s8 _ _ hrow7
    have hkq8 := s8 _ _ hkq7
    -- symbol
    refine seq_const ?_
    refine seq_split (fun σ' H' => Same H8 H' ∧ ∃ sy : PySem.Str, σ' = [some (.int c), some (.str l), some (.int n), some (.ref pp), some (.ref pb), some (.ref p), some (.ref ls), some (.str own), some (.ref kq), v9, some (.int mv), some (.str de), some (.str sy), none, none, none] ∧ (de = push0 ∨ de = swap0 → symB sy = true) ∧ (de = keep0 ∨ de = pop0 → sy = nil0)) ?_ (fun rest => ?_)
    rotate_left
    · have ep : decide (V.str de = V.str (PySem.Str.ofString "push")) = decide (de = push0) := dec_str de push0
      have es : decide (V.str de = V.str (PySem.Str.ofString "swap")) = decide (de = swap0) := dec_str de swap0
      have same8 : Same H8 H8 := fun _ _ z => z
      have lt8 : d8 < (xs ++ [own, own]).length := by rw [List.length_append, lx]; show d8 < 5 + 2; omega
      have sy8 : symB (xs ++ [own, own])[d8] = true := by
        have m := List.getElem_mem lt8
        rcases List.mem_append.mp m with m | m
        · exact okx _ m
        · rcases List.mem_cons.mp m with e | m
          · rw [e]; exact okO
          · rw [List.mem_singleton.mp m]; exact okO
      have at8 : (xs.map V.str ++ [V.str own, V.str own])[d8]? = some (V.str (xs ++ [own, own])[d8]) := by
        have e : xs.map V.str ++ [V.str own, V.str own] = (xs ++ [own, own]).map V.str := by rw [List.map_append] <;> rfl
        rw [e, List.getElem?_map, List.getElem?_eq_getElem lt8] <;> rfl
      generalize (xs ++ [own, own])[d8] = sy0 at sy8 at8
      refine ⟨_, rfl, rfl, _, rfl, ?_⟩
      rw [ep]
      refine ite2 (fun y => ?_) (fun y => ?_)
      · have yy := of_decide_eq_true y
        refine iteT ?_
        refine ⟨_, rfl, _, rfl, _, rfl, show 2 ≤ sizeLine by decide, fun a7 h7 => ?_⟩
        refine ⟨pp, a7, _, _, rfl, rfl, same_new h7 _ _ hpool8, upd_same, by rw [List.length_map, lx]; exact (show 5 + 2 ≤ sizeLine by decide), fun a8 h8 => ?_⟩
        have sN : Same H8 (upd (upd H8 a7 (.lst [V.str own, V.str own])) a8 (.lst (xs.map V.str ++ [V.str own, V.str own]))) := (same_new h7).trans (same_new h8)
        refine ⟨_, rfl, _, _, _, _, rfl, rfl, SqL.of (sN _ _ hrow8), rowAt (j := 8) e8, a8, _, _, _, rfl, rfl, SqL.of upd_same, atI_nat at8, ?_⟩
        refine rest _ _ ⟨sN, sy0, rfl, fun _ => sy8, fun z => ?_⟩
        rw [yy] at z
        exact absurd z (by decide +kernel)
      · refine ⟨_, rfl, rfl, _, rfl, ?_⟩
        rw [es]
        refine ite2 (fun y2 => ?_) (fun y2 => ?_)
        · have yy := of_decide_eq_true y2
          refine ⟨_, rfl, _, rfl, _, rfl, show 2 ≤ sizeLine by decide, fun a7 h7 => ?_⟩
          refine ⟨pp, a7, _, _, rfl, rfl, same_new h7 _ _ hpool8, upd_same, by rw [List.length_map, lx]; exact (show 5 + 2 ≤ sizeLine by decide), fun a8 h8 => ?_⟩
          have sN : Same H8 (upd (upd H8 a7 (.lst [V.str own, V.str own])) a8 (.lst (xs.map V.str ++ [V.str own, V.str own]))) := (same_new h7).trans (same_new h8)
          refine ⟨_, rfl, _, _, _, _, rfl, rfl, SqL.of (sN _ _ hrow8), rowAt (j := 8) e8, a8, _, _, _, rfl, rfl, SqL.of upd_same, atI_nat at8, ?_⟩
          refine rest _ _ ⟨sN, sy0, rfl, fun _ => sy8, fun z => ?_⟩
          rw [yy] at z
          exact absurd z (by decide +kernel)
        · exact rest _ _ ⟨same8, nil0, rfl, fun z => (z.elim (fun z => y (decide_eq_true z)) fun z => y2 (decide_eq_true z)).elim, fun _ => rfl⟩
    rintro σ H9 ⟨s9, sy, rfl, sySym, syNo⟩
    have hrow9 := s9 _ _ hrow8
    have hkq9 := s9 _ _ hkq8
    have sF : Same H H9 := (sE.trans s8).trans s9
    refine ⟨⟨_, rfl⟩, ?_⟩
    refine ⟨_, rfl, 10, rfl, _, rfl, p, _, _, _, rfl, rfl, SqL.of hrow9, rowAt (j := 9) e9, _, _, rfl, rfl, _, rfl, p, _, rfl, SqL.of hrow9, fun u hu => ?_⟩
    have cutE : cutV (row.map V.int) (some 10) (some (10 + (d9 : Int))) = ((row.drop 10).take d9).map V.int := by
      have z := cut_in (row := row) (a := 10) (b := 10 + d9) (by omega) (by omega)
      rw [show 10 + d9 - 10 = d9 by omega] at z
      rw [← z] <;> rfl
    rw [cutE]
    generalize hp : (row.drop 10).take d9 = part
    have lp : part.length = d9 := by
      rw [← hp, List.length_take, List.length_drop]
      omega
    have partAt : ∀ {j : Nat} {v : V}, (part.map V.int)[j]? = some v → ∃ d : Nat, v = .int (d : Int) ∧ d < 26 := fun {j v} e => by
      have lt : j < part.length := by
        have z := (List.getElem?_eq_some_iff.mp e).1
        rwa [List.length_map] at z
      have all : ∀ j, j < 3 → ruleSizes[10 + j]? = some 26 := by decide
      obtain ⟨d, e1, b⟩ := dig (10 + j) 26 (all j (by omega))
      have e2 : part[j]? = some (d : Int) := by rw [← hp, List.getElem?_take_of_lt (by omega), List.getElem?_drop, e1]
      rw [List.getElem?_map, e2] at e
      exact ⟨d, (Option.some.inj e).symm, by omega⟩
    refine ⟨u, rfl, ⟨_, SqL.of upd_same⟩, fun D hD => lc_list (K := K) (a := u) (xs := part.map V.int) (fun j H' => Same (upd H9 u (.lst (part.map V.int))) H' ∧ ∃ cs : List Nat, H' D = some (.lst ((cs.map sgn1).map V.str)) ∧ cs.length = j ∧ ∀ c ∈ cs, lowC c = true)
      ⟨same_new hD, [], upd_same, rfl, fun c m => absurd m List.not_mem_nil⟩ (fun j H' _ h => SqL.of (h.1 _ _ upd_same)) ?_ ?_⟩
    · rintro j y H10 hj ⟨s10, cs, hD1, lc, ok⟩
      obtain ⟨d, rfl, b⟩ := partAt hj
      have lt : j < part.length := by
        have z := (List.getElem?_eq_some_iff.mp hj).1
        rwa [List.length_map] at z
      refine ⟨rfl, ?_⟩
      refine ⟨_, rfl, abc26, _, 97 + d, rfl, rfl, by decide +kernel, atI_nat (abc26_at b), _, hD1, ?_, same_mut s10 hD, cs ++ [97 + d], ?_, ?_, ?_⟩
      · rw [List.length_map, List.length_map]
        exact Nat.lt_of_le_of_lt (show cs.length ≤ 8 by omega) (by decide)
      · rw [upd_same, List.map_append, List.map_append] <;> rfl
      · rw [List.length_append, lc] <;> rfl
      · intro c m
        rcases List.mem_append.mp m with m | m
        · exact ok c m
        · rw [List.mem_singleton.mp m]
          unfold lowC
          rw [decide_eq_true (by omega), decide_eq_true (by omega)] <;> rfl
    rintro H10 ⟨s10, cs, hD1, lc, ok⟩
    rw [List.length_map, lp] at lc
    refine ⟨_, D, _, rfl, rfl, .inl (SqL.of hD1), signs_short (by omega), ?_⟩
    have s910 : Same H9 H10 := (same_new hu).trans s10
    have hrow10 := s910 _ _ hrow9
    have hkq10 := s910 _ _ hkq9
    rw [join_signs]
    have st5 : 0 ≤ (d5 : Int) % n ∧ (d5 : Int) % n ≤ n - 1 := ⟨Int.emod_nonneg _ (by omega), by have := Int.emod_lt_of_pos (d5 : Int) (show 0 < n by omega); omega⟩
    refine ⟨_, rfl, _, rfl, _, _, _, _, rfl, rfl, SqL.of hrow10, rowAt (j := 5) e5, .inl ⟨_, rfl, _, rfl, _, _, rfl, rfl, by omega, _, rfl, _, rfl, _, rfl, _, rfl, show 5 ≤ sizeLine by decide, fun t ht => ?_⟩⟩
    have kt : kq ≠ t := fun e => by rw [← e, hkq10] at ht; cases ht
    refine ⟨kq, t, [.int st, .str sg, .str tp], _, rfl, rfl, .inl (.inl (by rw [upd_ne kt]; exact hkq10)), .inl (.inl upd_same), (fun z => nomatch z), show 3 + 5 ≤ sizeLine by decide, (fun z => nomatch z), fun _ q hq => ?_⟩
    refine k q ⟨st, sg, tp, (d5 : Int) % n, mv, de, sy, ⟨cs.toArray⟩⟩ _ ⟨st7, sg7, tp7, st5, mvOk, ⟨deOne, deLow, sySym, syNo⟩, ?_, ?_⟩ upd_same (((sF.trans s910).trans (same_new ht)).trans (same_new hq))
    · exact List.all_eq_true.mpr ok
    · show cs.length ≤ 3
      omega
end
end Mk

set_option Elab.async false
set_option maxRecDepth 100000
set_option maxHeartbeats 4000000
namespace Mk
open PySem L2 Pk
section
variable {P : Program} {w : World} {K : PySem.W.Frag} {mg : PySem.Str → Option Value} {base : Heap}
theorem Drawn.upd {H : Hp} {l : PySem.Str} {n : Int} {B : Kept} {q : Addr} {xs ys : List V} (h : Drawn H l n B) (hq : H q = some (.lst xs)) : Drawn (L2.upd H q (.lst ys)) l n B :=
  ⟨fun p m => by rw [upd_ne (ne_of (h.at_ p m) hq (fun z => nomatch z))]; exact h.at_ p m, h.ok, h.few⟩
theorem Drawn.mono {H H' : Hp} {l : PySem.Str} {n : Int} {B : Kept} (h : Drawn H l n B) (s : Same H H') : Drawn H' l n B := ⟨h.at_.mono s, h.ok, h.few⟩
def spLRules (K : PySem.W.Frag) : Sp := fun vs H Q _ => ∃ (sc : Addr) (ns : List Int) (at_ many : Nat) (l : PySem.Str) (n : Int) (pp : Addr) (xs : List PySem.Str), vs = [.ref sc, .int (at_ : Int), .int (many : Int), .str l, .int n, .ref pp] ∧ SqL K H sc (ns.map V.int) ∧ many ≤ 45 ∧
  Alpha l ∧ 1 ≤ n ∧ n ≤ 2000 ∧ H pp = some (.lst (xs.map V.str)) ∧ xs.length = 5 ∧ (∀ x ∈ xs, symB x = true) ∧
  ∀ (p : Addr) (B : Kept) (H' : Hp), B.length = many → Drawn H' l n B → Same H H' → H p = none → H' p = some (.lst (refsK B)) → Q (.ref p) H'
abbrev nLRules : List PySem.Str := ["script", "at", "many", "letters", "states", "pool", "rules", "k"]
theorem scLRules : FnScope nLRules ["script", "at", "many", "letters", "states", "pool"] (defScope sLRules) := ⟨rfl, rfl, rfl, by decide +kernel, rfl, by decide +kernel, by decide +kernel⟩
theorem ok_lrules {f : Addr} {fd : FuncData} (F : Fun K "_law_rules" "_law_rules" sLRules f fd) (T : TM mg) (GC : Got P w K mg base "_law_cell" 1 ["script", "k"] (spCellA K)) (GR : Got P w K mg base "_law_rule" 2 ["cell", "letters", "states", "pool", "before"] spLRule) :
    FnOk P w K mg base CX0 3 f fd ["script", "at", "many", "letters", "states", "pool"] (spLRules K) := by
  refine F.ok scLRules (fun vs H Q E h => ?_) (fun cdv A outer s H vs Q E hr h => ?_)
  · obtain ⟨sc, ns, at_, many, l, n, pp, xs, rfl, _⟩ := h
    rfl
  · obtain ⟨sc, ns, at_, many, l, n, pp, xs, rfl, hS, few, al, n1, n2, hpool, lx, okx, k⟩ := h
    have h1 := hr.mono (show 1 ≤ 2 by decide)
    refine ⟨_, pss_cons (ps_set (i := 6) scLRules.nd rfl (Or.inl rfl) (pe_lst pa_nil))
      (pss_cons (ps_for PassesOwn.never rfl (pi_range1 (by rfl) T.range (pa_cons (pv 2) pa_nil)) (pg_name (i := 7) scLRules.nd rfl (Or.inl rfl))
        (pss_one (ps_expr (pe_bm PySem.F.plainAttrs_list PySem.F.slot_list_append PySem.F.type_list_append mt_append (pv 6) (pa_cons (pe_got GR hr (by rfl) (pa_cons (pe_got GC h1 (by rfl) (pa_cons (pv 0) (pa_cons (pe_op op_add (pv 1) (pv 7)) pa_nil)))
          (pa_cons (pv 3) (pa_cons (pv 4) (pa_cons (pv 5) (pa_cons (pv 6) pa_nil)))))) pa_nil)))))
      (pss_one (ps_ret (pv 6)))), ?_⟩
    refine ⟨Nat.zero_le _, fun q hq => ?_⟩
    refine ⟨_, rfl, (many : Int), rfl, by omega, by omega, for_range (lo := 0) (n := ((many : Int)).toNat) (fun i σ H' => Same H H' ∧ ∃ (v : Option V) (B : Kept), σ = [some (.ref sc), some (.int (at_ : Int)), some (.int (many : Int)), some (.str l), some (.int n), some (.ref pp), some (.ref q), v] ∧ H' q = some (.lst (refsK B)) ∧ B.length = i ∧ Drawn H' l n B)
      ⟨same_new hq, none, [], rfl, upd_same, rfl, ⟨fun p m => absurd m List.not_mem_nil, fun p m => absurd m List.not_mem_nil, Nat.zero_le _⟩⟩ ?_ ?_⟩
    · rintro i σ H2 hi ⟨s2, v, B, rfl, hq2, lB, dB⟩
      have hi' : i < many := by omega
      refine ⟨_, rfl, .inl ⟨rfl, _, SqL.of hq2⟩, _, rfl, _, rfl, _, rfl, _, _, rfl, rfl, sc, ns, at_ + i, ?_, s2.seq hS, fun z => ?_⟩
      · show [V.ref sc, V.int ((at_ : Int) + (0 + (i : Int)))] = _
        rw [show (at_ : Int) + (0 + (i : Int)) = ((at_ + i : Nat) : Int) by omega]
      · refine ⟨_, rfl, _, rfl, _, rfl, _, rfl, z, l, n, pp, q, xs, B, rfl, al, n1, n2, s2 _ _ hpool, lx, okx, hq2, dB, fun t r H3 rok ht s3 => ?_⟩
        refine ⟨q, _, _, rfl, rfl, s3 _ _ hq2, ?_, same_mut (s2.trans s3) hq, _, B ++ [(t, r)], rfl, ?_, ?_, ?_⟩
        · unfold refsK
          rw [List.length_map]
          exact Nat.lt_of_le_of_lt (show B.length ≤ 50 by omega) (by decide)
        · rw [upd_same]
          unfold refsK
          rw [List.map_append] <;> rfl
        · rw [List.length_append, lB] <;> rfl
        · have d3 := (dB.mono s3).upd (ys := refsK B ++ [V.ref t]) (s3 _ _ hq2)
          refine ⟨fun p m => ?_, fun p m => ?_, ?_⟩
          · rcases List.mem_append.mp m with m | m
            · exact d3.at_ p m
            · rw [List.mem_singleton.mp m]
              rw [upd_ne (ne_of ht (s3 _ _ hq2) (fun z => nomatch z))]
              exact ht
          · rcases List.mem_append.mp m with m | m
            · exact d3.ok p m
            · rw [List.mem_singleton.mp m]; exact rok
          · rw [List.length_append, lB]
            show i + 1 ≤ 50
            omega
    · rintro σ H2 ⟨s2, v, B, rfl, hq2, lB, dB⟩
      exact ⟨_, rfl, k q B H2 (by omega) dB s2 hq hq2⟩
end
end Mk

set_option Elab.async false
set_option maxRecDepth 100000
set_option maxHeartbeats 4000000
namespace Mk
open PySem L2 Pk
section
variable {P : Program} {w : World} {K : PySem.W.Frag} {mg : PySem.Str → Option Value} {base : Heap}
/-! _law_yes -/
def spYes : Sp := fun vs H Q _ => ∃ c n : Int, vs = [.int c, .int n] ∧ 1 ≤ n ∧ n ≤ 2000 ∧ ∀ (p : Addr) (ys : List Int) (H' : Hp), (∀ y ∈ ys, 0 ≤ y ∧ y ≤ n - 1) → ys.length ≤ 2000 → Same H H' → H p = none → H' p = some (.lst (ys.map V.int)) → Q (.ref p) H'
abbrev nYes : List PySem.Str := ["cell", "states", "row", "k", "digit"]
theorem scYes : FnScope nYes ["cell", "states"] (defScope sYes) := ⟨rfl, rfl, rfl, by decide +kernel, rfl, by decide +kernel, by decide +kernel⟩
abbrev yesSizes : List Int := [8, 9, 5] ++ List.replicate 8 2000
theorem ok_yes {f : Addr} {fd : FuncData} (F : Fun K "_law_yes" "_law_yes" sYes f fd) (T : TM mg) (G : Got P w K mg base "_law_digits" 1 ["cell", "sizes"] (spDigits K)) : FnOk P w K mg base CX0 2 f fd ["cell", "states"] spYes := by
  refine F.ok scYes (fun vs H Q E h => ?_) (fun cdv A outer s H vs Q E hr h => ?_)
  · obtain ⟨c, n, rfl, _⟩ := h
    rfl
  · obtain ⟨c, n, rfl, n1, n2, k⟩ := h
    refine ⟨_, pss_cons (ps_set (i := 2) scYes.nd rfl (Or.inr rfl) (pe_got G hr (by rfl) (pa_cons (pv 0) (pa_cons (pe_op op_cat (pe_lst (pa_cons pe_int (pa_cons pe_int (pa_cons pe_int pa_nil)))) (pe_op op_rep (pe_lst (pa_cons pe_int pa_nil)) pe_int)) pa_nil))))
      (pss_cons (ps_if (pt_cmpR op_eq (pe_ix ix_list (pv 2) pe_int fun _ _ => rfl) pe_int (nomark _)) (pss_one (ps_ret (pe_lc (own := [("k", 3)]) (g := gName 3) (by rfl) scYes.nd (pi_range1 (by rfl) T.range (pa_cons (pv 1) pa_nil))
          (blkOk_by (own := [("k", 3)]) (N := nYes) (sc := defScope sYes) (by decide +kernel)) (fun _ _ _ _ _ => pg_name (i := 3) scYes.nd rfl (Or.inl rfl))
          (fun _ _ _ _ _ => pts_one (pt_cmpR op_eq (pe_op op_mod (pe_callTy call_int1 (by rfl) T.int PyProof.Rows.Boot.int (pa_cons (pv 3) pa_nil)) (pe_op op_add pe_int (pe_ix (r := rIxL K) ix_list (pv 2) pe_int fun _ _ => rfl))) pe_int (nomark _)))
          (fun _ _ _ _ _ => pe_op op_sub (pe_op op_sub (pv 1) pe_int) (pv 3))))) pss_nil)
      (pss_one (ps_ret (pe_lc (own := [("digit", 4)]) (g := gName 4) (tt := tYes) (by rfl) scYes.nd (pi_list (pe_slice sl_list (pv 2) (po_some pe_int) (po_some (pe_op op_add pe_int (pe_ix ix_list (pv 2) pe_int fun _ _ => rfl)))))
          (blkOk_by (own := [("digit", 4)]) (N := nYes) (sc := defScope sYes) (by decide +kernel)) (fun _ _ _ _ _ => pg_name (i := 4) scYes.nd rfl (Or.inl rfl)) (fun _ _ _ _ _ => pts_nil)
          (fun _ _ _ _ _ => pe_op op_mod (pe_callTy call_int1 (by rfl) T.int PyProof.Rows.Boot.int (pa_cons (pv 4) pa_nil)) (pv 1)))))), ?_⟩
    refine ⟨_, rfl, by decide, fun l1 hl1 => ?_⟩
    refine ⟨by decide, fun l2 hl2 => ?_⟩
    refine ⟨l2, 8, _, rfl, rfl, upd_same, by decide, by decide, by decide, fun l3 hl3 => ?_⟩
    refine ⟨l1, l3, _, _, rfl, rfl, same_new hl3 _ _ (same_new hl2 _ _ upd_same), upd_same, by decide, fun l4 hl4 => ?_⟩
    refine ⟨c, l4, yesSizes, rfl, SqL.of upd_same, by decide, by decide, fun row p H1 dg hp s1 hrow => ?_⟩
    have sA : Same H H1 := ((((same_new hl1).trans (same_new hl2)).trans (same_new hl3)).trans (same_new hl4)).trans s1
    clear s1 hl1 hl2 hl3 hl4 hp
    have len11 : row.length = 11 := dg.1
    have dig : ∀ (j : Nat) (t : Int), yesSizes[j]? = some t → ∃ d : Nat, row[j]? = some (d : Int) ∧ (d : Int) < t := fun j t e => by
      obtain ⟨d, e1, e2, e3⟩ := dg.2 j t e
      exact ⟨d.toNat, by rw [e1, Int.toNat_of_nonneg e2], by rw [Int.toNat_of_nonneg e2]; exact e3⟩
    have rowAt : ∀ {j : Nat} {d : Nat}, row[j]? = some (d : Int) → atI (row.map V.int) (j : Int) = some (V.int d) := fun {j d} e => atI_nat (by rw [List.getElem?_map, e]; rfl)
    obtain ⟨d0, e0, b0⟩ := dig 0 8 rfl
    obtain ⟨d1, e1, b1⟩ := dig 1 9 rfl
    obtain ⟨d2, e2, b2⟩ := dig 2 5 rfl
    refine ⟨_, rfl, _, _, _, _, rfl, rfl, SqL.of hrow, rowAt (j := 0) e0, rfl, _, rfl, ?_⟩
    -- what a comprehension has filled
    let Fill : Addr → Nat → Hp → Hp → Prop := fun D i H0 H' => Same H0 H' ∧ ∃ ys : List Int, H' D = some (.lst (ys.map V.int)) ∧ ys.length ≤ i ∧ ∀ y ∈ ys, 0 ≤ y ∧ y ≤ n - 1
    have fill : ∀ {D : Addr} {i : Nat} {H0 H' : Hp} {y : Int}, Fill D i H0 H' → H0 D = none → i < 2000 → 0 ≤ y ∧ y ≤ n - 1 → ∃ acc, H' D = some (.lst acc) ∧ acc.length < sizeLine ∧ Fill D (i + 1) H0 (upd H' D (.lst (acc ++ [V.int y]))) := by
      rintro D i H0 H' y ⟨s0, ys, hD, lys, ok⟩ nD lt oky
      refine ⟨_, hD, ?_, same_mut s0 nD, ys ++ [y], ?_, ?_, fun z m => ?_⟩
      · rw [List.length_map]
        exact Nat.lt_of_le_of_lt (show ys.length ≤ 2000 by omega) (by decide)
      · rw [upd_same, List.map_append] <;> rfl
      · rw [List.length_append]
        show ys.length + 1 ≤ i + 1
        omega
      · rcases List.mem_append.mp m with m | m
        · exact ok z m
        · rw [List.mem_singleton.mp m]; exact oky
    refine ite2 (fun _ => ?_) (fun _ => ?_)
    · refine ⟨_, rfl, n, rfl, by omega, by omega, fun D hD => lc_range (lo := 0) (n := n.toNat) (fun i H' => Fill D i H1 H') ⟨same_new hD, [], upd_same, Nat.zero_le _, fun y m => absurd m List.not_mem_nil⟩ ?_ ?_⟩
      · rintro i H2 hi h2
        refine ⟨rfl, ?_⟩
        refine ⟨_, rfl, .inl ⟨_, rfl, _, rfl, _, _, _, _, rfl, rfl, SqL.of (h2.1 _ _ hrow), rowAt (j := 2) e2, _, _, rfl, rfl, _, _, rfl, rfl, by omega, rfl, _, rfl, ?_⟩⟩
        refine ite2 (fun _ => ?_) (fun _ => ?_)
        · refine ⟨_, rfl, _, _, rfl, rfl, _, rfl, _, _, rfl, rfl, ?_⟩
          exact fill h2 hD (by omega) (by omega)
        · obtain ⟨a, ys, b, c, d⟩ := h2
          exact ⟨a, ys, b, by omega, d⟩
      · rintro H2 ⟨s2, ys, hD2, lys, ok⟩
        exact k D ys H2 ok (by omega) (sA.trans s2) (sA.free hD) hD2
    · refine ⟨_, rfl, 3, rfl, _, rfl, p, _, _, _, rfl, rfl, SqL.of hrow, rowAt (j := 1) e1, _, _, rfl, rfl, _, rfl, p, _, rfl, SqL.of hrow, fun u hu => ?_⟩
      have cutE : cutV (row.map V.int) (some 3) (some (3 + (d1 : Int))) = ((row.drop 3).take d1).map V.int := by
        have z := cut_in (row := row) (a := 3) (b := 3 + d1) (by omega) (by omega)
        rw [show 3 + d1 - 3 = d1 by omega] at z
        rw [← z] <;> rfl
      rw [cutE]
      generalize hp : (row.drop 3).take d1 = part
      have lp : part.length ≤ d1 := by
        rw [← hp, List.length_take]
        omega
      refine ⟨u, rfl, ⟨_, SqL.of upd_same⟩, fun D hD => lc_list (K := K) (a := u) (xs := part.map V.int) (fun j H' => Fill D j (upd H1 u (.lst (part.map V.int))) H') ⟨same_new hD, [], upd_same, Nat.zero_le _, fun y m => absurd m List.not_mem_nil⟩ (fun j H' _ h => SqL.of (h.1 _ _ upd_same)) ?_ ?_⟩
      · rintro j y H2 hj h2
        obtain ⟨z, ez, rfl⟩ := mapInt hj
        have lt := (List.getElem?_eq_some_iff.mp ez).1
        refine ⟨rfl, ?_⟩
        refine ⟨_, rfl, .inl ⟨_, rfl, _, rfl, _, _, rfl, rfl, by omega, ?_⟩⟩
        exact fill h2 hD (by omega) ⟨Int.emod_nonneg _ (by omega), by have := Int.emod_lt_of_pos z (show 0 < n by omega); omega⟩
      · rintro H2 ⟨s2, ys, hD2, lys, ok⟩
        rw [List.length_map] at lys
        have sU : Same H1 H2 := (same_new hu).trans s2
        have dH : H1 D = none := (same_new hu).free hD
        exact k D ys H2 ok (by omega) (sA.trans sU) (sA.free dH) hD2
end
end Mk

set_option Elab.async false
set_option maxRecDepth 500000
set_option maxHeartbeats 4000000
namespace Mk
open PySem L2 Pk
section
variable {P : Program} {w : World} {K : PySem.W.Frag} {mg : PySem.Str → Option Value} {base : Heap}
/-! _law_each_once -/
abbrev nOnce : List PySem.Str := ["values", "seen", "value"]
theorem scOnce : FnScope nOnce ["values"] (defScope sOnce) := ⟨rfl, rfl, rfl, by decide +kernel, rfl, by decide +kernel, by decide +kernel⟩
def spOnceI (K : PySem.W.Frag) : Sp := fun vs H Q _ => ∃ (a : Addr) (ys : List Int), vs = [.ref a] ∧ SqL K H a (ys.map V.int) ∧ ys.length ≤ 50000 ∧ ∀ (p : Addr) (H' : Hp), Same H H' → H p = none → H' p = some (.lst ((intsOf ys).map V.int)) → Q (.ref p) H'
def spOnceS (K : PySem.W.Frag) : Sp := fun vs H Q _ => ∃ (a : Addr) (xs : List PySem.Str), vs = [.ref a] ∧ SqL K H a (xs.map V.str) ∧ xs.length ≤ 50000 ∧ ∀ (p : Addr) (H' : Hp), Same H H' → H p = none → H' p = some (.lst ((Sx.asc Sx.ltText xs).map V.str)) → Q (.ref p) H'
def spOnceT (K : PySem.W.Frag) : Sp := fun vs H Q _ => ∃ (a : Addr) (B : Kept), vs = [.ref a] ∧ SqL K H a (refsK B) ∧ KeptAt H B ∧ B.length ≤ 50000 ∧ ∀ (p : Addr) (R : Kept) (H' : Hp), R.map (·.2) = rulesOf (B.map (·.2)) → KeptAt H' R → Same H H' → H p = none → H' p = some (.lst (refsK R)) → Q (.ref p) H'
abbrev kI (x : Int) : Key := Sum.inl x
theorem kI_inj (x y : Int) (e : kI x = kI y) : x = y := Sum.inl.inj e
theorem lt10k {n : Nat} (h : n ≤ 50000) : n < sizeLine := Nat.lt_of_le_of_lt h (by decide)
theorem once_some {α : Type} [DecidableEq α] (l : List α) (i : Nat) : (Sx.once (l.take i)).length ≤ l.length := by
  refine Nat.le_trans (Sx.once_len _) ?_
  rw [List.length_take]
  exact Nat.min_le_right _ _
theorem ok_onceI {f : Addr} {fd : FuncData} (F : Fun K "_law_each_once" "_law_each_once" sOnce f fd) (T : TM mg) : FnOk P w K mg base CX0 1 f fd ["values"] (spOnceI K) := by
  refine F.ok scOnce (fun vs H Q E h => ?_) (fun cdv A outer s H vs Q E hr h => ?_)
  · obtain ⟨a, ys, rfl, _⟩ := h
    rfl
  · obtain ⟨a, ys, rfl, hS, few, k⟩ := h
    have hu := hu_of hr
    refine ⟨_, pss_cons (ps_set (i := 1) scOnce.nd rfl (Or.inl rfl) pe_dnewK)
      (pss_cons (ps_for PassesOwn.never rfl (pi_list (pv 0)) (pg_name (i := 2) scOnce.nd rfl (Or.inl rfl)) (pss_one (ps_dput hu (pv 1) (pv 2) pe_bl rfl)))
      (pss_one (ps_ret (pe_callB cr_sortedI (by rfl) T.sorted (by decide +kernel) (pa_cons (pe_callTy (call_listD rfl) (by rfl) T.list PyProof.Rows.Boot.list (pa_cons (pv 1) pa_nil)) pa_nil))))), ?_⟩
    intro D hD
    refine ⟨_, rfl, a, rfl, ⟨_, (same_new hD).seq hS⟩, for_list (K := K) (a := a) (xs := ys.map V.int) (fun i σ H' => Same H H' ∧ ∃ (v : Option V) (kvs : List (Key × V)), σ = [some (.ref a), some (.ref D), v] ∧ H' D = some (.dK kvs) ∧ kvs.map (·.1) = (Sx.once (ys.take i)).map kI)
      ⟨same_new hD, none, [], rfl, upd_same, rfl⟩ (fun i σ H' _ h => h.1.seq hS) ?_ ?_⟩
    · rintro i x σ H2 hi ⟨s2, v, kvs, rfl, hD2, hk⟩
      obtain ⟨y, ey, rfl⟩ := mapInt hi
      have lk : kvs.length ≤ 50000 := by
        have z := congrArg List.length hk
        rw [List.length_map, List.length_map] at z
        have := once_some ys i
        omega
      refine ⟨_, rfl, _, rfl, D, _, rfl, DPut.k (k := kI y) hD2 (lt10k lk), same_mut s2 hD, _, _, rfl, upd_same, ?_⟩
      rw [put_keys, hk, add_map kI_inj, ← once_add, take_at ey]
    · rintro σ H2 ⟨s2, v, kvs, rfl, hD2, hk⟩
      rw [List.length_map, List.take_of_length_le (Nat.le_refl _)] at hk
      refine ⟨_, rfl, D, kvs, rfl, .inl hD2, fun p hp => ?_⟩
      have e : (kvs.map fun kv => kV kv.1) = (Sx.once ys).map V.int := by
        have z := congrArg (List.map kV) hk
        rw [List.map_map, List.map_map] at z
        exact z
      rw [e]
      refine ⟨p, Sx.once ys, rfl, SqL.of upd_same, fun ns q pm up hq => ?_⟩
      have es : ns = intsOf ys := lin_int.is_srt (up.imp fun {x y} le => decide_eq_false (by omega)) pm
      rw [es]
      exact k q _ ((s2.trans (same_new hp)).trans (same_new hq)) ((s2.trans (same_new hp)).free hq) upd_same
theorem ok_onceS {f : Addr} {fd : FuncData} (F : Fun K "_law_each_once" "_law_each_once" sOnce f fd) (T : TM mg) : FnOk P w K mg base CX0 1 f fd ["values"] (spOnceS K) := by
  refine F.ok scOnce (fun vs H Q E h => ?_) (fun cdv A outer s H vs Q E hr h => ?_)
  · obtain ⟨a, ys, rfl, _⟩ := h
    rfl
  · obtain ⟨a, ys, rfl, hS, few, k⟩ := h
    have hu := hu_of hr
    refine ⟨_, pss_cons (ps_set (i := 1) scOnce.nd rfl (Or.inl rfl) pe_dnewK)
      (pss_cons (ps_for PassesOwn.never rfl (pi_list (pv 0)) (pg_name (i := 2) scOnce.nd rfl (Or.inl rfl)) (pss_one (ps_dput hu (pv 1) (pv 2) pe_bl rfl)))
      (pss_one (ps_ret (pe_callB Sx.cr_sortS (by rfl) T.sorted (by decide +kernel) (pa_cons (pe_callTy (call_listD rfl) (by rfl) T.list PyProof.Rows.Boot.list (pa_cons (pv 1) pa_nil)) pa_nil))))), ?_⟩
    intro D hD
    refine ⟨_, rfl, a, rfl, ⟨_, (same_new hD).seq hS⟩, for_list (K := K) (a := a) (xs := ys.map V.str) (fun i σ H' => Same H H' ∧ ∃ (v : Option V) (kvs : List (Key × V)), σ = [some (.ref a), some (.ref D), v] ∧ H' D = some (.dK kvs) ∧ kvs.map (·.1) = (Sx.once (ys.take i)).map kT)
      ⟨same_new hD, none, [], rfl, upd_same, rfl⟩ (fun i σ H' _ h => h.1.seq hS) ?_ ?_⟩
    · rintro i x σ H2 hi ⟨s2, v, kvs, rfl, hD2, hk⟩
      rw [List.getElem?_map] at hi
      obtain ⟨y, ey, rfl⟩ := Option.map_eq_some_iff.mp hi
      have lk : kvs.length ≤ 50000 := by
        have z := congrArg List.length hk
        rw [List.length_map, List.length_map] at z
        have := once_some ys i
        omega
      refine ⟨_, rfl, _, rfl, D, _, rfl, DPut.k (k := kT y) hD2 (lt10k lk), same_mut s2 hD, _, _, rfl, upd_same, ?_⟩
      rw [put_keys, hk, add_map kT_inj, ← once_add, take_at ey]
    · rintro σ H2 ⟨s2, v, kvs, rfl, hD2, hk⟩
      rw [List.length_map, List.take_of_length_le (Nat.le_refl _)] at hk
      refine ⟨_, rfl, D, kvs, rfl, .inl hD2, fun p hp => ?_⟩
      have e : (kvs.map fun kv => kV kv.1) = (Sx.once ys).map V.str := by
        have z := congrArg (List.map kV) hk
        rw [List.map_map, List.map_map] at z
        exact z
      rw [e]
      refine ⟨p, Sx.once ys, rfl, SqL.of upd_same, fun q hq => ?_⟩
      exact k q _ ((s2.trans (same_new hp)).trans (same_new hq)) ((s2.trans (same_new hp)).free hq) upd_same
end
end Mk

set_option Elab.async false
set_option maxRecDepth 500000
set_option maxHeartbeats 4000000
namespace Mk
open PySem L2 Pk
theorem rows_of_keys {H : Hp} : ∀ {kvs : List (List Key × V)} {bs : List Addr}, IsKeys H kvs bs → ∃ R : Sx.Rows, bs.map V.ref = Sx.refsOf R ∧ Sx.TupsIn H R ∧ R.map (·.2) = kvs.map (·.1)
  | _, _, .nil => ⟨[], rfl, fun p m => absurd m List.not_mem_nil, rfl⟩
  | p :: _, b :: _, .cons h t => by
    obtain ⟨R, e1, e2, e3⟩ := rows_of_keys t
    refine ⟨(b, p.1) :: R, by rw [List.map_cons, e1] <;> rfl, fun q m => ?_, by rw [List.map_cons, List.map_cons, e3]⟩
    rcases List.mem_cons.mp m with e | m
    · rw [e]; exact h
    · exact e2 q m
/-- rising rows of rules are the kept rules -/
theorem kept_of {H : Hp} {L2 : Sx.Rows} {rs : List Rl} (tl : Sx.TupsIn H L2) (keys : L2.map (·.2) = (rulesOf rs).map Rl.key) : ∃ R : Kept, refsK R = Sx.refsOf L2 ∧ R.map (·.2) = rulesOf rs ∧ KeptAt H R := by
  have key2 : ∀ p ∈ L2, (unkey p.2).key = p.2 := fun p mp => by
    have z : p.2 ∈ (rulesOf rs).map Rl.key := by rw [← keys]; exact List.mem_map.mpr ⟨p, mp, rfl⟩
    obtain ⟨r, _, e⟩ := List.mem_map.mp z
    rw [← e, unkey_key]
  refine ⟨L2.map fun p => (p.1, unkey p.2), ?_, ?_, fun p mp => ?_⟩
  · show (L2.map _).map _ = L2.map _
    rw [List.map_map] <;> rfl
  · have z := congrArg (List.map unkey) keys
    rw [List.map_map, List.map_map] at z
    have e1 : (unkey ∘ Rl.key) = id := by funext r; rfl
    rw [e1, List.map_id] at z
    rw [List.map_map]
    exact z
  · obtain ⟨p0, m0, rfl⟩ := List.mem_map.mp mp
    have z := tl p0 m0
    show H p0.1 = some (HO.tup ((unkey p0.2).vs))
    rw [← key_vs, key2 p0 m0]
    exact z
section
variable {P : Program} {w : World} {K : PySem.W.Frag} {mg : PySem.Str → Option Value} {base : Heap}
theorem ok_onceT {f : Addr} {fd : FuncData} (F : Fun K "_law_each_once" "_law_each_once" sOnce f fd) (T : TM mg) : FnOk P w K mg base CX0 1 f fd ["values"] (spOnceT K) := by
  refine F.ok scOnce (fun vs H Q E h => ?_) (fun cdv A outer s H vs Q E hr h => ?_)
  · obtain ⟨a, ys, rfl, _⟩ := h
    rfl
  · obtain ⟨a, B, rfl, hS, hK, few, k⟩ := h
    have hu := hu_of hr
    refine ⟨_, pss_cons (ps_set (i := 1) scOnce.nd rfl (Or.inl rfl) pe_dnewT)
      (pss_cons (ps_for PassesOwn.never rfl (pi_list (pv 0)) (pg_name (i := 2) scOnce.nd rfl (Or.inl rfl)) (pss_one (ps_dput hu (pv 1) (pv 2) pe_bl rfl)))
      (pss_one (ps_ret (pe_callB Sx.cr_sortM (by rfl) T.sorted (by decide +kernel) (pa_cons (pe_callTy (call_list_dT rfl) (by rfl) T.list PyProof.Rows.Boot.list (pa_cons (pv 1) pa_nil)) pa_nil))))), ?_⟩
    intro D hD
    have lB : (refsK B).length = B.length := List.length_map ..
    refine ⟨_, rfl, a, rfl, ⟨_, (same_new hD).seq hS⟩, for_list (K := K) (a := a) (xs := refsK B) (fun i σ H' => Same H H' ∧ ∃ (v : Option V) (kvs : List (List Key × V)), σ = [some (.ref a), some (.ref D), v] ∧ H' D = some (.dT kvs) ∧ kvs.map (·.1) = Sx.once ((B.take i).map fun p => p.2.key))
      ⟨same_new hD, none, [], rfl, upd_same, rfl⟩ (fun i σ H' _ h => h.1.seq hS) ?_ ?_⟩
    · rintro i x σ H2 hi ⟨s2, v, kvs, rfl, hD2, hk⟩
      obtain ⟨p, ep, rfl⟩ := at_refs hi
      have m := List.mem_of_getElem? ep
      have lk : kvs.length ≤ 50000 := by
        have z := congrArg List.length hk
        rw [List.length_map] at z
        have y := Sx.once_len ((B.take i).map fun p => p.2.key)
        rw [List.length_map, List.length_take] at y
        omega
      refine ⟨_, rfl, _, rfl, D, _, rfl, DPut.t (k := p.2.key) hD2 (s2 _ _ (hK p m)) (lt10k lk), same_mut s2 hD, _, _, rfl, upd_same, ?_⟩
      rw [put_keys, hk, take_at ep, List.map_append]
      exact (once_add _ _).symm
    · rintro σ H2 ⟨s2, v, kvs, rfl, hD2, hk⟩
      rw [lB, List.take_of_length_le (Nat.le_refl _)] at hk
      refine ⟨_, rfl, D, kvs, rfl, .inl hD2, fun p bs hp hb => ?_⟩
      obtain ⟨R, e1, tR, e3⟩ := rows_of_keys hb
      rw [e1]
      have s3 : Same H2 (upd H2 p (.lst (Sx.refsOf R))) := same_new hp
      have keyOfRule : ∀ q ∈ R, ∃ r : Rl, q.2 = r.key := fun q mq => by
        have z : q.2 ∈ Sx.once (B.map fun p => p.2.key) := by rw [← hk, ← e3]; exact List.mem_map.mpr ⟨q, mq, rfl⟩
        obtain ⟨p0, _, e⟩ := List.mem_map.mp ((Sx.once_mem _ _).mp z)
        exact ⟨p0.2, e.symm⟩
      refine ⟨p, R, true, sh8, rfl, SqL.of upd_same, fun q mq => s3 _ _ (tR q mq), fun q mq => by obtain ⟨r, e⟩ := keyOfRule q mq; rw [e]; exact shp_key r, fun R2 p5 pm up hp5 => ?_⟩
      have s5 := (s2.trans s3).trans (same_new (o := .lst (Sx.refsOf R2)) hp5)
      have nd : (R.map (·.2)).Nodup := by rw [e3, hk]; exact Sx.once_nodup _
      have keys : R2.map (·.2) = (rulesOf (B.map (·.2))).map Rl.key := by
        rw [rulesOf_keys]
        refine Sx.lin_tup.is_asc ((pm.map (·.2)).nodup_iff.mpr nd) (List.pairwise_map.mpr up) fun c => ?_
        rw [(pm.map (·.2)).mem_iff, e3, hk, Sx.once_mem, List.map_map] <;> rfl
      have t5 : Sx.TupsIn (upd (upd H2 p (.lst (Sx.refsOf R))) p5 (.lst (Sx.refsOf R2))) R2 := fun q mq => (s3.trans (same_new hp5)) _ _ (tR q (pm.mem_iff.mp mq))
      obtain ⟨R3, r1, r2, r3⟩ := kept_of t5 keys
      refine k p5 R3 _ r2 r3 s5 ((s2.trans s3).free hp5) ?_
      rw [upd_same, r1]
end
end Mk

set_option maxRecDepth 100000
set_option linter.all false
/-! the law's guess and the program's -/
namespace Mk
open PySem L2 Pk Sx
def adjK {κ : Type} [DecidableEq κ] : List κ → Option κ
  | a :: b :: r => if a = b then some a else adjK (b :: r)
  | _ => none
section
variable {κ α : Type} [DecidableEq κ]
def cnt (k : κ) (l : List κ) : Nat := l.count k
theorem cnt_append (k : κ) (l m : List κ) : cnt k (l ++ m) = cnt k l + cnt k m := List.count_append ..
theorem cnt_one (k : κ) : cnt k [k] = 1 := List.count_singleton_self ..
theorem cnt_zero {k : κ} {l : List κ} (h : k ∉ l) : cnt k l = 0 := List.count_eq_zero.mpr h
theorem cnt_self (k : κ) (l : List κ) : cnt k (k :: l) = cnt k l + 1 := List.count_cons_self ..
theorem cnt_ne {a k : κ} (h : a ≠ k) (l : List κ) : cnt k (a :: l) = cnt k l := List.count_cons_of_ne h
theorem go_more : ∀ (l acc : List κ), ∃ t, onceGo acc l = acc ++ t
  | [], acc => ⟨[], by simp [onceGo]⟩
  | y :: l, acc => by
    by_cases c : y ∈ acc
    · have e : onceGo acc (y :: l) = onceGo acc l := by unfold onceGo; rw [List.foldl_cons, if_pos c]
      rw [e]
      exact go_more l acc
    · have e : onceGo acc (y :: l) = onceGo (acc ++ [y]) l := by unfold onceGo; rw [List.foldl_cons, if_neg c]
      obtain ⟨t, et⟩ := go_more l (acc ++ [y])
      exact ⟨y :: t, by rw [e, et, List.append_assoc] <;> rfl⟩
theorem go_cons {a : κ} : ∀ (l acc : List κ), a ∉ l → onceGo (a :: acc) l = a :: onceGo acc l
  | [], acc, _ => rfl
  | y :: l, acc, h => by
    have ya : y ≠ a := fun e => h (by rw [e]; exact List.mem_cons_self)
    have hl : a ∉ l := fun m => h (List.mem_cons_of_mem _ m)
    by_cases c : y ∈ acc
    · have e1 : onceGo (a :: acc) (y :: l) = onceGo (a :: acc) l := by unfold onceGo; rw [List.foldl_cons, if_pos (List.mem_cons_of_mem _ c)]
      have e2 : onceGo acc (y :: l) = onceGo acc l := by unfold onceGo; rw [List.foldl_cons, if_pos c]
      rw [e1, e2]
      exact go_cons l acc hl
    · have c2 : y ∉ a :: acc := fun m => by
        rcases List.mem_cons.mp m with e | m
        · exact ya e
        · exact c m
      have e1 : onceGo (a :: acc) (y :: l) = onceGo (a :: (acc ++ [y])) l := by unfold onceGo; rw [List.foldl_cons, if_neg c2] <;> rfl
      have e2 : onceGo acc (y :: l) = onceGo (acc ++ [y]) l := by unfold onceGo; rw [List.foldl_cons, if_neg c]
      rw [e1, e2]
      exact go_cons l (acc ++ [y]) hl
theorem once_cons (a : κ) (l : List κ) : once (a :: l) = onceGo [a] l := rfl
theorem once_cons_new {a : κ} {l : List κ} (h : a ∉ l) : once (a :: l) = a :: once l := (once_cons a l).trans (go_cons l [] h)
/-- in a rising list what comes twice comes twice at once -/
theorem find_adj {lt : κ → κ → Bool} (O : Lin lt) : ∀ ks : List κ, Up lt ks → (once ks).find? (fun k => decide (1 < cnt k ks)) = adjK ks
  | [], _ => rfl
  | [a], _ => by
    have e : once [a] = [a] := rfl
    have z : decide (1 < cnt a [a]) = false := by rw [cnt_one]; rfl
    rw [e, List.find?_cons, z] <;> rfl
  | a :: b :: r, h => by
    obtain ⟨h1, h2⟩ := List.pairwise_cons.mp h
    by_cases c : a = b
    · subst c
      obtain ⟨t, et⟩ := go_more (a :: r) [a]
      have e : once (a :: a :: r) = a :: t := (once_cons a (a :: r)).trans et
      have big : decide (1 < cnt a (a :: a :: r)) = true := decide_eq_true (by rw [cnt_self, cnt_self]; omega)
      rw [e, List.find?_cons, big]
      unfold adjK
      rw [if_pos rfl]
    · have new : a ∉ b :: r := fun m => by
        rcases List.mem_cons.mp m with e | m
        · exact c e
        · have z1 := h1 b List.mem_cons_self
          have z2 := (List.pairwise_cons.mp h2).1 a m
          exact c (O.anti z2 z1)
      have n0 : cnt a (b :: r) = 0 := cnt_zero new
      have small : decide (1 < cnt a (a :: b :: r)) = false := by
        rw [cnt_self, n0]
        rfl
      rw [once_cons_new new, List.find?_cons, small]
      unfold adjK
      rw [if_neg c, ← find_adj O (b :: r) h2]
      have cong : ∀ k ∈ once (b :: r), decide (1 < cnt k (a :: b :: r)) = decide (1 < cnt k (b :: r)) := fun k m => by
        have ka : a ≠ k := fun e => new (by rw [e]; exact (once_mem _ _).mp m)
        rw [cnt_ne ka]
      show List.find? _ _ = List.find? _ _
      revert cong
      generalize once (b :: r) = l
      intro cong
      induction l with
      | nil => rfl
      | cons x l ih =>
        have ex := cong x List.mem_cons_self
        have ih2 : List.find? (fun k => decide (1 < cnt k (a :: b :: r))) l = List.find? (fun k => decide (1 < cnt k (b :: r))) l := ih fun k m => cong k (List.mem_cons_of_mem _ m)
        show List.find? (fun k => decide (1 < cnt k (a :: b :: r))) (x :: l) = List.find? (fun k => decide (1 < cnt k (b :: r))) (x :: l)
        rw [List.find?_cons, List.find?_cons, ex, ih2]
end
theorem grps_count (rs : List Rl) : ∀ g ∈ grps rs, g.2.length = cnt g.1 (rs.map Rl.k3) := by
  have gen : ∀ (l pre : List Rl), (∀ g ∈ grps pre, g.2.length = cnt g.1 (pre.map Rl.k3)) → ∀ g ∈ grps (pre ++ l), g.2.length = cnt g.1 ((pre ++ l).map Rl.k3) := by
    intro l
    induction l with
    | nil => intro pre h; simpa using h
    | cons r l ih =>
      intro pre h
      have e : pre ++ r :: l = (pre ++ [r]) ++ l := by simp
      rw [e]
      refine ih (pre ++ [r]) ?_
      rw [grps_snoc, List.map_append]
      intro g m
      rw [cnt_append]
      unfold gAdd at m
      split at m
      · rename_i c
        obtain ⟨g0, m0, rfl⟩ := List.mem_map.mp m
        have z := h g0 m0
        split
        · rename_i eq
          rw [List.length_append, z]
          show _ + 1 = cnt g0.1 _ + cnt g0.1 [r.k3]
          rw [eq, cnt_one]
        · rename_i ne
          rw [z]
          have n : cnt g0.1 [r.k3] = 0 := cnt_zero fun m => ne (List.mem_singleton.mp m)
          rw [show (List.map Rl.k3 [r]) = [r.k3] from rfl, n] <;> rfl
      · rename_i c
        rcases List.mem_append.mp m with m | m
        · have z := h g m
          have ne : g.1 ≠ r.k3 := fun eq => c (by rw [← eq]; exact List.mem_map.mpr ⟨g, m, rfl⟩)
          have n : cnt g.1 [r.k3] = 0 := cnt_zero fun m => ne (List.mem_singleton.mp m)
          rw [z, show (List.map Rl.k3 [r]) = [r.k3] from rfl, n] <;> rfl
        · rw [List.mem_singleton.mp m]
          have n : cnt r.k3 (pre.map Rl.k3) = 0 := cnt_zero fun m => c (by rw [grps_keys]; exact (once_mem _ _).mpr m)
          show 1 = cnt r.k3 _ + cnt r.k3 [r.k3]
          rw [n, cnt_one]
  exact gen rs [] fun g m => absurd m List.not_mem_nil
theorem guess_find (rs : List Rl) : guessOf (grps rs) = (once (rs.map Rl.k3)).find? fun k => decide (1 < cnt k (rs.map Rl.k3)) := by
  have ks := grps_keys rs
  have cn := grps_count rs
  unfold guessOf
  rw [← ks]
  revert cn
  generalize grps rs = G
  intro cn
  induction G with
  | nil => rfl
  | cons g G ih =>
    rw [List.map_cons, List.find?_cons, List.find?_cons, cn g List.mem_cons_self]
    cases decide (1 < cnt g.1 (rs.map Rl.k3)) with
    | true => rfl
    | false => exact ih fun x m => cn x (List.mem_cons_of_mem _ m)
theorem k3_up {x y : Rl} (h : ltT y.key x.key = false) : ltT y.k3 x.k3 = false := by
  have pre : ∀ (as bs cs ds : List Key), as.length = bs.length → as ≠ bs → ltT (as ++ cs) (bs ++ ds) = ltT as bs := by
    intro as
    induction as with
    | nil =>
      intro bs cs ds e ne
      cases bs with
      | nil => exact absurd rfl ne
      | cons => cases e
    | cons a as ih =>
      intro bs cs ds e ne
      cases bs with
      | nil => cases e
      | cons b bs =>
        show (if a = b then ltT (as ++ cs) (bs ++ ds) else ltKey a b) = if a = b then ltT as bs else ltKey a b
        by_cases c : a = b
        · rw [if_pos c, if_pos c]
          exact ih bs cs ds (Nat.succ.inj e) fun z => ne (by rw [c, z])
        · rw [if_neg c, if_neg c]
  by_cases c : y.k3 = x.k3
  · rw [c]; exact lin_tup.irr _
  · have z := pre y.k3 x.k3 y.a5 x.a5 rfl c
    rw [← z]
    exact h
theorem guess_adj {l : List Rl} (up : l.Pairwise fun x y => ltT y.key x.key = false) : guessOf (grps l) = adjK (l.map Rl.k3) := by
  rw [guess_find]
  exact find_adj lin_tup _ (List.pairwise_map.mpr (up.imp fun h => k3_up h))
theorem rulesOf_up (rs : List Rl) : (rulesOf rs).Pairwise fun x y => ltT y.key x.key = false := by
  have z := lin_tup.asc_up (rs.map Rl.key)
  rw [← rulesOf_keys] at z
  exact List.pairwise_map.mp z
end Mk

set_option maxRecDepth 100000
set_option linter.all false
/-! what is due, as data -/
namespace Mk
open PySem L2 Pk Sx
def keyD : Key → PyData
  | .inl n => .int n
  | .inr x => .str x
def rlD (r : Rl) : PyData := .tuple (r.key.map keyD)
def guessD : Option (List Key) → PyData
  | none => .none
  | some k => .tuple (k.map keyD)
def symsL (rs : List Rl) : List PySem.Str := asc ltText ((rs.map Rl.tp ++ rs.map Rl.sy).filter fun x => decide (x ≠ nil0))
def dueD (l : PySem.Str) (n : Int) (rs : List Rl) (ys : List Int) : PyData :=
  .tuple [.str l, .int n, .tuple ((rulesOf rs).map rlD), .tuple ((intsOf ys).map .int), .tuple ((symsL rs).map .str), guessD (adjK ((rulesOf rs).map Rl.k3))]
theorem rulesOf_mem (rs : List Rl) (r : Rl) : r ∈ rulesOf rs ↔ r ∈ rs := by
  have e : r.key ∈ (rulesOf rs).map Rl.key ↔ r.key ∈ rs.map Rl.key := by rw [rulesOf_keys, asc_mem]
  constructor
  · intro m
    obtain ⟨q, mq, eq⟩ := List.mem_map.mp (e.mp (List.mem_map.mpr ⟨r, m, rfl⟩))
    rw [← key_inj eq]
    exact mq
  · intro m
    obtain ⟨q, mq, eq⟩ := List.mem_map.mp (e.mpr (List.mem_map.mpr ⟨r, m, rfl⟩))
    rw [← key_inj eq]
    exact mq
theorem rulesOf_len (rs : List Rl) : (rulesOf rs).length ≤ rs.length := by
  unfold rulesOf
  rw [List.length_map]
  refine Nat.le_trans (asc_len _ _) ?_
  rw [List.length_map]
  exact Nat.le_refl _
theorem syms_same (rs : List Rl) : symsOf (rulesOf rs) = symsL rs := by
  unfold symsOf symsL
  refine lin_text.is_asc ?_ (lin_text.srt_up _) fun x => ?_
  · exact (srt_perm _ _).nodup_iff.mpr ((once_nodup _).filter _)
  · rw [(srt_perm _ _).mem_iff, List.mem_filter, List.mem_filter, once_mem, List.mem_append, List.mem_append]
    have tp : x ∈ (rulesOf rs).map Rl.tp ↔ x ∈ rs.map Rl.tp := by
      rw [List.mem_map, List.mem_map]
      exact ⟨fun ⟨r, m, e⟩ => ⟨r, (rulesOf_mem rs r).mp m, e⟩, fun ⟨r, m, e⟩ => ⟨r, (rulesOf_mem rs r).mpr m, e⟩⟩
    have sy : x ∈ (rulesOf rs).map Rl.sy ↔ x ∈ rs.map Rl.sy := by
      rw [List.mem_map, List.mem_map]
      exact ⟨fun ⟨r, m, e⟩ => ⟨r, (rulesOf_mem rs r).mp m, e⟩, fun ⟨r, m, e⟩ => ⟨r, (rulesOf_mem rs r).mpr m, e⟩⟩
    rw [tp, sy]
theorem guess_same (rs : List Rl) : guessOf (grps (rulesOf rs)) = adjK ((rulesOf rs).map Rl.k3) := guess_adj (rulesOf_up rs)
theorem adjK_step {κ : Type} [DecidableEq κ] : ∀ {l : List κ} {i : Nat} {a b : κ}, l[i]? = some a → l[i + 1]? = some b →
    adjK (l.take (i + 2)) = match adjK (l.take (i + 1)) with | some k => some k | none => if a = b then some a else none
  | [], i, a, b, e, _ => by simp at e
  | [x], i, a, b, _, e => by simp at e
  | x :: y :: r, 0, a, b, e1, e2 => by
    simp at e1 e2
    subst e1; subst e2
    show adjK [x, y] = _
    have z : adjK ((x :: y :: r).take (0 + 1)) = none := rfl
    rw [z]
    rfl
  | x :: y :: r, i + 1, a, b, e1, e2 => by
    have ih := adjK_step (l := y :: r) (i := i) (a := a) (b := b) (by simpa using e1) (by simpa using e2)
    have t1 : (x :: y :: r).take (i + 1 + 2) = x :: y :: r.take (i + 1) := rfl
    have t2 : (x :: y :: r).take (i + 1 + 1) = x :: y :: r.take i := rfl
    have t3 : (y :: r).take (i + 2) = y :: r.take (i + 1) := rfl
    have t4 : (y :: r).take (i + 1) = y :: r.take i := rfl
    rw [t1, t2]
    rw [t3, t4] at ih
    show (if x = y then some x else adjK (y :: r.take (i + 1))) = _
    rw [show adjK (x :: y :: r.take i) = if x = y then some x else adjK (y :: r.take i) from rfl]
    by_cases c : x = y
    · rw [if_pos c, if_pos c]
    · rw [if_neg c, if_neg c, ih]
/-! data in the heap -/
section
variable {K : PySem.W.Frag} {H : Hp}
theorem dpa_keys : ∀ k : List Key, DpAll K H (k.map kV) (k.map keyD)
  | [] => .nil
  | .inl n :: k => .cons (.int n) (dpa_keys k)
  | .inr x :: k => .cons (.str x) (dpa_keys k)
theorem dp_keys {p : Addr} {k : List Key} (h : H p = some (.tup (k.map kV))) : Dp K H (.ref p) (.tuple (k.map keyD)) := .tup (.inl (.inl h)) (dpa_keys k)
theorem dpa_rules : ∀ {R : Kept}, KeptAt H R → DpAll K H (refsK R) ((R.map (·.2)).map rlD)
  | [], _ => .nil
  | p :: R, h => .cons (dp_keys (k := p.2.key) (h p List.mem_cons_self)) (dpa_rules fun q m => h q (List.mem_cons_of_mem _ m))
theorem dpa_ints : ∀ ys : List Int, DpAll K H (ys.map V.int) (ys.map .int)
  | [] => .nil
  | y :: ys => .cons (.int y) (dpa_ints ys)
theorem dpa_strs : ∀ xs : List PySem.Str, DpAll K H (xs.map V.str) (xs.map .str)
  | [] => .nil
  | x :: xs => .cons (.str x) (dpa_strs xs)
theorem dp_guess {v : V} {g : Option (List Key)} (h : GuessV H v g) : Dp K H v (guessD g) := by
  cases g with
  | none =>
    have e : v = .non := h
    rw [e]
    exact .non
  | some k =>
    obtain ⟨q, e, t⟩ := h
    rw [e]
    exact dp_keys t
end
/-- the six attributes, or what is due of them -/
structure DueAt (H : Hp) (p : Addr) (l : PySem.Str) (n : Int) (rs : List Rl) (ys : List Int) : Prop where
  ex : ∃ (aR aY aS : Addr) (g : V) (R : Kept), H p = some (.tup [.str l, .int n, .ref aR, .ref aY, .ref aS, g]) ∧ H aR = some (.tup (refsK R)) ∧ KeptAt H R ∧ R.map (·.2) = rulesOf rs ∧
    H aY = some (.tup ((intsOf ys).map V.int)) ∧ H aS = some (.tup ((symsL rs).map V.str)) ∧ GuessV H g (adjK ((rulesOf rs).map Rl.k3))
theorem DueAt.dp {K : PySem.W.Frag} {H : Hp} {p : Addr} {l : PySem.Str} {n : Int} {rs : List Rl} {ys : List Int} (h : DueAt H p l n rs ys) : Dp K H (.ref p) (dueD l n rs ys) := by
  obtain ⟨aR, aY, aS, g, R, hp, hR, kR, eR, hY, hS, hg⟩ := h.ex
  refine .tup (.inl (.inl hp)) (.cons (.str l) (.cons (.int n) (.cons (.tup (.inl (.inl hR)) ?_) (.cons (.tup (.inl (.inl hY)) (dpa_ints _)) (.cons (.tup (.inl (.inl hS)) (dpa_strs _)) (.cons (dp_guess hg) .nil))))))
  rw [← eR]
  exact dpa_rules kR
/-- all tuples stay -/
def Tk (H H' : Hp) : Prop := ∀ b xs, H b = some (.tup xs) → H' b = some (.tup xs)
theorem Tk.of {H H' : Hp} (s : Same H H') : Tk H H' := fun b xs e => s b _ e
theorem Tk.trans {H H' H'' : Hp} (a : Tk H H') (b : Tk H' H'') : Tk H H'' := fun c xs e => b c xs (a c xs e)
theorem Tk.refl (H : Hp) : Tk H H := fun _ _ e => e
theorem Tk.put {H : Hp} {q : Addr} {o o' : HO} (h : H q = some o) (n : ∀ xs, o ≠ .tup xs) : Tk H (upd H q o') := fun b xs e => by
  have ne : b ≠ q := fun z => by
    rw [z, h] at e
    exact n xs (Option.some.inj e)
  rw [upd_ne ne]
  exact e
theorem GuessV.tk {H H' : Hp} {v : V} {g : Option (List Key)} (h : GuessV H v g) (t : Tk H H') : GuessV H' v g := by
  cases g with
  | none => exact h
  | some k =>
    obtain ⟨q, e, z⟩ := h
    exact ⟨q, e, t _ _ z⟩
theorem DueAt.tk {H H' : Hp} {p : Addr} {l : PySem.Str} {n : Int} {rs : List Rl} {ys : List Int} (h : DueAt H p l n rs ys) (t : Tk H H') : DueAt H' p l n rs ys := by
  obtain ⟨aR, aY, aS, g, R, hp, hR, kR, eR, hY, hS, hg⟩ := h.ex
  exact ⟨aR, aY, aS, g, R, t _ _ hp, t _ _ hR, fun q m => t _ _ (kR q m), eR, t _ _ hY, t _ _ hS, hg.tk t⟩
/-! comparing -/
theorem eqv_key (a b : Key) : PyData.eqv (keyD a) (keyD b) = decide (a = b) := by
  cases a with
  | inl x =>
    cases b with
    | inl y =>
      show (x == y) = _
      by_cases c : x = y
      · rw [c, decide_eq_true rfl]
        exact beq_iff_eq.mpr rfl
      · rw [decide_eq_false (fun z => c (Sum.inl.inj z))]
        exact Bool.eq_false_iff.mpr fun z => c (beq_iff_eq.mp z)
    | inr y => rw [decide_eq_false (fun z => nomatch z)]; rfl
  | inr x =>
    cases b with
    | inl y => rw [decide_eq_false (fun z => nomatch z)]; rfl
    | inr y =>
      show (x == y) = _
      by_cases c : x = y
      · rw [c, decide_eq_true rfl]
        exact beq_iff_eq.mpr rfl
      · rw [decide_eq_false (fun z => c (Sum.inr.inj z))]
        exact Bool.eq_false_iff.mpr fun z => c (beq_iff_eq.mp z)
theorem eqv_keys : ∀ a b : List Key, PyData.eqv (.tuple (a.map keyD)) (.tuple (b.map keyD)) = decide (a = b)
  | [], [] => rfl
  | [], _ :: _ => by rw [decide_eq_false (fun z => nomatch z)]; rfl
  | _ :: _, [] => by rw [decide_eq_false (fun z => nomatch z)]; rfl
  | x :: a, y :: b => by
    have ih := eqv_keys a b
    have e : PyData.eqv (.tuple ((x :: a).map keyD)) (.tuple ((y :: b).map keyD)) = (PyData.eqv (keyD x) (keyD y) && PyData.eqv (.tuple (a.map keyD)) (.tuple (b.map keyD))) := by
      simp [PyData.eqv, PyData.eqvAll]
    rw [e, ih, eqv_key]
    by_cases c : x = y
    · by_cases d : a = b
      · rw [decide_eq_true c, decide_eq_true d, decide_eq_true (by rw [c, d])]; rfl
      · rw [decide_eq_true c, decide_eq_false d, decide_eq_false (fun z => d (List.cons.inj z).2)]; rfl
    · rw [decide_eq_false c, decide_eq_false (fun z => c (List.cons.inj z).1)]; rfl
def KeyOk : Key → Prop
  | .inl _ => True
  | .inr x => ∀ c ∈ x.cps.toList, c < 1114112
theorem strOk_of {x : PySem.Str} (h : ∀ c ∈ x.cps.toList, c < 1114112) : PyData.strOk x = true := by
  unfold PyData.strOk
  rw [← Array.all_toList, List.all_eq_true]
  exact fun c m => decide_eq_true (h c m)
theorem lay_keys : ∀ k : List Key, (∀ x ∈ k, KeyOk x) → PyData.canLayAll0 (k.map keyD) = true ∧ PyData.depthAll (k.map keyD) = 0
  | [], _ => ⟨by simp [PyData.canLayAll0], by simp [PyData.depthAll]⟩
  | x :: k, h => by
    have ih := lay_keys k fun z m => h z (List.mem_cons_of_mem _ m)
    have hx := h x List.mem_cons_self
    cases x with
    | inl n => exact ⟨by simp [PyData.canLayAll0, PyData.canLay0, keyD, ih.1], by simp [PyData.depthAll, PyData.depth, keyD, ih.2]⟩
    | inr t =>
      have s : PyData.strOk t = true := strOk_of hx
      exact ⟨by simp [PyData.canLayAll0, PyData.canLay0, keyD, ih.1, s], by simp [PyData.depthAll, PyData.depth, keyD, ih.2]⟩
theorem shaped_keys {k : List Key} (h : ∀ x ∈ k, KeyOk x) : SeqAt.shaped (.tuple (k.map keyD)) = true := by
  obtain ⟨a, b⟩ := lay_keys k h
  unfold SeqAt.shaped
  simp [PyData.canLay0, PyData.depth, a, b]
/-- a rule in a list or a tuple -/
def rowD (b : Bool) (r : Rl) : PyData := match b with
  | true => .list (r.key.map keyD)
  | false => .tuple (r.key.map keyD)
theorem lay_rows : ∀ {rs : List (Bool × Rl)}, (∀ p ∈ rs, ∀ x ∈ p.2.key, KeyOk x) → PyData.canLayAll0 (rs.map fun p => rowD p.1 p.2) = true ∧ PyData.depthAll (rs.map fun p => rowD p.1 p.2) ≤ 1
  | [], _ => ⟨by simp [PyData.canLayAll0], by simp [PyData.depthAll]⟩
  | p :: rs, h => by
    have ih := lay_rows (rs := rs) fun q m => h q (List.mem_cons_of_mem _ m)
    have lp := lay_keys p.2.key (h p List.mem_cons_self)
    obtain ⟨b, r⟩ := p
    have one : PyData.canLay0 (rowD b r) = true ∧ PyData.depth (rowD b r) = 1 := by
      cases b with
      | true =>
        show PyData.canLay0 (.list (r.key.map keyD)) = true ∧ PyData.depth (.list (r.key.map keyD)) = 1
        exact ⟨by rw [PyData.canLay0]; exact lp.1, by rw [PyData.depth, lp.2]⟩
      | false =>
        show PyData.canLay0 (.tuple (r.key.map keyD)) = true ∧ PyData.depth (.tuple (r.key.map keyD)) = 1
        exact ⟨by rw [PyData.canLay0]; exact lp.1, by rw [PyData.depth, lp.2]⟩
    rw [List.map_cons]
    refine ⟨by rw [PyData.canLayAll0, one.1, ih.1]; rfl, ?_⟩
    rw [PyData.depthAll, one.2]
    omega
theorem shaped_rows {rs : List (Bool × Rl)} (h : ∀ p ∈ rs, ∀ x ∈ p.2.key, KeyOk x) : SeqAt.shaped (.list (rs.map fun p => rowD p.1 p.2)) = true ∧ PyData.eqv (.list (rs.map fun p => rowD p.1 p.2)) (.list (rs.map fun p => rowD p.1 p.2)) = true := by
  obtain ⟨a, b⟩ := lay_rows h
  have c : PyData.canLay0 (.list (rs.map fun p => rowD p.1 p.2)) = true := by
    unfold PyData.canLay0
    exact a
  refine ⟨?_, SeqAt.eqv_refl _ c⟩
  unfold SeqAt.shaped
  rw [c]
  have d : PyData.depth (.list (rs.map fun p => rowD p.1 p.2)) = PyData.depthAll (rs.map fun p => rowD p.1 p.2) + 1 := by simp [PyData.depth]
  rw [d]
  exact decide_eq_true (by omega)
theorem shaped_ints (ys : List Int) : SeqAt.shaped (.list (ys.map .int)) = true ∧ PyData.eqv (.list (ys.map .int)) (.list (ys.map .int)) = true := by
  have lay : ∀ ys : List Int, PyData.canLayAll0 (ys.map .int) = true ∧ PyData.depthAll (ys.map .int) = 0 := by
    intro ys
    induction ys with
    | nil => exact ⟨by simp [PyData.canLayAll0], by simp [PyData.depthAll]⟩
    | cons y ys ih => exact ⟨by simp only [List.map_cons, PyData.canLayAll0, PyData.canLay0, ih.1]; rfl, by simp only [List.map_cons, PyData.depthAll, PyData.depth, ih.2]; rfl⟩
  obtain ⟨a, b⟩ := lay ys
  have c : PyData.canLay0 (.list (ys.map .int)) = true := by
    unfold PyData.canLay0
    exact a
  refine ⟨?_, SeqAt.eqv_refl _ c⟩
  unfold SeqAt.shaped
  rw [c]
  have d : PyData.depth (.list (ys.map .int)) = PyData.depthAll (ys.map .int) + 1 := by simp [PyData.depth]
  rw [d, b]
  rfl
end Mk

set_option Elab.async false
set_option maxRecDepth 100000
set_option maxHeartbeats 4000000
namespace Mk
open PySem L2 Pk
section
variable {P : Program} {w : World} {K : PySem.W.Frag} {mg : PySem.Str → Option Value} {base : Heap}
/-! _law_due -/
abbrev nDue : List PySem.Str := ["letters", "states", "rules", "yes", "ordered", "found", "symbols", "guess", "k", "rule", "symbol"]
theorem scDue : FnScope nDue ["letters", "states", "rules", "yes"] (defScope sDue) := ⟨rfl, rfl, rfl, by decide +kernel, rfl, by decide +kernel, by decide +kernel⟩
def spDue (K : PySem.W.Frag) : Sp := fun vs H Q _ => ∃ (l : PySem.Str) (n : Int) (aR aY : Addr) (B : Kept) (ys : List Int), vs = [.str l, .int n, .ref aR, .ref aY] ∧ SqL K H aR (refsK B) ∧ KeptAt H B ∧ B.length ≤ 20001 ∧
  (∀ p ∈ B, ∀ x ∈ p.2.k3, KeyOk x) ∧ SqL K H aY (ys.map V.int) ∧ ys.length ≤ 4000 ∧ ∀ (p : Addr) (H' : Hp), Same H H' → H p = none → DueAt H' p l n (B.map (·.2)) ys → Q (.ref p) H'
theorem ok_due {f : Addr} {fd : FuncData} (F : Fun K "_law_due" "_law_due" sDue f fd) (T : TM mg) (GT : Got P w K mg base "_law_each_once" 1 ["values"] (spOnceT K)) (GS : Got P w K mg base "_law_each_once" 1 ["values"] (spOnceS K))
    (GI : Got P w K mg base "_law_each_once" 1 ["values"] (spOnceI K)) : FnOk P w K mg base CX0 2 f fd ["letters", "states", "rules", "yes"] (spDue K) := by
  refine F.ok scDue (fun vs H Q E h => ?_) (fun cdv A outer s H vs Q E hr h => ?_)
  · obtain ⟨l, n, aR, aY, B, ys, rfl, _⟩ := h
    rfl
  · obtain ⟨l, n, aR, aY, B, ys, rfl, hS, hK, few, okK, hY, fewY, k⟩ := h
    have hu64 := hr.units
    refine ⟨_, pss_cons (ps_set (i := 4) scDue.nd rfl (Or.inl rfl) (pe_got GT hr (by rfl) (pa_cons (pv 2) pa_nil)))
      (pss_cons (ps_set (i := 5) scDue.nd rfl (Or.inl rfl) (pe_op op_cat
        (pe_lc (own := [("rule", 9)]) (g := gName 9) (tt := tYes) (by rfl) scDue.nd (pi_list (pv 2)) (blkOk_by (own := [("rule", 9)]) (N := nDue) (sc := defScope sDue) (by decide +kernel))
          (fun _ _ _ _ _ => pg_name (i := 9) scDue.nd rfl (Or.inl rfl)) (fun _ _ _ _ _ => pts_nil) (fun _ _ _ _ _ => pe_ix (r := rIxT K) ix_tup (pv 9) pe_int fun _ _ => rfl))
        (pe_lc (own := [("rule", 9)]) (g := gName 9) (tt := tYes) (by rfl) scDue.nd (pi_list (pv 2)) (blkOk_by (own := [("rule", 9)]) (N := nDue) (sc := defScope sDue) (by decide +kernel))
          (fun _ _ _ _ _ => pg_name (i := 9) scDue.nd rfl (Or.inl rfl)) (fun _ _ _ _ _ => pts_nil) (fun _ _ _ _ _ => pe_ix (r := rIxT K) ix_tup (pv 9) pe_int fun _ _ => rfl))))
      (pss_cons (ps_set (i := 6) scDue.nd rfl (Or.inl rfl) (pe_got GS hr (by rfl) (pa_cons
        (pe_lc (own := [("symbol", 10)]) (g := gName 10) (by rfl) scDue.nd (pi_list (pv 5)) (blkOk_by (own := [("symbol", 10)]) (N := nDue) (sc := defScope sDue) (by decide +kernel))
          (fun _ _ _ _ _ => pg_name (i := 10) scDue.nd rfl (Or.inl rfl)) (fun _ _ _ _ _ => pts_one (pt_cmpR op_ne (pv 10) pe_str (nomark _))) (fun _ _ _ _ _ => pv 10)) pa_nil)))
      (pss_cons (ps_set (i := 7) scDue.nd rfl (Or.inl rfl) pe_non)
      (pss_cons (ps_for PassesOwn.never rfl (pi_range1 (by rfl) T.range (pa_cons (pe_op op_sub (pe_callB call_len_seq (by rfl) T.len PySem.boot_len (pa_cons (pv 4) pa_nil)) pe_int) pa_nil)) (pg_name (i := 8) scDue.nd rfl (Or.inl rfl))
        (pss_one (ps_if (PW.pt (pw_and (pt_cmp (pc_isN (pv 7))) (pw_and1 (pt_cmpR (op_eqD hu64) (pe_slice sl_tup (pe_ix ix_list (pv 4) (pv 8) fun _ _ => rfl) po_none (po_some pe_int))
            (pe_slice sl_tup (pe_ix ix_list (pv 4) (pe_op op_add (pv 8) pe_int) fun _ _ => rfl) po_none (po_some pe_int)) (nomark _)))))
          (pss_one (ps_set (i := 7) scDue.nd rfl (Or.inl rfl) (pe_slice sl_tup (pe_ix ix_list (pv 4) (pv 8) fun _ _ => rfl) po_none (po_some pe_int)))) pss_nil)))
      (pss_one (ps_ret (pe_tup (pa_cons (pv 0) (pa_cons (pv 1) (pa_cons (pe_callTy call_tuple_of (by rfl) T.tuple PyProof.Rows.Boot.tuple (pa_cons (pv 4) pa_nil))
        (pa_cons (pe_callTy call_tuple_of (by rfl) T.tuple PyProof.Rows.Boot.tuple (pa_cons (pe_got GI hr (by rfl) (pa_cons (pv 3) pa_nil)) pa_nil))
        (pa_cons (pe_callTy call_tuple_of (by rfl) T.tuple PyProof.Rows.Boot.tuple (pa_cons (pv 6) pa_nil)) (pa_cons (pv 7) pa_nil))))))))))))), ?_⟩
    have few10 : ∀ {m : Nat}, m ≤ 100000 → m < sizeLine := fun h => Nat.lt_of_le_of_lt h (by decide)
    have lB : (refsK B).length = B.length := List.length_map ..
    -- ordered
    refine ⟨_, rfl, aR, B, rfl, hS, hK, by omega, fun p4 R H1 eR kR s1 np4 h4 => ?_⟩
    have hS1 := s1.seq hS
    have hK1 : KeptAt H1 B := fun p m => s1 _ _ (hK p m)
    have col : ∀ (f : Rl → PySem.Str) {H0 H2 : Hp} {D : Addr} {i : Nat} {p : Addr × Rl}, B[i]? = some p → Same H0 H2 → H0 D = none → H2 D = some (.lst (((B.take i).map fun p => f p.2).map V.str)) →
        ∃ acc, H2 D = some (.lst acc) ∧ acc.length < sizeLine ∧ Same H0 (upd H2 D (.lst (acc ++ [V.str (f p.2)]))) ∧ (upd H2 D (.lst (acc ++ [V.str (f p.2)]))) D = some (.lst (((B.take (i + 1)).map fun p => f p.2).map V.str)) := by
      intro f H0 H2 D i p ep s nD hD
      refine ⟨_, hD, ?_, same_mut s nD, ?_⟩
      · rw [List.length_map, List.length_map, List.length_take]
        exact few10 (by omega)
      · rw [upd_same, take_at ep, List.map_append, List.map_append] <;> rfl
    -- found
    refine ⟨_, rfl, aR, rfl, ⟨_, hS1⟩, fun D1 n1 => lc_list (K := K) (a := aR) (xs := refsK B) (fun i H' => Same H1 H' ∧ H' D1 = some (.lst (((B.take i).map fun p => p.2.tp).map V.str)))
      ⟨same_new n1, upd_same⟩ (fun i H' _ h => h.1.seq hS1) ?_ ?_⟩
    · rintro i x H2 hi ⟨s2, hD⟩
      obtain ⟨p, ep, rfl⟩ := at_refs hi
      refine ⟨rfl, ?_⟩
      exact ⟨_, rfl, p.1, p.2.vs, 2, .str p.2.tp, rfl, rfl, .inl (.inl (s2 _ _ (hK1 p (List.mem_of_getElem? ep)))), rfl, col Rl.tp ep s2 n1 hD⟩
    rintro H2 ⟨s2, hD1⟩
    rw [lB, List.take_of_length_le (Nat.le_refl _)] at hD1
    have s12 := s1.trans s2
    refine ⟨_, rfl, aR, rfl, ⟨_, s2.seq hS1⟩, fun D2 n2 => lc_list (K := K) (a := aR) (xs := refsK B) (fun i H' => Same H2 H' ∧ H' D2 = some (.lst (((B.take i).map fun p => p.2.sy).map V.str)))
      ⟨same_new n2, upd_same⟩ (fun i H' _ h => (s2.trans h.1).seq hS1) ?_ ?_⟩
    · rintro i x H3 hi ⟨s3, hD⟩
      obtain ⟨p, ep, rfl⟩ := at_refs hi
      refine ⟨rfl, ?_⟩
      exact ⟨_, rfl, p.1, p.2.vs, 6, .str p.2.sy, rfl, rfl, .inl (.inl (s3 _ _ (s2 _ _ (hK1 p (List.mem_of_getElem? ep))))), rfl, col Rl.sy ep s3 n2 hD⟩
    rintro H3 ⟨s3, hD2⟩
    rw [lB, List.take_of_length_le (Nat.le_refl _)] at hD2
    refine ⟨D1, D2, _, _, rfl, rfl, s3 _ _ hD1, hD2, ?_, fun D3 n3 => ?_⟩
    · rw [List.length_map, List.length_map, List.length_map, List.length_map]
      exact Nat.le_of_lt (few10 (by omega))
    have eF : (((B.map fun p => p.2.tp).map V.str) ++ ((B.map fun p => p.2.sy).map V.str)) = ((B.map (·.2)).map Rl.tp ++ (B.map (·.2)).map Rl.sy).map V.str := by
      rw [List.map_append, List.map_map, List.map_map, List.map_map, List.map_map, List.map_map, List.map_map] <;> rfl
    rw [eF]
    generalize hfs : ((B.map (·.2)).map Rl.tp ++ (B.map (·.2)).map Rl.sy) = fs
    have lfs : fs.length ≤ 40002 := by
      rw [← hfs, List.length_append, List.length_map, List.length_map, List.length_map, List.length_map]
      omega
    have s4 : Same H (upd H3 D3 (.lst (fs.map V.str))) := (s12.trans s3).trans (same_new n3)
    have sR : Same H1 (upd H3 D3 (.lst (fs.map V.str))) := (s2.trans s3).trans (same_new n3)
    have hF : (upd H3 D3 (.lst (fs.map V.str))) D3 = some (.lst (fs.map V.str)) := upd_same
    dsimp only [gName]
    generalize upd H3 D3 (.lst (fs.map V.str)) = H4 at s4 sR hF ⊢
    -- symbols
    refine ⟨_, rfl, D3, rfl, ⟨_, SqL.of hF⟩, fun D5 n5 => lc_list (K := K) (a := D3) (xs := fs.map V.str) (fun i H' => Same H4 H' ∧ H' D5 = some (.lst (((fs.take i).filter fun x => decide (x ≠ nil0)).map V.str)))
      ⟨same_new n5, upd_same⟩ (fun i H' _ h => SqL.of (h.1 _ _ hF)) ?_ ?_⟩
    · rintro i x H5 hi ⟨s5, hD⟩
      rw [List.getElem?_map] at hi
      obtain ⟨x, ex, rfl⟩ := Option.map_eq_some_iff.mp hi
      refine ⟨rfl, ?_⟩
      refine ⟨_, rfl, rfl, _, rfl, ?_⟩
      have lacc : (((fs.take i).filter fun x => decide (x ≠ nil0)).map V.str).length < sizeLine := by
        rw [List.length_map]
        have z := List.length_filter_le (fun x => decide (x ≠ nil0)) (fs.take i)
        rw [List.length_take] at z
        exact few10 (by omega)
      refine ite2 (fun c => ?_) (fun c => ?_)
      · refine ⟨_, rfl, _, hD, lacc, same_mut s5 n5, ?_⟩
        have c' : x ≠ nil0 := fun z => by rw [z] at c; exact absurd c (by decide)
        rw [upd_same, take_at ex, List.filter_append, List.map_append]
        have e1 : [x].filter (fun x => decide (x ≠ nil0)) = [x] := by
          rw [List.filter_cons, if_pos (decide_eq_true c')] <;> rfl
        rw [e1] <;> rfl
      · have c' : x = nil0 := Classical.byContradiction fun z => c (by
          show (!decide (V.str x = V.str nil0)) = true
          rw [decide_eq_false (fun q => z (V.str.inj q))] <;> rfl)
        refine ⟨s5, ?_⟩
        have e1 : [x].filter (fun x => decide (x ≠ nil0)) = [] := by
          rw [List.filter_cons, if_neg (fun z => (of_decide_eq_true z : x ≠ nil0) c')] <;> rfl
        rw [hD, take_at ex, List.filter_append, e1, List.append_nil]
    rintro H5 ⟨s5, hD5⟩
    rw [List.length_map, List.take_of_length_le (Nat.le_refl _)] at hD5
    refine ⟨D5, _, rfl, SqL.of hD5, ?_, fun p6 H6 s6 np6 h6 => ?_⟩
    · have z := List.length_filter_le (fun x => decide (x ≠ nil0)) fs
      omega
    have hsy : Sx.asc Sx.ltText (fs.filter fun x => decide (x ≠ nil0)) = symsL (B.map (·.2)) := by rw [← hfs] <;> rfl
    rw [hsy] at h6
    have s46 := s5.trans s6
    have h46 := s4.trans s46
    have sR6 := sR.trans s46
    have h4' := sR6 _ _ h4
    have kR6 : KeptAt H6 R := fun p m => sR6 _ _ (kR p m)
    clear s2 hD1 s3 hD2 n1 n2 n3 hF s5 hD5 n5 s6
    -- guess
    have lR : R.length ≤ 20001 := by
      have z := congrArg List.length eR
      rw [List.length_map] at z
      have y := rulesOf_len (B.map (·.2))
      rw [List.length_map] at y
      omega
    have okR : ∀ p ∈ R, ∀ x ∈ p.2.k3, KeyOk x := fun p m x mx => by
      have z : p.2 ∈ rulesOf (B.map (·.2)) := by rw [← eR]; exact List.mem_map.mpr ⟨p, m, rfl⟩
      obtain ⟨q, mq, eq⟩ := List.mem_map.mp ((rulesOf_mem _ _).mp z)
      rw [← eq] at mx
      exact okK q mq x mx
    have lrR : (refsK R).length = R.length := List.length_map ..
    refine ⟨_, rfl, p4, _, rfl, .inl (SqL.of h4'), _, _, rfl, rfl, ?_⟩
    rw [lrR]
    refine ⟨_, rfl, by omega, by omega, for_range (lo := 0) (n := ((R.length : Int) - 1).toNat) (fun i σ H' => Same H6 H' ∧ ∃ (g v8 : Option V) (gv : V), σ = [some (.str l), some (.int n), some (.ref aR), some (.ref aY), some (.ref p4), some (.ref D3), some (.ref p6), g, v8, none, none] ∧ g = some gv ∧ GuessV H' gv (adjK ((R.map fun p => p.2.k3).take (i + 1))))
      ⟨Same.refl _, _, none, .non, rfl, rfl, ?_⟩ ?_ ?_⟩
    · cases R with
      | nil => rfl
      | cons p R => rfl
    · rintro i σ H7 hi ⟨s7, g, v8, gv, rfl, rfl, hg⟩
      have li : i + 1 < R.length := by omega
      obtain ⟨a, ea⟩ : ∃ a, R[i]? = some a := ⟨R[i], List.getElem?_eq_getElem (by omega)⟩
      obtain ⟨b, eb⟩ : ∃ b, R[i + 1]? = some b := ⟨R[i + 1], List.getElem?_eq_getElem (by omega)⟩
      have ea3 : (R.map fun p => p.2.k3)[i]? = some a.2.k3 := by rw [List.getElem?_map, ea] <;> rfl
      have eb3 : (R.map fun p => p.2.k3)[i + 1]? = some b.2.k3 := by rw [List.getElem?_map, eb] <;> rfl
      have st := adjK_step ea3 eb3
      have ea1 : (refsK R)[i]? = some (.ref a.1) := by unfold refsK; rw [List.getElem?_map, ea] <;> rfl
      have eb1 : (refsK R)[i + 1]? = some (.ref b.1) := by unfold refsK; rw [List.getElem?_map, eb] <;> rfl
      have ha := s7 _ _ (kR6 a (List.mem_of_getElem? ea))
      have hb := s7 _ _ (kR6 b (List.mem_of_getElem? eb))
      have h47 := s7 _ _ h4'
      have i0 : (0 : Int) + (i : Int) = ((i : Nat) : Int) := by omega
      have i1 : (0 : Int) + (i : Int) + 1 = ((i + 1 : Nat) : Int) := by omega
      have c3 : ¬ (HT.sIx 8 0 none = 0 ∧ HT.sIx 8 8 (some 3) = 8) := by decide
      refine ⟨_, rfl, ?_⟩
      cases hgg : adjK ((R.map fun p => p.2.k3).take (i + 1)) with
      | some k0 =>
        rw [hgg] at hg st
        obtain ⟨q, rfl, tq⟩ := hg
        refine ⟨_, rfl, ?_⟩
        refine ⟨s7, _, _, _, rfl, rfl, ?_⟩
        rw [st]
        exact ⟨q, rfl, tq⟩
      | none =>
        rw [hgg] at hg st
        have e : gv = .non := hg
        subst e
        refine ⟨_, rfl, ?_⟩
        refine ⟨_, rfl, _, rfl, p4, _, _, _, rfl, rfl, SqL.of h47, by rw [i0]; exact atI_nat ea1, 3, rfl, a.1, a.2.vs, rfl, .inl (.inl ha), c3, fun qa na => ?_⟩
        have sa : Same H7 (upd H7 qa (.tup (cutV a.2.vs none (some 3)))) := same_new na
        refine ⟨_, rfl, _, rfl, _, _, rfl, rfl, p4, _, _, _, rfl, rfl, SqL.of (sa _ _ h47), by rw [i1]; exact atI_nat eb1, 3, rfl, b.1, b.2.vs, rfl, .inl (.inl (sa _ _ hb)), c3, fun qb nb => ?_⟩
        have sb := sa.trans (same_new (o := .tup (cutV b.2.vs none (some 3))) nb)
        have hqa : (upd (upd H7 qa (.tup (cutV a.2.vs none (some 3)))) qb (.tup (cutV b.2.vs none (some 3)))) qa = some (.tup (a.2.k3.map kV)) := same_new nb _ _ upd_same
        have hqb : (upd (upd H7 qa (.tup (cutV a.2.vs none (some 3)))) qb (.tup (cutV b.2.vs none (some 3)))) qb = some (.tup (b.2.k3.map kV)) := upd_same
        generalize upd (upd H7 qa (.tup (cutV a.2.vs none (some 3)))) qb (.tup (cutV b.2.vs none (some 3))) = H8 at sb hqa hqb ⊢
        refine ⟨_, _, dp_keys hqa, dp_keys hqb, shaped_keys (okR a (List.mem_of_getElem? ea)), shaped_keys (okR b (List.mem_of_getElem? eb)), _, rfl, ?_⟩
        rw [eqv_keys]
        refine ite2 (fun c => ?_) (fun c => ?_)
        · have c' := of_decide_eq_true c
          refine ⟨_, rfl, _, rfl, p4, _, _, _, rfl, rfl, SqL.of (sb _ _ h47), by rw [i0]; exact atI_nat ea1, 3, rfl, a.1, a.2.vs, rfl, .inl (.inl (sb _ _ ha)), c3, fun qc nc => ?_⟩
          refine ⟨s7.trans (sb.trans (same_new nc)), _, _, _, rfl, rfl, ?_⟩
          rw [st, if_pos c']
          exact ⟨qc, rfl, by show (upd H8 qc _) qc = _; rw [upd_same] <;> rfl⟩
        · have c' : ¬ a.2.k3 = b.2.k3 := fun z => c (decide_eq_true z)
          refine ⟨s7.trans sb, _, _, _, rfl, rfl, ?_⟩
          rw [st, if_neg c']
          rfl
    · rintro σ H7 ⟨s7, g, v8, gv, rfl, rfl, hg⟩
      have all3 : (R.map fun p => p.2.k3) = (rulesOf (B.map (·.2))).map Rl.k3 := by rw [← eR, List.map_map] <;> rfl
      have full : (R.map fun p => p.2.k3).take (((R.length : Int) - 1).toNat + 1) = (rulesOf (B.map (·.2))).map Rl.k3 := by
        rw [List.take_of_length_le (by rw [List.length_map]; omega), all3]
      rw [full] at hg
      have h67 := h46.trans s7
      refine ⟨_, rfl, _, rfl, _, rfl, p4, _, rfl, .inl ⟨SqL.of (s7 _ _ h4'), fun qR nR => ?_⟩⟩
      have tR := same_new (o := HO.tup (refsK R)) nR
      refine ⟨_, rfl, aY, ys, rfl, (h67.trans tR).seq hY, by omega, fun pY H8 s8 npY hpY => ?_⟩
      refine ⟨pY, _, rfl, .inl ⟨SqL.of hpY, fun qY nY => ?_⟩⟩
      have s78 := (tR.trans s8).trans (same_new (o := HO.tup ((intsOf ys).map V.int)) nY)
      have hqY : (upd H8 qY (.tup ((intsOf ys).map V.int))) qY = some (.tup ((intsOf ys).map V.int)) := upd_same
      have hqR : (upd H8 qY (.tup ((intsOf ys).map V.int))) qR = some (.tup (refsK R)) := (s8.trans (same_new nY)) _ _ upd_same
      dsimp only
      generalize upd H8 qY (.tup ((intsOf ys).map V.int)) = H9 at s78 hqY hqR ⊢
      refine ⟨_, rfl, p6, _, rfl, .inl ⟨SqL.of (s78 _ _ (s7 _ _ h6)), fun qS nS => ?_⟩⟩
      have sS := same_new (o := HO.tup ((symsL (B.map (·.2))).map V.str)) nS
      refine ⟨_, rfl, show 6 ≤ sizeLine by decide, fun p np => ?_⟩
      have sP := sS.trans (same_new (o := HO.tup [V.str l, V.int n, V.ref qR, V.ref qY, V.ref qS, gv]) np)
      have sAll := h67.trans (s78.trans sP)
      refine k p _ sAll ((h67.trans (s78.trans sS)).free np) ⟨qR, qY, qS, gv, R, upd_same, sP _ _ hqR, fun q m => sP _ _ (s78 _ _ (s7 _ _ (kR6 q m))), eR, sP _ _ hqY, same_new np _ _ upd_same, ?_⟩
      exact GuessV.tk hg (Tk.of (s78.trans sP))
end
end Mk

set_option Elab.async false
set_option maxRecDepth 100000
set_option maxHeartbeats 4000000
namespace Mk
open PySem L2 Pk
def isLst : HO → Bool
  | .lst _ => true
  | _ => false
/-- all but lists stays -/
def Lk (H H' : Hp) : Prop := ∀ b o, isLst o = false → H b = some o → H' b = some o
theorem Lk.of {H H' : Hp} (s : Same H H') : Lk H H' := fun b o _ e => s b o e
theorem Lk.refl (H : Hp) : Lk H H := fun _ _ _ e => e
theorem Lk.trans {H H' H'' : Hp} (a : Lk H H') (b : Lk H' H'') : Lk H H'' := fun c o n e => b c o n (a c o n e)
theorem Lk.put {H : Hp} {q : Addr} {xs : List V} {o' : HO} (h : H q = some (.lst xs)) : Lk H (upd H q o') := fun b o n e => by
  have ne : b ≠ q := fun z => by
    rw [z, h] at e
    cases e
    cases n
  rw [upd_ne ne]
  exact e
theorem Lk.tk {H H' : Hp} (l : Lk H H') : Tk H H' := fun b _ e => l b _ rfl e
theorem MachAt.lk {K : PySem.W.Frag} {H H' : Hp} {C x : Addr} {l : PySem.Str} {n : Int} {rs : List Rl} {ys : List Int} (h : MachAt K H C x l n rs ys) (e : Lk H H') : MachAt K H' C x l n rs ys := by
  obtain ⟨dx, aR, aY, aS, aA, g, R, hx, hR, kR, eR, hY, hS, hA, hg⟩ := h.ex
  refine ⟨dx, aR, aY, aS, aA, g, R, e _ _ rfl hx, e _ _ rfl hR, fun p m => e _ _ rfl (kR p m), eR, e _ _ rfl hY, e _ _ rfl hS, ?_, hg.tk e.tk⟩
  obtain ⟨kvs, h1, h2⟩ := hA
  exact ⟨kvs, e _ _ rfl h1, Paired.mapP h2 fun a b z => z.mono fun c xs y => e _ _ rfl y⟩
theorem ArgsOk.mono {K : PySem.W.Frag} {H H' : Hp} {l : PySem.Str} {n : Int} {aR aY : Addr} {bR bY : Bool} {R : Hand} {ys : List Int} (h : ArgsOk K H l n aR aY bR bY R ys) (e : Same H H') : ArgsOk K H' l n aR aY bR bY R ys :=
  ⟨h.alpha, h.num, h.rs.mono e, h.hand.mono e, h.yes.mono e, h.in_, h.few⟩
theorem Right.mono {K : PySem.W.Frag} {H H' : Hp} {l : PySem.Str} {n : Int} {aR aY : Addr} {bR bY : Bool} {R : Hand} {ys : List Int} (h : Right K H l n aR aY bR bY R ys) (e : Same H H') : Right K H' l n aR aY bR bY R ys :=
  ⟨h.args.mono e, fun p m b => e _ _ (h.raw p m b), h.few, h.most, h.fewY⟩
theorem made_same {H H' : Hp} {x dx C : Addr} (nx : H x = none) (nd : H dx = none) (o : Off x (upd (upd H dx (.own x)) x (.ins C dx [])) H') : Same H H' := fun b u e =>
  o b u (ne_of_none e nx) (by rw [upd_ne (ne_of_none e nx), upd_ne (ne_of_none e nd)]; exact e)
theorem made_new {H : Hp} {x dx C : Addr} (nx : H x = none) (nd : H dx = none) : Same H (upd (upd H dx (.own x)) x (.ins C dx [])) := fun b u e => by
  rw [upd_ne (ne_of_none e nx), upd_ne (ne_of_none e nd)]
  exact e
section
variable {P : Program} {w : World} {K : PySem.W.Frag} {mg : PySem.Str → Option Value} {base : Heap}
/-! _law_fields -/
theorem scFields : FnScope ["machine"] ["machine"] (defScope sFields) := ⟨rfl, rfl, rfl, by decide +kernel, rfl, by decide +kernel, by decide +kernel⟩
def spFields (K : PySem.W.Frag) : Sp := fun vs H Q _ => ∃ (C x : Addr) (l : PySem.Str) (n : Int) (rs : List Rl) (ys : List Int), vs = [.ref x] ∧ MCls K C ∧ MachAt K H C x l n rs ys ∧ ∀ (p : Addr) (H' : Hp), Same H H' → H p = none → DueAt H' p l n rs ys → Q (.ref p) H'
theorem ok_fields {f : Addr} {fd : FuncData} (F : Fun K "_law_fields" "_law_fields" sFields f fd) : FnOk P w K mg base CX0 1 f fd ["machine"] (spFields K) := by
  refine F.ok scFields (fun vs H Q E h => ?_) (fun cdv A outer s H vs Q E hr h => ?_)
  · obtain ⟨C, x, l, n, rs, ys, rfl, _⟩ := h
    rfl
  · obtain ⟨C, x, l, n, rs, ys, rfl, M, hm, k⟩ := h
    obtain ⟨dx, aR, aY, aS, aA, g, R, hx, hR, kR, eR, hY, hS, hA, hg⟩ := hm.ex
    refine ⟨_, pss_one (ps_ret (pe_tup (pa_cons (pe_fld (pv 0) rfl) (pa_cons (pe_fld (pv 0) rfl) (pa_cons (pe_fld (pv 0) rfl) (pa_cons (pe_fld (pv 0) rfl) (pa_cons (pe_fld (pv 0) rfl) (pa_cons (pe_fld (pv 0) rfl) pa_nil)))))))), ?_⟩
    refine ⟨_, rfl, x, C, dx, _, .str l, rfl, hx, M.cls, M.letters, rfl, ?_⟩
    refine ⟨_, rfl, x, C, dx, _, .int n, rfl, hx, M.cls, M.states, rfl, ?_⟩
    refine ⟨_, rfl, x, C, dx, _, .ref aR, rfl, hx, M.cls, M.rules, rfl, ?_⟩
    refine ⟨_, rfl, x, C, dx, _, .ref aY, rfl, hx, M.cls, M.yes, rfl, ?_⟩
    refine ⟨_, rfl, x, C, dx, _, .ref aS, rfl, hx, M.cls, M.symbols, rfl, ?_⟩
    refine ⟨_, rfl, x, C, dx, _, g, rfl, hx, M.cls, M.guess, rfl, ?_⟩
    refine ⟨show 6 ≤ sizeLine by decide, fun p np => ?_⟩
    have s := same_new (o := HO.tup [V.str l, V.int n, V.ref aR, V.ref aY, V.ref aS, g]) np
    refine k p _ s np ⟨aR, aY, aS, g, R, upd_same, s _ _ hR, fun q m => s _ _ (kR q m), eR, s _ _ hY, ?_, ?_⟩
    · rw [← syms_same]
      exact s _ _ hS
    · rw [← guess_same]
      exact hg.tk (Tk.of s)
/-- the class Machine and its ways to be called -/
structure MDef (P : Program) (w : World) (K : PySem.W.Frag) (mg : PySem.Str → Option Value) (base : Heap) (C fI e0 : Addr) (fd : FuncData) : Prop where
  cls : MCls K C
  maker : L2.Mk K C fI
  name : mg "Machine" = some (.ref C)
  init : FnOk P w K mg base CX0 6 fI fd ["self", "letters", "states", "rules", "yes"] (spInit K C)
  b4 : Binds K fd ["self", "letters", "states", "rules", "yes"] []
  b3 : ∃ ds, Vals [V.ref e0] ds ∧ Binds K fd ["self", "letters", "states", "rules", "yes"] ds
  kw : KBn K fd ["self", "letters", "states", "rules", "yes"] 4 ["yes"] (fun us ws => us ++ ws) (fun vs zs => vs ++ zs)
  empty : ∀ H : Hp, SqT K H e0 []
/-- a right call makes a machine -/
theorem made_of {H : Hp} {C x dx : Addr} {l : PySem.Str} {n : Int} {aR aY : Addr} {bR bY : Bool} {R : Hand} {ys : List Int} {Q : VK} {E : XK} (nx : H x = none) (nd : H dx = none) (r : Right K H l n aR aY bR bY R ys)
    (k : ∀ H', Same H H' → MachAt K H' C x l n (rsOf R) ys → Q (.ref x) H') :
    spInit K C [.ref x, .str l, .int n, .ref aR, .ref aY] (upd (upd H dx (.own x)) x (.ins C dx [])) (fun v H2 => v = .non ∧ Q (.ref x) H2) E :=
  ⟨x, dx, l, n, aR, aY, bR, bY, R, ys, rfl, upd_same, r.mono (made_new nx nd), fun H' o m => ⟨rfl, k H' (made_same nx nd o) m⟩⟩
end
end Mk

set_option Elab.async false
set_option maxRecDepth 100000
set_option maxHeartbeats 4000000
namespace Pk
open PySem L2
/-! isinstance(e, ..) of the error that a suite holds, which has its dict -/
structure ErrT (K : PySem.W.Frag) (D : Addr) : Prop where
  cl : (PySem.W.clsIn K D).isSome = true
  ga : PySem.W.findIn K (.ref D) "__getattribute__" = some (some (.builtin "BaseException.__getattribute__"))
  gg : PySem.W.findIn K (.ref D) "__getattr__" = some none
  sb : PySem.W.subIn K (.ref D) (.type "BaseException") = some true
  hd : PySem.W.hasDictIn K D = true
  ca : PySem.W.findIn K (.ref D) "__class__" = some (some (.builtin "object.__class__"))
  cg : PySem.W.specialIn K (.builtin "object.__class__") "__get__" = some (some (.builtin "getset_descriptor.__get__"))
  ct : PySem.W.takesIn K (.builtin "object.__class__") = some true
  mo : PySem.W.mroIn K D (.type "object") = some true
def HasXd (H : Hp) (d : Option Addr) : Prop := ∃ dd fs, d = some dd ∧ H dd = some (.xd fs)
def rIsD (K : PySem.W.Frag) (D a : Addr) (cls : Value) (d : Option Addr) : List V → Hp → VK → Prop := fun xs H Q => ∃ (c : V) (u : Value) (b : Bool), xs = [.ref a, c] ∧ cls = .ref D ∧ HasXd H d ∧ ClsV c u ∧ PySem.W.kitOne K (.ref D) u = some b ∧ Q (.bl b) H
def rIsDT (K : PySem.W.Frag) (D a : Addr) (cls : Value) (d : Option Addr) : List V → Hp → VK → Prop := fun xs H Q => ∃ (tp : Addr) (cs : List V) (us : List Value) (b : Bool), xs = [.ref a, .ref tp] ∧ cls = .ref D ∧ HasXd H d ∧ H tp = some (.tup cs) ∧ Paired ClsV cs us ∧ PySem.W.kitAny K (.ref D) us = some b ∧ Q (.bl b) H
theorem inst_of {X : Cx} {a D : Addr} {oe : Obj} {cls : Value} {d : Option Addr} {pn pins : List (Addr × Obj)} {σ : L2.St} {H : Hp} {s : Shared} (hz : Zc cls d oe) (hf : ∃ vs, oe.data = .fields vs) (hc : cls = .ref D) (hd : HasXd H d)
    (I : Inv (X.suite a ((a, oe) :: pn)) pins σ H s) : ∃ od, PySem.W.InstAt s.heap a oe D (some od) := by
  obtain ⟨dd, fs, ed, hdd⟩ := hd
  obtain ⟨got, _⟩ := I.pin (a, oe) (List.mem_append.mpr (.inl List.mem_cons_self))
  obtain ⟨vs, hv⟩ := hf
  have xd : ObjOk (X.suite a ((a, oe) :: pn)).prog (X.suite a ((a, oe) :: pn)).w H s.heap dd (.xd fs) := I.hok dd _ hdd
  obtain ⟨mA, hns, _⟩ := xd
  obtain ⟨od, ho, _⟩ := lookIn_ns hns
  refine ⟨od, got, hz.1.trans hc, ?_, ?_⟩
  · unfold PySem.W.notCls
    rw [hv]
  · rw [hz.2, ed]
    exact ho
theorem kit_err {K : PySem.W.Frag} {a D : Addr} {oe od : Obj} (T : ErrT K D) : PySem.W.KitX K (.ref a) (.ref D) (fun h => PySem.W.InstAt h a oe D (some od)) :=
  PySem.W.kitx_exc T.cl T.ga T.gg T.sb T.ca T.cg T.ct T.mo
theorem call_isD {X : Cx} {a D : Addr} {oe : Obj} {cls : Value} {d : Option Addr} {pn : List (Addr × Obj)} (T : ErrT X.K D) (hz : Zc cls d oe) (hf : ∃ vs, oe.data = .fields vs) : CallR (X.suite a ((a, oe) :: pn)) (.builtin "isinstance") (rIsD X.K D a cls d) := by
  rintro pins s σ H xs us Q I r ⟨c, u, b, rfl, hc, hd, k, e, q⟩
  obtain ⟨u1, u2, rfl, r1, r2⟩ := vals2 r
  cases r1
  have e2 := k.eq r2
  subst e2
  obtain ⟨od, J⟩ := inst_of hz hf hc hd I
  exact PySem.W.kia_one (kit_err T) I.kIn J e (fun z => nomatch z) fun tk => ⟨.bl b, H, I.tok tk, rfl, q⟩
theorem call_isDT {X : Cx} {a D : Addr} {oe : Obj} {cls : Value} {d : Option Addr} {pn : List (Addr × Obj)} (T : ErrT X.K D) (hz : Zc cls d oe) (hf : ∃ vs, oe.data = .fields vs) : CallR (X.suite a ((a, oe) :: pn)) (.builtin "isinstance") (rIsDT X.K D a cls d) := by
  rintro pins s σ H xs us Q I r ⟨tp, cs, ws, b, rfl, hc, hd, hT, k, e, q⟩
  obtain ⟨u1, u2, rfl, r1, r2⟩ := vals2 r
  cases r1
  cases r2
  obtain ⟨od, J⟩ := inst_of hz hf hc hd I
  have tup : ObjOk (X.suite a ((a, oe) :: pn)).prog (X.suite a ((a, oe) :: pn)).w H s.heap tp (.tup cs) := I.hok tp _ hT
  obtain ⟨_, its, rv, ⟨oc, oo, dt, sl⟩, h1, h2, n, h3⟩ := tup
  have e3 := ClsV.all k rv
  subst e3
  simp only at h2 h3
  subst h2 h3
  exact PySem.W.kia_tup (kit_err T) I.kIn J h1 e (fun z => nomatch z) fun tk => ⟨.bl b, H, I.tok tk, rfl, q⟩

theorem pass0S {X : Cx} : ∀ σ, PassesAt CX0 X σ (E0) := fun _ _ _ _ _ _ _ h => h.elim
def tRefs : List Addr → TA
  | [] => tNil
  | c :: r => tCons (tC (.ref c)) (tRefs r)
end Pk

set_option Elab.async false
set_option maxRecDepth 100000
set_option maxHeartbeats 8000000
namespace Mk
open PySem L2 Pk
/-- an error on its way to a suite, whatever the names are then -/
theorem passes_len {X : Cx} {W : WX} (tk : L2N.Takes X W) : Passes (L2N.CX X.prog X.w) X (fun cls d H => ∀ σ : L2.St, σ.length = X.N.length → W cls d σ H) := fun pins σ H s e s' I h => by
  obtain ⟨a, B, H', cls, d, e1, e2, e3, e4, e5, e6, e7, he⟩ := h
  exact L2N.passAt tk σ pins H s e s' I ⟨a, B, H', cls, d, e1, e2, e3, e4, e5, e6, e7, he σ I.len⟩
abbrev sMade : Stmt := top 78
abbrev nMade : List PySem.Str := ["letters", "states", "rules", "yes", "machine", "e", "other", "third"]
theorem scMade : FnScope nMade ["letters", "states", "rules", "yes"] (defScope sMade) := ⟨rfl, rfl, rfl, by decide +kernel, rfl, by decide +kernel, by decide +kernel⟩
/-- the classes that the law names; C is BadMachine -/
structure ErrsM (K : PySem.W.Frag) (mg : PySem.Str → Option Value) (C R a1 a2 a3 a4 a5 a6 a7 a8 a9 b1 b2 b3 b4 b5 b6 b7 b8 b9 : Addr) : Prop where
  gC : mg "BadMachine" = some (.ref C)
  gR : mg "RecallError" = some (.ref R)
  m1 : mg "BadLine" = some (.ref a1)
  m2 : mg "BadText" = some (.ref a2)
  m3 : mg "Guesses" = some (.ref a3)
  m4 : mg "BadStanding" = some (.ref a4)
  m5 : mg "BadSurface" = some (.ref a5)
  m6 : mg "TooLong" = some (.ref a6)
  m7 : mg "BadSplice" = some (.ref a7)
  m8 : mg "NothingToUndo" = some (.ref a8)
  m9 : mg "BadDeed" = some (.ref a9)
  n1 : mg "BadTree" = some (.ref b1)
  n2 : mg "DoubleName" = some (.ref b2)
  n3 : mg "NoSuchProcedure" = some (.ref b3)
  n4 : mg "BadToken" = some (.ref b4)
  n5 : mg "UnlikeLetters" = some (.ref b5)
  n6 : mg "BadCode" = some (.ref b6)
  n7 : mg "BadPaper" = some (.ref b7)
  n8 : mg "BadGrammar" = some (.ref b8)
  n9 : mg "NoSuchProgram" = some (.ref b9)
  vE : mg "ValueError" = none
  kA : PySem.W.kitAny K (.ref C) [.ref a1, .ref a2, .ref a3, .ref a4, .ref a5, .ref a6, .ref a7, .ref a8, .ref a9] = some false
  kB : PySem.W.kitAny K (.ref C) [.ref b1, .ref b2, .ref b3, .ref b4, .ref b5, .ref b6, .ref b7, .ref b8, .ref b9] = some false
  kR : PySem.W.kitOne K (.ref C) (.ref R) = some true
  kV : PySem.W.kitOne K (.ref C) (.type "ValueError") = some true
  ex : PySem.W.exmOne K (.ref C) (.ref C) = some true
  no : PySem.W.findIn K (.ref C) "where" = some none
def tIsTM (K : PySem.W.Frag) (C a : Addr) (cls : Value) (d : Option Addr) (cs : List Addr) : TE := tCB (rIsDT K C a cls d) (tCons (tVar 5) (tCons (tTup (tRefs cs)) tNil))
def tIs1M (K : PySem.W.Frag) (C a : Addr) (cls : Value) (d : Option Addr) (c : V) : TE := tCB (rIsD K C a cls d) (tCons (tVar 5) (tCons (tC c) tNil))
def tSuiteM (K : PySem.W.Frag) (C R : Addr) (A B : List Addr) : Addr → Value → Option Addr → TS := fun a cls d =>
  tSeq (tAsg (tIsTM K C a cls d A) (gName 6))
  (tSeq (tAsg (tIsTM K C a cls d B) (gName 7))
    (tRet (tTup (tCons (tC (.str "refused")) (tCons (tXf a cls d C "where" (tVar 5)) (tCons (tAndV (tIs1M K C a cls d (.ref R)) (tAndV (tIs1M K C a cls d (.ty "ValueError")) (tAndV (tNotV (tVar 6)) (tNotV (tVar 7))))) tNil))))))
theorem pairs9 (a1 a2 a3 a4 a5 a6 a7 a8 a9 : Addr) : Paired ClsV [.ref a1, .ref a2, .ref a3, .ref a4, .ref a5, .ref a6, .ref a7, .ref a8, .ref a9] [.ref a1, .ref a2, .ref a3, .ref a4, .ref a5, .ref a6, .ref a7, .ref a8, .ref a9] :=
  .cons (.own _) (.cons (.own _) (.cons (.own _) (.cons (.own _) (.cons (.own _) (.cons (.own _) (.cons (.own _) (.cons (.own _) (.cons (.own _) .nil))))))))
theorem look_where {v : V} : List.lookup ("where" : PySem.Str) [(("where" : PySem.Str), v)] = some v := by simp [List.lookup]
theorem len8 {σ : L2.St} (h : σ.length = 8) : ∃ a b c d e f g i, σ = [a, b, c, d, e, f, g, i] := by
  match σ, h with
  | [a, b, c, d, e, f, g, i], _ => exact ⟨a, b, c, d, e, f, g, i, rfl⟩
theorem ArgsD.mono {K : PySem.W.Frag} {H H' : Hp} {v1 v2 : V} {d1 d2 : PyData} {aR aY : Addr} {bR bY : Bool} {xs us : List V} {rs es : List PyData} (h : ArgsD K H v1 v2 d1 d2 aR aY bR bY xs us rs es) (e : Same H H') : ArgsD K H' v1 v2 d1 d2 aR aY bR bY xs us rs es :=
  ⟨dp_mono e _ _ h.g1, h.s1, dp_mono e _ _ h.g2, h.sR.mono e, dpa_mono e _ _ h.dR, h.shR, h.lR, h.sY.mono e, dpa_mono e _ _ h.dY, h.lY⟩
theorem DueAt.mono {H H' : Hp} {p : Addr} {l : PySem.Str} {n : Int} {rs : List Rl} {ys : List Int} (h : DueAt H p l n rs ys) (e : Same H H') : DueAt H' p l n rs ys := by
  obtain ⟨aR, aY, aS, g, R, h1, h2, h3, h4, h5, h6, h7⟩ := h.ex
  exact ⟨aR, aY, aS, g, R, e _ _ h1, e _ _ h2, fun q m => e _ _ (h3 q m), h4, e _ _ h5, e _ _ h6, h7.tk (Tk.of e)⟩
section
variable {P : Program} {w : World} {K : PySem.W.Frag} {mg : PySem.Str → Option Value} {base : Heap}
/-- the class Machine, called with any arguments -/
structure MDefD (P : Program) (w : World) (K : PySem.W.Frag) (mg : PySem.Str → Option Value) (base : Heap) (C B fI : Addr) (fd : FuncData) : Prop where
  cls : MCls K C
  maker : L2.Mk K C fI
  name : mg "Machine" = some (.ref C)
  init : FnOk P w K mg base (L2N.CX P w) 6 fI fd ["self", "letters", "states", "rules", "yes"] (spInitD K C B)
  b4 : Binds K fd ["self", "letters", "states", "rules", "yes"] []
def spMade (K : PySem.W.Frag) : Sp := fun vs H Q _ => ∃ (v1 v2 : V) (d1 d2 : PyData) (aR aY : Addr) (bR bY : Bool) (xs us : List V) (rs es : List PyData), vs = [v1, v2, .ref aR, .ref aY] ∧ ArgsD K H v1 v2 d1 d2 aR aY bR bY xs us rs es ∧
  (whereOf d1 d2 rs es = none → ∃ (l : PySem.Str) (n : Int) (R : Hand) (ys : List Int), v1 = .str l ∧ v2 = .int n ∧ Right K H l n aR aY bR bY R ys ∧ ∀ (t p : Addr) (H' : Hp), Same H H' → H' t = some (.tup [.str "let", .ref p]) → DueAt H' p l n (rsOf R) ys → Q (.ref t) H') ∧
  (∀ wd, whereOf d1 d2 rs es = some wd → ∀ (t : Addr) (wv : V) (H' : Hp), Same H H' → H' t = some (.tup [.str "refused", wv, .bl true]) → Dp K H' wv wd → Q (.ref t) H')
theorem ok_made {f C B fI R a1 a2 a3 a4 a5 a6 a7 a8 a9 b1 b2 b3 b4 b5 b6 b7 b8 b9 : Addr} {fd fdI : FuncData} (F : Fun K "_law_made" "_law_made" sMade f fd) (T : TM mg) (M : MDefD P w K mg base C B fI fdI) (ET : ErrT K B)
    (X5 : ErrsM K mg B R a1 a2 a3 a4 a5 a6 a7 a8 a9 b1 b2 b3 b4 b5 b6 b7 b8 b9) (GF : Got P w K mg base "_law_fields" 1 ["machine"] (spFields K)) : FnOk P w K mg base CX0 8 f fd ["letters", "states", "rules", "yes"] (spMade K) := by
  refine F.ok scMade (fun vs H Q E h => ?_) (fun cdv A outer s H vs Q E hr h => ?_)
  · obtain ⟨v1, v2, d1, d2, aR, aY, bR, bY, xs, us, rs, es, rfl, _⟩ := h
    rfl
  · obtain ⟨v1, v2, d1, d2, aR, aY, bR, bY, xs, us, rs, es, rfl, g, kQ, kE⟩ := h
    have hr1 := hr.mono (show 1 ≤ 7 by decide)
    have XF : XfC K B := ⟨ET.ga, ET.gg, ET.sb, ET.hd⟩
    refine ⟨_, pss_cons (L2N.ps_try_as (i := 5) (tb := fun W => tAsg (tMake C (spInitD K C B) [] (fun cls d H => ∀ σ : L2.St, σ.length = 8 → W cls d σ H) (tCons (tVar 0) (tCons (tVar 1) (tCons (tVar 2) (tCons (tVar 3) tNil))))) (gName 4)) (Wout := fun _ _ _ _ => False)
          (ts := tSuiteM K B R [a1, a2, a3, a4, a5, a6, a7, a8, a9] [b1, b2, b3, b4, b5, b6, b7, b8, b9])
          rfl rfl scMade.nd rfl rfl ⟨rfl, by decide, Or.inl X5.gC⟩ takesN0
          (fun W pn xe tk _ => pss_one (ps_set (i := 4) scMade.nd rfl (Or.inl rfl) (pe_make M.maker M.init hr (by rfl) M.name M.b4 .nil (passes_len tk) (pa_cons (pv 0) (pa_cons (pv 1) (pa_cons (pv 2) (pa_cons (pv 3) pa_nil)))))))
          (fun a oe cls d pn hz hf => ?_))
      (pss_one (ps_ret (pe_tup (pa_cons pe_str (pa_cons (pe_got GF hr1 (by rfl) (pa_cons (pv 4) pa_nil)) pa_nil))))), ?_⟩
    · refine pss_cons (ps_set (i := 6) scMade.nd rfl (Or.inl rfl) (pe_callB (r := rIsDT K B a cls d) (call_isDT ET hz.zc hf) (by rfl) T.isi (by decide +kernel) (pa_cons (pv 5) (pa_cons (pe_tup (pa_cons (pe_glob (v := .ref a1) (by rfl) X5.m1 rfl) (pa_cons (pe_glob (v := .ref a2) (by rfl) X5.m2 rfl) (pa_cons (pe_glob (v := .ref a3) (by rfl) X5.m3 rfl) (pa_cons (pe_glob (v := .ref a4) (by rfl) X5.m4 rfl) (pa_cons (pe_glob (v := .ref a5) (by rfl) X5.m5 rfl) (pa_cons (pe_glob (v := .ref a6) (by rfl) X5.m6 rfl) (pa_cons (pe_glob (v := .ref a7) (by rfl) X5.m7 rfl) (pa_cons (pe_glob (v := .ref a8) (by rfl) X5.m8 rfl) (pa_cons (pe_glob (v := .ref a9) (by rfl) X5.m9 rfl) pa_nil)))))))))) pa_nil)))) ?_
      refine pss_cons (ps_set (i := 7) scMade.nd rfl (Or.inl rfl) (pe_callB (r := rIsDT K B a cls d) (call_isDT ET hz.zc hf) (by rfl) T.isi (by decide +kernel) (pa_cons (pv 5) (pa_cons (pe_tup (pa_cons (pe_glob (v := .ref b1) (by rfl) X5.n1 rfl) (pa_cons (pe_glob (v := .ref b2) (by rfl) X5.n2 rfl) (pa_cons (pe_glob (v := .ref b3) (by rfl) X5.n3 rfl) (pa_cons (pe_glob (v := .ref b4) (by rfl) X5.n4 rfl) (pa_cons (pe_glob (v := .ref b5) (by rfl) X5.n5 rfl) (pa_cons (pe_glob (v := .ref b6) (by rfl) X5.n6 rfl) (pa_cons (pe_glob (v := .ref b7) (by rfl) X5.n7 rfl) (pa_cons (pe_glob (v := .ref b8) (by rfl) X5.n8 rfl) (pa_cons (pe_glob (v := .ref b9) (by rfl) X5.n9 rfl) pa_nil)))))))))) pa_nil)))) ?_
      exact pss_one (ps_ret (pe_tup (pa_cons pe_str (pa_cons (pe_xf XF X5.no hz.zc hf (pv 5)) (pa_cons
        (pe_and (pe_callB (r := rIsD K B a cls d) (call_isD ET hz.zc hf) (by rfl) T.isi (by decide +kernel) (pa_cons (pv 5) (pa_cons (pe_glob (v := .ref R) (by rfl) X5.gR rfl) pa_nil)))
        (pe_and (pe_callB (r := rIsD K B a cls d) (call_isD ET hz.zc hf) (by rfl) T.isi (by decide +kernel) (pa_cons (pv 5) (pa_cons (pe_bltn (v := .ty "ValueError") (by rfl) X5.vE PyProof.Rows.Boot.«ValueError» rfl) pa_nil)))
        (pe_and (pe_not (pv 6)) (pe_one (pe_not (pv 7)))))) pa_nil)))))
    · refine ⟨_, rfl, _, rfl, _, rfl, _, rfl, fun x dx nx nd ne => ?_⟩
      have sN := made_new (C := C) nx nd
      have hdx0 : ∀ y, (upd (upd H dx (.own x)) x (.ins C dx [])) y = none → H y = none := fun y e => by
        cases e1 : H y with
        | none => rfl
        | some o => rw [sN y o e1] at e; cases e
      refine ⟨x, dx, v1, v2, d1, d2, aR, aY, bR, bY, xs, us, rs, es, rfl, upd_same, g.mono sN, fun wn => ?_, fun wd ws dy H1 wv hdy s1 hy hw σ lσ => ?_⟩
      · obtain ⟨l, n, R', ys, e1, e2, r, k⟩ := kQ wn
        refine ⟨l, n, R', ys, e1, e2, r.mono sN, fun H1 o1 m1 => ⟨rfl, ?_⟩⟩
        have s1 := made_same nx nd o1
        refine ⟨_, rfl, C, x, l, n, rsOf R', ys, rfl, M.cls, m1, fun p H2 s2 np due => ?_⟩
        refine ⟨show 2 ≤ sizeLine by decide, fun t nt => ?_⟩
        have s3 := same_new (o := HO.tup [V.str "let", V.ref p]) nt
        exact k t p _ ((s1.trans s2).trans s3) upd_same (due.mono s3)
      · obtain ⟨o0, o1, o2, o3, o4, o5, o6, o7, rfl⟩ := len8 lσ
        refine ⟨true, X5.ex, fun _ a ha => ?_, fun z => Bool.noConfusion z⟩
        refine ⟨_, rfl, (by show 9 ≤ sizeLine; decide), fun t1 ht1 => ⟨t1, _, _, false, rfl, rfl, ⟨dy, _, rfl, same_new ht1 _ _ hy⟩, upd_same, pairs9 .., X5.kA, ?_⟩⟩
        refine ⟨_, rfl, (by show 9 ≤ sizeLine; decide), fun t2 ht2 => ⟨t2, _, _, false, rfl, rfl, ⟨dy, _, rfl, same_new ht2 _ _ (same_new ht1 _ _ hy)⟩, upd_same, pairs9 .., X5.kB, ?_⟩⟩
        have s2 := (same_new (H := H1) (o := .tup [.ref a1, .ref a2, .ref a3, .ref a4, .ref a5, .ref a6, .ref a7, .ref a8, .ref a9]) ht1).trans (same_new (o := .tup [.ref b1, .ref b2, .ref b3, .ref b4, .ref b5, .ref b6, .ref b7, .ref b8, .ref b9]) ht2)
        have hx2 := s2 _ _ hy
        refine ⟨_, rfl, rfl, rfl, dy, _, _, rfl, hx2, look_where, ?_⟩
        refine ⟨_, rfl, _, _, true, rfl, rfl, ⟨dy, _, rfl, hx2⟩, .own R, X5.kR, ?_⟩
        refine ⟨_, rfl, iteT ?_⟩
        refine ⟨_, rfl, _, _, true, rfl, rfl, ⟨dy, _, rfl, hx2⟩, .ty _, X5.kV, ?_⟩
        refine ⟨_, rfl, iteT ?_⟩
        refine ⟨_, rfl, false, rfl, ?_⟩
        refine ⟨_, rfl, iteT ?_⟩
        refine ⟨_, rfl, false, rfl, ?_⟩
        refine ⟨show 3 ≤ sizeLine by decide, fun t nt => ?_⟩
        have s3 := same_new (o := HO.tup [V.str "refused", wv, V.bl true]) nt
        exact kE wd ws t wv _ (((sN.trans s1).trans s2).trans s3) upd_same (hw _)
end
end Mk

set_option Elab.async false
set_option linter.unusedVariables false
set_option maxRecDepth 100000
set_option maxHeartbeats 8000000
namespace Mk
open PySem L2 Pk
abbrev sForm : Stmt := top 77
abbrev nForm : List PySem.Str := ["item", "k", "forms"]
theorem scForm : FnScope nForm ["item", "k", "forms"] (defScope sForm) := ⟨rfl, rfl, rfl, by decide +kernel, rfl, by decide +kernel, by decide +kernel⟩
def isTupT : PyData → Bool
  | .tuple _ => true
  | _ => false
theorem kit_tup {K : PySem.W.Frag} : ∀ d : PyData, PySem.W.kitOne K (.type (tyN d)) (.type "tuple") = some (isTupT d)
  | .none => (kit_ty (by decide +kernel) : PySem.W.kitOne K (.type "NoneType") (.type "tuple") = some false)
  | .bool _ => (kit_ty (by decide +kernel) : PySem.W.kitOne K (.type "bool") (.type "tuple") = some false)
  | .int _ => (kit_ty (by decide +kernel) : PySem.W.kitOne K (.type "int") (.type "tuple") = some false)
  | .str _ => (kit_ty (by decide +kernel) : PySem.W.kitOne K (.type "str") (.type "tuple") = some false)
  | .list _ => (kit_ty (by decide +kernel) : PySem.W.kitOne K (.type "list") (.type "tuple") = some false)
  | .tuple _ => (kit_ty (by decide +kernel) : PySem.W.kitOne K (.type "tuple") (.type "tuple") = some true)
  | .dict _ => (kit_ty (by decide +kernel) : PySem.W.kitOne K (.type "dict") (.type "tuple") = some false)
theorem dp_tup {K : PySem.W.Frag} {H : Hp} {v : V} {d : PyData} (h : Dp K H v d) (e : isTupT d = true) : ∃ (a : Addr) (xs : List V) (ds : List PyData), v = .ref a ∧ SqT K H a xs ∧ DpAll K H xs ds ∧ d = .tuple ds := by
  cases h with
  | tup hs ha => exact ⟨_, _, _, rfl, hs, ha, rfl⟩
  | _ => cases e
/-- the k-th value is turned into a list -/
def formB (fs : List Int) (k : Nat) (d : PyData) : Bool := decide (k < 16) && (isTupT d && decide (fs[k]? = some 1))
section
variable {P : Program} {w : World} {K : PySem.W.Frag} {mg : PySem.Str → Option Value} {base : Heap}
def spForm (K : PySem.W.Frag) : Sp := fun vs H Q _ => ∃ (v : V) (d : PyData) (k : Nat) (aF : Addr) (fs : List Int), vs = [v, .int (k : Int), .ref aF] ∧ Dp K H v d ∧ (∀ ds, d = .tuple ds → ∃ (a : Addr) (xs : List V), v = .ref a ∧ H a = some (.tup xs)) ∧ SqL K H aF (fs.map V.int) ∧ fs.length = 16 ∧
  (formB fs k d = false → Q v H) ∧ (formB fs k d = true → ∀ (a p : Addr) (xs : List V), v = .ref a → H a = some (.tup xs) → H p = none → Q (.ref p) (upd H p (.lst xs)))
theorem ok_form {f : Addr} {fd : FuncData} (F : Fun K "_law_some_form" "_law_some_form" sForm f fd) (T : TM mg) : FnOk P w K mg base CX0 1 f fd ["item", "k", "forms"] (spForm K) := by
  refine F.ok scForm (fun vs H Q E h => ?_) (fun cdv A outer s H vs Q E hr h => ?_)
  · obtain ⟨v, d, k, aF, fs, rfl, _⟩ := h
    rfl
  · obtain ⟨v, d, k, aF, fs, rfl, hd, hraw, hF, lF, k0, k1⟩ := h
    refine ⟨_, (pss_cons (ps_if (PW.pt (pw_and (pt_cmpR op_lt (pv 1) pe_int (nomark _)) (pw_and (pt_val (pe_callB call_isi (by rfl) T.isi (by decide +kernel) (pa_cons (pv 0) (pa_cons (pe_bltn (v := .ty "tuple") (by rfl) T.tuple PyProof.Rows.Boot.tuple rfl) pa_nil)))) (pw_and1 (pt_cmpR op_eq (pe_ix ix_list (pv 2) (pv 1) fun _ _ => rfl) pe_int (nomark _))))))
        (pss_one (ps_ret (pe_callTy (call_list_of) (by rfl) T.list PyProof.Rows.Boot.list (pa_cons (pv 0) pa_nil))))
        pss_nil)
      (pss_one (ps_ret (pv 0)))), ?_⟩
    refine ⟨_, rfl, _, _, rfl, rfl, _, rfl, ?_⟩
    by_cases c1 : k < 16
    · refine ite2 (fun _ => ?_) (fun z => absurd (decide_eq_true (by omega)) z)
      refine ⟨_, rfl, _, _, _, _, isTupT d, rfl, .ty _, dp_tyx hd, kit_tup d, _, rfl, ?_⟩
      cases c2 : isTupT d with
      | false =>
        refine iteF (iteF ?_)
        exact ⟨_, rfl, k0 (by unfold formB; rw [c2, Bool.false_and, Bool.and_false])⟩
      | true =>
        refine iteT ?_
        have hk : fs[k]? = some (fs[k]'(by omega)) := List.getElem?_eq_getElem (by omega)
        refine ⟨_, rfl, _, rfl, aF, _, (k : Int), _, rfl, rfl, hF, atI_nat (j := k) (by rw [List.getElem?_map, hk]; rfl), ?_⟩
        refine ⟨rfl, _, rfl, ?_⟩
        obtain ⟨ds, rfl⟩ : ∃ ds, d = .tuple ds := by cases d <;> first | exact ⟨_, rfl⟩ | cases c2
        obtain ⟨a, xs, rfl, ha⟩ := hraw ds rfl
        have hs : SqT K H a xs := SqT.of ha
        rw [show decide (V.int (fs[k]'(by omega)) = V.int 1) = decide ((fs[k]'(by omega)) = 1) from dec_intV _ _]
        refine ite2 (fun c3 => ?_) (fun c3 => ?_)
        · exact ⟨_, rfl, a, xs, rfl, .inr hs, fun p hp => k1 (by unfold formB; rw [hk, decide_eq_true c1, show fs[k]'(by omega) = 1 from of_decide_eq_true c3]; rfl) a p xs rfl ha hp⟩
        · exact ⟨_, rfl, k0 (by unfold formB; rw [hk, decide_eq_false (p := some _ = some 1) fun e => c3 (decide_eq_true (Option.some.inj e)), Bool.and_false, Bool.and_false])⟩
    · refine ite2 (fun z => absurd (of_decide_eq_true z) (by omega)) (fun _ => iteF ?_)
      exact ⟨_, rfl, k0 (by unfold formB; rw [decide_eq_false c1, Bool.false_and])⟩
end
end Mk

set_option Elab.async false
set_option linter.unusedVariables false
set_option maxRecDepth 100000
set_option maxHeartbeats 8000000
namespace Mk
open PySem L2 Pk
abbrev sStrange : Stmt := top 75
abbrev nStrange : List PySem.Str := ["digit"]
theorem scStrange : FnScope nStrange ["digit"] (defScope sStrange) := ⟨rfl, rfl, rfl, by decide +kernel, rfl, by decide +kernel, by decide +kernel⟩
section
variable {P : Program} {w : World} {K : PySem.W.Frag} {mg : PySem.Str → Option Value} {base : Heap}
def spStrange : Sp := fun vs H Q _ => ∃ (d : Nat), vs = [.int (d : Int)] ∧ d < 30 ∧ ∀ c : Nat, c < 1114112 → Q (.str ⟨#[c]⟩) H
theorem ok_strange {f : Addr} {fd : FuncData} (F : Fun K "_law_strange" "_law_strange" sStrange f fd) (T : TM mg) : FnOk P w K mg base CX0 1 f fd ["digit"] spStrange := by
  refine F.ok scStrange (fun vs H Q E h => ?_) (fun cdv A outer s H vs Q E hr h => ?_)
  · obtain ⟨d, rfl, _⟩ := h
    rfl
  · obtain ⟨d, rfl, ld, k⟩ := h
    refine ⟨_, (pss_one (ps_ret (pe_ix ix_str pe_str (pv 0) fun _ _ => rfl))), ?_⟩
    have few : (PySem.Str.ofString " !#$&'()*+,-./:;<=>?@\x5b]^_`{|}~").cps.toList.length = 30 := by decide +kernel
    have e : (PySem.Str.ofString " !#$&'()*+,-./:;<=>?@\x5b]^_`{|}~").cps.toList[d]? = some ((PySem.Str.ofString " !#$&'()*+,-./:;<=>?@\x5b]^_`{|}~").cps.toList[d]'(by omega)) := List.getElem?_eq_getElem (by omega)
    have all : ∀ c ∈ (PySem.Str.ofString " !#$&'()*+,-./:;<=>?@\x5b]^_`{|}~").cps.toList, c < 1114112 := by decide +kernel
    exact ⟨_, rfl, _, _, _, rfl, rfl, (by decide +kernel), atI_nat e, k _ (all _ (List.mem_of_getElem? e))⟩
end
end Mk

set_option Elab.async false
set_option linter.all false
set_option maxRecDepth 100000
/-! ** of great ints -/
namespace Sx
open PySem PySem.Spec PyProof.Rows L2
def CPowG (i j : Int) : Prop := 0 ≤ j ∧ (Builtin.Int.intBits i : Int) * j ≤ 2 ^ 27
section
variable {X : Cx}
theorem op_powG : OpR X (binaryOp .Pow) (rI CPowG fun i j => .int (i ^ j.toNat)) := opI fun _ _ _ _ _ _ _ hc q => pow_int hc.1 hc.2 q
end
theorem powG_of {i : Int} {a k : Nat} (h : i.natAbs < 2 ^ a) (hk : a * k ≤ 100000000) : CPowG i (k : Int) := by
  have b := intBits_le h
  refine ⟨by omega, ?_⟩
  have z : Builtin.Int.intBits i * k ≤ a * k := Nat.mul_le_mul_right k b
  have e : ((Builtin.Int.intBits i * k : Nat) : Int) = (Builtin.Int.intBits i : Int) * (k : Int) := Int.natCast_mul _ _
  rw [← e]
  have : (2 : Int) ^ 27 = 134217728 := by decide
  omega
end Sx

set_option Elab.async false
set_option linter.unusedVariables false
set_option maxRecDepth 100000
set_option maxHeartbeats 16000000
namespace Mk
open PySem L2 Pk
abbrev sOdd : Stmt := top 74
abbrev nOdd : List PySem.Str := ["part", "pick", "letters", "states", "pool", "letter"]
theorem scOdd : FnScope nOdd ["part", "pick", "letters", "states", "pool", "letter"] (defScope sOdd) := ⟨rfl, rfl, rfl, by decide +kernel, rfl, by decide +kernel, by decide +kernel⟩
theorem pick_of {K : PySem.W.Frag} {H : Hp} {vs : List V} {ds : List PyData} {i : Nat} (g : DpAll K H vs ds) (lt : i < vs.length) : ∃ v d, vs[i]? = some v ∧ d ∈ ds ∧ Dp K H v d := by
  obtain ⟨d, e, h⟩ := dpa_get g (List.getElem?_eq_getElem lt)
  exact ⟨_, d, List.getElem?_eq_getElem lt, List.mem_of_getElem? e, h⟩
theorem dpa_one {K : PySem.W.Frag} {H : Hp} {v : V} {d : PyData} (h : Dp K H v d) : DpAll K H [v] [d] := .cons h .nil
theorem dp_l1 {K : PySem.W.Frag} {H : Hp} {p : Addr} {v : V} {d : PyData} (e : H p = some (.lst [v])) (h : Dp K H v d) : Dp K H (.ref p) (.list [d]) := .lst (SqL.of e) (dpa_one h)
theorem short_str {m : Nat} {x : PySem.Str} (h : x.length ≤ m) : Short m (.str x) := fun y e => by cases e; exact h
theorem short_int {m : Nat} {x : Int} : Short m (.int x) := fun y e => nomatch e
theorem short_bl {m : Nat} {x : Bool} : Short m (.bool x) := fun y e => nomatch e
theorem short_non {m : Nat} : Short m .none := fun y e => nomatch e
theorem short_lst {m : Nat} {x : List PyData} : Short m (.list x) := fun y e => nomatch e
theorem all_cons {m : Nat} {d : PyData} {ds : List PyData} (h : Short m d) (t : ∀ x ∈ ds, Short m x) : ∀ x ∈ d :: ds, Short m x := fun x m => by
  rcases List.mem_cons.mp m with m | m
  · subst m; exact h
  · exact t x m
/-- data that == can compare -/
def Lay (m : Nat) (d : PyData) : Prop := PyData.canLay0 d = true ∧ PyData.depth d ≤ m
def Fine (d : PyData) : Prop := Short 1000 d ∧ Lay 2 d
def SOk (x : PySem.Str) : Prop := x.length ≤ 1000 ∧ PyData.strOk x = true
theorem lay_str {m : Nat} {x : PySem.Str} (h : PyData.strOk x = true) : Lay m (.str x) := ⟨by rw [PyData.canLay0]; exact h, by rw [PyData.depth]; exact Nat.zero_le _⟩
theorem lay_int {m : Nat} {x : Int} : Lay m (.int x) := ⟨by rw [PyData.canLay0], by rw [PyData.depth]; exact Nat.zero_le _⟩
theorem lay_bl {m : Nat} {x : Bool} : Lay m (.bool x) := ⟨by rw [PyData.canLay0], by rw [PyData.depth]; exact Nat.zero_le _⟩
theorem lay_non {m : Nat} : Lay m .none := ⟨by rw [PyData.canLay0], by rw [PyData.depth]; exact Nat.zero_le _⟩
theorem lay_all {m : Nat} : ∀ {ds : List PyData}, (∀ x ∈ ds, Lay m x) → PyData.canLayAll0 ds = true ∧ PyData.depthAll ds ≤ m
  | [], _ => ⟨by rw [PyData.canLayAll0], by rw [PyData.depthAll]; exact Nat.zero_le _⟩
  | d :: ds, h => by
    have a := h d List.mem_cons_self
    have b := lay_all fun x m => h x (List.mem_cons_of_mem _ m)
    exact ⟨by rw [PyData.canLayAll0, a.1, b.1]; rfl, by rw [PyData.depthAll]; exact Nat.max_le.mpr ⟨a.2, b.2⟩⟩
theorem lay_list {m : Nat} {ds : List PyData} (h : ∀ x ∈ ds, Lay m x) : Lay (m + 1) (.list ds) := by
  obtain ⟨a, b⟩ := lay_all h
  exact ⟨by rw [PyData.canLay0]; exact a, by rw [PyData.depth]; omega⟩
theorem lay_tup {m : Nat} {ds : List PyData} (h : ∀ x ∈ ds, Lay m x) : Lay (m + 1) (.tuple ds) := by
  obtain ⟨a, b⟩ := lay_all h
  exact ⟨by rw [PyData.canLay0]; exact a, by rw [PyData.depth]; omega⟩
theorem Lay.mono {m n : Nat} {d : PyData} (h : Lay m d) (l : m ≤ n) : Lay n d := ⟨h.1, Nat.le_trans h.2 l⟩
theorem Lay.shaped {m : Nat} {d : PyData} (h : Lay m d) (l : m ≤ 64) : SeqAt.shaped d = true := by
  unfold SeqAt.shaped
  rw [h.1]
  exact decide_eq_true (Nat.le_trans h.2 l)
theorem fine_str {x : PySem.Str} (h : SOk x) : Fine (.str x) := ⟨short_str h.1, lay_str h.2⟩
theorem sok_lit {x : PySem.Str} (h : (decide (x.length ≤ 1000) && PyData.strOk x) = true) : SOk x := by
  rw [Bool.and_eq_true, decide_eq_true_eq] at h
  exact h
theorem fine_lit {x : PySem.Str} (h : (decide (x.length ≤ 1000) && PyData.strOk x) = true) : Fine (.str x) := fine_str (sok_lit h)
theorem fine_int {x : Int} : Fine (.int x) := ⟨short_int, lay_int⟩
theorem fine_bl {x : Bool} : Fine (.bool x) := ⟨short_bl, lay_bl⟩
theorem fine_non : Fine .none := ⟨short_non, lay_non⟩
theorem lay_one {m : Nat} {d : PyData} (h : Lay m d) : ∀ x ∈ [d], Lay m x := fun x e => by rw [List.mem_singleton.mp e]; exact h
theorem fine_l1 {d : PyData} (h : Lay 1 d) : Fine (.list [d]) := ⟨short_lst, lay_list (lay_one h)⟩
theorem fall_nil : ∀ x ∈ ([] : List PyData), Fine x := fun _ m => absurd m List.not_mem_nil
theorem fall_cons {d : PyData} {ds : List PyData} (h : Fine d) (t : ∀ x ∈ ds, Fine x) : ∀ x ∈ d :: ds, Fine x := fun x m => by
  rcases List.mem_cons.mp m with m | m
  · subst m; exact h
  · exact t x m
theorem sok_of {x : PySem.Str} (h : x.length ≤ 1000) (g : ∀ c ∈ x.cps.toList, c < 1114112) : SOk x := ⟨h, strOk_of g⟩
theorem sok_ok {x : PySem.Str} (h : PyData.strOk x = true) : ∀ c ∈ x.cps.toList, c < 1114112 := fun c m => by
  unfold PyData.strOk at h
  rw [← Array.all_toList, List.all_eq_true] at h
  exact of_decide_eq_true (h c m)
theorem cutS_len (z : PySem.Str) (lo hi : Option Int) : (cutS z lo hi).length ≤ z.length := by
  unfold cutS
  show (List.toArray _).size ≤ z.cps.size
  rw [List.size_toArray, List.length_take, List.length_drop, Array.length_toList]
  omega
theorem sok_cut {z : PySem.Str} {lo hi : Option Int} (h : SOk z) : SOk (cutS z lo hi) := by
  refine sok_of (Nat.le_trans (cutS_len _ _ _) h.1) fun c m => sok_ok h.2 c ?_
  unfold cutS at m
  have m' : c ∈ (z.cps.toList.drop _).take _ := m
  exact List.mem_of_mem_drop (List.mem_of_mem_take m')
theorem sok_add {x y : PySem.Str} (h : SOk x) (g : SOk y) (l : x.length + y.length ≤ 1000) : SOk (x ++ y) := by
  refine sok_of ?_ fun c m => ?_
  · show (x.cps ++ y.cps).size ≤ 1000
    rw [Array.size_append]
    exact l
  · have m' : c ∈ (x.cps ++ y.cps).toList := m
    rw [Array.toList_append, List.mem_append] at m'
    rcases m' with m' | m'
    · exact sok_ok h.2 c m'
    · exact sok_ok g.2 c m'
theorem sok_one {c : Nat} (h : c < 1114112) : SOk ⟨#[c]⟩ := sok_of (by show 1 ≤ 1000; decide) fun x m => by
  have m' : x ∈ [c] := m
  rw [List.mem_singleton.mp m']
  exact h
theorem all_nil {m : Nat} : ∀ x ∈ ([] : List PyData), Short m x := fun _ m => absurd m List.not_mem_nil
section
variable {P : Program} {w : World} {K : PySem.W.Frag} {mg : PySem.Str → Option Value} {base : Heap}
def spOdd (K : PySem.W.Frag) : Sp := fun vs H Q _ => ∃ (part : Int) (pick : Nat) (l : PySem.Str) (n : Int) (aP : Addr) (p0 p1 : PySem.Str) (pr : List V) (x : PySem.Str), vs = [.int part, .int (pick : Int), .str l, .int n, .ref aP, .str x] ∧ pick < 12 ∧ SOk l ∧
  SqL K H aP (.str p0 :: .str p1 :: pr) ∧ SOk p0 ∧ SOk p1 ∧ SOk x ∧ ∀ (v : V) (d : PyData) (H' : Hp), Same H H' → Dp K (newOnly H H') v d → Fine d → Q v H'
theorem ok_odd {f : Addr} {fd : FuncData} (F : Fun K "_law_odd_part" "_law_odd_part" sOdd f fd) (T : TM mg) : FnOk P w K mg base CX0 1 f fd ["part", "pick", "letters", "states", "pool", "letter"] (spOdd K) := by
  refine F.ok scOdd (fun vs H Q E h => ?_) (fun cdv A outer s H vs Q E hr h => ?_)
  · obtain ⟨part, pick, l, n, aP, p0, p1, pr, x, rfl, _⟩ := h
    rfl
  · obtain ⟨part, pick, l, n, aP, p0, p1, pr, x, rfl, lp, ll, hP, l0, l1, lx, k⟩ := h
    refine ⟨_, (C8.pss_cut (ps_if (PW.pt (pw_or (pt_cmpR op_eq (pv 0) pe_int (nomark _)) (pw_or1 (pt_cmpR op_eq (pv 0) pe_int (nomark _)))))
        (pss_one (ps_ret (pe_ix ix_list (pe_lst (pa_cons pe_int (pa_cons (pe_op op_sub (pv 3) pe_int) (pa_cons (pv 3) (pa_cons (pe_un un_neg pe_int) (pa_cons pe_bl (pa_cons pe_bl (pa_cons pe_non (pa_cons pe_str (pa_cons pe_int (pa_cons pe_int (pa_cons (pe_lst (pa_cons pe_int pa_nil)) (pa_cons (pe_op op_add (pv 3) pe_int) pa_nil))))))))))))) (pv 1) fun _ _ => rfl)))
        pss_nil)
      (C8.pss_cut (ps_if (pt_cmpR op_eq (pv 0) pe_int (nomark _))
        (pss_one (ps_ret (pe_ix ix_list (pe_lst (pa_cons pe_str (pa_cons pe_str (pa_cons (pe_slice sl_str (pv 2) po_none (po_some pe_int)) (pa_cons (pe_slice sl_str (pv 2) (po_some (pe_op op_sub (pe_callB call_len_str (by rfl) T.len PySem.boot_len (pa_cons (pv 2) pa_nil)) pe_int)) po_none) (pa_cons pe_str (pa_cons pe_str (pa_cons (pe_slice sl_str (pv 2) po_none (po_some pe_int)) (pa_cons pe_str (pa_cons pe_int (pa_cons pe_non (pa_cons (pv 5) (pa_cons (pe_lst (pa_cons pe_str pa_nil)) pa_nil))))))))))))) (pv 1) fun _ _ => rfl)))
        pss_nil)
      (C8.pss_cut (ps_if (pt_cmpR op_eq (pv 0) pe_int (nomark _))
        (pss_one (ps_ret (pe_ix ix_list (pe_lst (pa_cons pe_str (pa_cons (pe_ix ix_list (pv 4) pe_int fun _ _ => rfl) (pa_cons pe_str (pa_cons pe_str (pa_cons pe_str (pa_cons pe_str (pa_cons pe_str (pa_cons pe_non (pa_cons pe_int (pa_cons (pe_lst (pa_cons pe_str pa_nil)) (pa_cons pe_str (pa_cons pe_str pa_nil))))))))))))) (pv 1) fun _ _ => rfl)))
        pss_nil)
      (C8.pss_cut (ps_if (pt_cmpR op_eq (pv 0) pe_int (nomark _))
        (pss_one (ps_ret (pe_ix ix_list (pe_lst (pa_cons (pe_un un_neg pe_int) (pa_cons pe_int (pa_cons pe_int (pa_cons pe_int (pa_cons (pe_un un_neg pe_int) (pa_cons pe_bl (pa_cons pe_bl (pa_cons pe_non (pa_cons pe_str (pa_cons (pe_op Sx.op_powG pe_int pe_int) (pa_cons pe_str (pa_cons (pe_lst (pa_cons pe_int pa_nil)) pa_nil))))))))))))) (pv 1) fun _ _ => rfl)))
        pss_nil)
      (C8.pss_cut (ps_if (pt_cmpR op_eq (pv 0) pe_int (nomark _))
        (pss_one (ps_ret (pe_ix ix_list (pe_lst (pa_cons pe_str (pa_cons pe_str (pa_cons pe_str (pa_cons pe_str (pa_cons pe_str (pa_cons pe_str (pa_cons pe_str (pa_cons pe_non (pa_cons pe_int (pa_cons pe_str (pa_cons (pe_lst (pa_cons pe_str pa_nil)) (pa_cons pe_str pa_nil))))))))))))) (pv 1) fun _ _ => rfl)))
        pss_nil)
      (C8.pss_cut (ps_if (pt_cmpR op_eq (pv 0) pe_int (nomark _))
        (pss_one (ps_ret (pe_ix ix_list (pe_lst (pa_cons pe_str (pa_cons (pe_ix ix_list (pv 4) pe_int fun _ _ => rfl) (pa_cons pe_str (pa_cons pe_str (pa_cons pe_str (pa_cons pe_non (pa_cons pe_int (pa_cons pe_str (pa_cons pe_str (pa_cons (pe_lst (pa_cons pe_str pa_nil)) (pa_cons pe_str (pa_cons pe_str pa_nil))))))))))))) (pv 1) fun _ _ => rfl)))
        pss_nil)
      (pss_one (ps_ret (pe_ix ix_list (pe_lst (pa_cons pe_str (pa_cons pe_str (pa_cons pe_str (pa_cons pe_str (pa_cons pe_str (pa_cons pe_str (pa_cons pe_non (pa_cons pe_int (pa_cons pe_str (pa_cons pe_str (pa_cons (pe_lst (pa_cons pe_str pa_nil)) (pa_cons pe_str pa_nil))))))))))))) (pv 1) fun _ _ => rfl))))))))), ?_⟩
    have S0 := Same.refl H
    refine ⟨fun σ' H' => σ' = L2.start nOdd [.int part, .int (pick : Int), .str l, .int n, .ref aP, .str x] ∧ H' = H, ?_, ?_⟩
    · skip
      refine ⟨_, rfl, rfl, _, rfl, ?_⟩
      refine ite2 (fun _ => ?_) (fun _ => ?_)
      · skip
        refine ⟨_, rfl, _, _, rfl, rfl, _, rfl, _, rfl, (by show 1 ≤ sizeLine; decide), fun q1 hq1 => ?_⟩
        refine ⟨_, rfl, _, _, rfl, rfl, (by show 12 ≤ sizeLine; decide), fun q2 hq2 => ?_⟩
        have g : DpAll K (newOnly H (upd (upd H q1 (.lst [.int 0])) q2 (.lst [.int 0, .int (n - 1), .int n, .int (-1), .bl true, .bl false, .non, .str "0", .int 1999, .int 2000, .ref q1, .int (n + 7)]))) [.int 0, .int (n - 1), .int n, .int (-1), .bl true, .bl false, .non, .str "0", .int 1999, .int 2000, .ref q1, .int (n + 7)] [.int 0, .int (n - 1), .int n, .int (-1), .bool true, .bool false, .none, .str "0", .int 1999, .int 2000, .list [.int 0], .int (n + 7)] := .cons (.int _) (.cons (.int _) (.cons (.int _) (.cons (.int _) (.cons (.bl _) (.cons (.bl _) (.cons (.non) (.cons (.str _) (.cons (.int _) (.cons (.int _) (.cons (dp_l1 (newOnly_at hq1 (same_new hq2 _ _ upd_same)) (.int _)) (.cons (.int _) .nil)))))))))))
        obtain ⟨v, d, ev, md, hv⟩ := pick_of g lp
        exact ⟨_, rfl, q2, _, _, _, rfl, rfl, SqL.of upd_same, atI_nat ev, k v d _ ((same_new hq1).trans (same_new hq2)) hv ((fall_cons fine_int (fall_cons fine_int (fall_cons fine_int (fall_cons fine_int (fall_cons fine_bl (fall_cons fine_bl (fall_cons fine_non (fall_cons (fine_lit (by decide +kernel)) (fall_cons fine_int (fall_cons fine_int (fall_cons (fine_l1 (by first | exact lay_int | exact lay_str (by decide +kernel))) (fall_cons fine_int fall_nil)))))))))))) d md)⟩
      · refine ⟨_, rfl, rfl, _, rfl, ?_⟩
        refine ite2 (fun _ => ?_) (fun _ => ⟨rfl, rfl⟩)
        refine ⟨_, rfl, _, _, rfl, rfl, _, rfl, _, rfl, (by show 1 ≤ sizeLine; decide), fun q1 hq1 => ?_⟩
        refine ⟨_, rfl, _, _, rfl, rfl, (by show 12 ≤ sizeLine; decide), fun q2 hq2 => ?_⟩
        have g : DpAll K (newOnly H (upd (upd H q1 (.lst [.int 0])) q2 (.lst [.int 0, .int (n - 1), .int n, .int (-1), .bl true, .bl false, .non, .str "0", .int 1999, .int 2000, .ref q1, .int (n + 7)]))) [.int 0, .int (n - 1), .int n, .int (-1), .bl true, .bl false, .non, .str "0", .int 1999, .int 2000, .ref q1, .int (n + 7)] [.int 0, .int (n - 1), .int n, .int (-1), .bool true, .bool false, .none, .str "0", .int 1999, .int 2000, .list [.int 0], .int (n + 7)] := .cons (.int _) (.cons (.int _) (.cons (.int _) (.cons (.int _) (.cons (.bl _) (.cons (.bl _) (.cons (.non) (.cons (.str _) (.cons (.int _) (.cons (.int _) (.cons (dp_l1 (newOnly_at hq1 (same_new hq2 _ _ upd_same)) (.int _)) (.cons (.int _) .nil)))))))))))
        obtain ⟨v, d, ev, md, hv⟩ := pick_of g lp
        exact ⟨_, rfl, q2, _, _, _, rfl, rfl, SqL.of upd_same, atI_nat ev, k v d _ ((same_new hq1).trans (same_new hq2)) hv ((fall_cons fine_int (fall_cons fine_int (fall_cons fine_int (fall_cons fine_int (fall_cons fine_bl (fall_cons fine_bl (fall_cons fine_non (fall_cons (fine_lit (by decide +kernel)) (fall_cons fine_int (fall_cons fine_int (fall_cons (fine_l1 (by first | exact lay_int | exact lay_str (by decide +kernel))) (fall_cons fine_int fall_nil)))))))))))) d md)⟩
    rintro σ' H' ⟨rfl, eH⟩
    subst H'
    refine ⟨fun σ' H' => σ' = L2.start nOdd [.int part, .int (pick : Int), .str l, .int n, .ref aP, .str x] ∧ H = H', ?_, ?_⟩
    · skip
      refine ⟨_, rfl, rfl, _, rfl, ?_⟩
      refine ite2 (fun _ => ?_) (fun _ => ⟨rfl, rfl⟩)
      refine ⟨_, rfl, _, rfl, l, rfl, (Nat.le_trans ll.1 (by decide)), _, rfl, _, rfl, l, rfl, (Nat.le_trans ll.1 (by decide)), _, _, rfl, rfl, _, rfl, l, rfl, (Nat.le_trans ll.1 (by decide)), _, rfl, _, rfl, l, rfl, (Nat.le_trans ll.1 (by decide)), _, rfl, (by show 1 ≤ sizeLine; decide), fun q1 hq1 => ?_⟩
      refine ⟨(by show 12 ≤ sizeLine; decide), fun q2 hq2 => ?_⟩
      have g : DpAll K (newOnly H (upd (upd H q1 (.lst [.str "<"])) q2 (.lst [.str "<", .str ">", .str (cutS l none (some 1)), .str (cutS l (some ((l.length : Int) - 1)) none), .str "", .str "<>", .str (cutS l none (some 2)), .str "Q", .int 0, .non, .str x, .ref q1]))) [.str "<", .str ">", .str (cutS l none (some 1)), .str (cutS l (some ((l.length : Int) - 1)) none), .str "", .str "<>", .str (cutS l none (some 2)), .str "Q", .int 0, .non, .str x, .ref q1] [.str "<", .str ">", .str (cutS l none (some 1)), .str (cutS l (some ((l.length : Int) - 1)) none), .str "", .str "<>", .str (cutS l none (some 2)), .str "Q", .int 0, .none, .str x, .list [.str "<"]] := .cons (.str _) (.cons (.str _) (.cons (.str _) (.cons (.str _) (.cons (.str _) (.cons (.str _) (.cons (.str _) (.cons (.str _) (.cons (.int _) (.cons (.non) (.cons (.str _) (.cons (dp_l1 (newOnly_at hq1 (same_new hq2 _ _ upd_same)) (.str _)) .nil)))))))))))
      obtain ⟨v, d, ev, md, hv⟩ := pick_of g lp
      exact ⟨_, rfl, q2, _, _, _, rfl, rfl, SqL.of upd_same, atI_nat ev, k v d _ ((same_new hq1).trans (same_new hq2)) hv ((fall_cons (fine_lit (by decide +kernel)) (fall_cons (fine_lit (by decide +kernel)) (fall_cons (fine_str (sok_cut ll)) (fall_cons (fine_str (sok_cut ll)) (fall_cons (fine_lit (by decide +kernel)) (fall_cons (fine_lit (by decide +kernel)) (fall_cons (fine_str (sok_cut ll)) (fall_cons (fine_lit (by decide +kernel)) (fall_cons fine_int (fall_cons fine_non (fall_cons (fine_str lx) (fall_cons (fine_l1 (by first | exact lay_int | exact lay_str (by decide +kernel))) fall_nil)))))))))))) d md)⟩
    rintro σ' H' ⟨rfl, eH⟩
    subst H'
    refine ⟨fun σ' H' => σ' = L2.start nOdd [.int part, .int (pick : Int), .str l, .int n, .ref aP, .str x] ∧ H = H', ?_, ?_⟩
    · skip
      refine ⟨_, rfl, rfl, _, rfl, ?_⟩
      refine ite2 (fun _ => ?_) (fun _ => ⟨rfl, rfl⟩)
      refine ⟨_, rfl, _, _, _, _, rfl, rfl, hP, (show atI (V.str p0 :: V.str p1 :: pr) (((0 : Nat) : Nat) : Int) = some (.str p0) from atI_nat (j := 0) rfl), (by show 1 ≤ sizeLine; decide), fun q1 hq1 => ?_⟩
      refine ⟨(by show 12 ≤ sizeLine; decide), fun q2 hq2 => ?_⟩
      have g : DpAll K (newOnly H (upd (upd H q1 (.lst [.str "a"])) q2 (.lst [.str "", .str p0, .str "abcdefgh", .str "abcdefghi", .str "a-b", .str " ", .str "Z9", .non, .int 0, .ref q1, .str "_", .str "a b"]))) [.str "", .str p0, .str "abcdefgh", .str "abcdefghi", .str "a-b", .str " ", .str "Z9", .non, .int 0, .ref q1, .str "_", .str "a b"] [.str "", .str p0, .str "abcdefgh", .str "abcdefghi", .str "a-b", .str " ", .str "Z9", .none, .int 0, .list [.str "a"], .str "_", .str "a b"] := .cons (.str _) (.cons (.str _) (.cons (.str _) (.cons (.str _) (.cons (.str _) (.cons (.str _) (.cons (.str _) (.cons (.non) (.cons (.int _) (.cons (dp_l1 (newOnly_at hq1 (same_new hq2 _ _ upd_same)) (.str _)) (.cons (.str _) (.cons (.str _) .nil)))))))))))
      obtain ⟨v, d, ev, md, hv⟩ := pick_of g lp
      exact ⟨_, rfl, q2, _, _, _, rfl, rfl, SqL.of upd_same, atI_nat ev, k v d _ ((same_new hq1).trans (same_new hq2)) hv ((fall_cons (fine_lit (by decide +kernel)) (fall_cons (fine_str l0) (fall_cons (fine_lit (by decide +kernel)) (fall_cons (fine_lit (by decide +kernel)) (fall_cons (fine_lit (by decide +kernel)) (fall_cons (fine_lit (by decide +kernel)) (fall_cons (fine_lit (by decide +kernel)) (fall_cons fine_non (fall_cons fine_int (fall_cons (fine_l1 (by first | exact lay_int | exact lay_str (by decide +kernel))) (fall_cons (fine_lit (by decide +kernel)) (fall_cons (fine_lit (by decide +kernel)) fall_nil)))))))))))) d md)⟩
    rintro σ' H' ⟨rfl, eH⟩
    subst H'
    refine ⟨fun σ' H' => σ' = L2.start nOdd [.int part, .int (pick : Int), .str l, .int n, .ref aP, .str x] ∧ H = H', ?_, ?_⟩
    · skip
      refine ⟨_, rfl, rfl, _, rfl, ?_⟩
      refine ite2 (fun _ => ?_) (fun _ => ⟨rfl, rfl⟩)
      refine ⟨_, rfl, _, rfl, _, _, rfl, rfl, Sx.powG_of (a := 4) (k := 20) (by decide) (by decide), (by show 1 ≤ sizeLine; decide), fun q1 hq1 => ?_⟩
      refine ⟨(by show 12 ≤ sizeLine; decide), fun q2 hq2 => ?_⟩
      have g : DpAll K (newOnly H (upd (upd H q1 (.lst [.int 0])) q2 (.lst [.int (-1), .int 0, .int 1, .int 2, .int (-2), .bl true, .bl false, .non, .str "1", .int (10 ^ (20 : Int).toNat), .str "left", .ref q1]))) [.int (-1), .int 0, .int 1, .int 2, .int (-2), .bl true, .bl false, .non, .str "1", .int (10 ^ (20 : Int).toNat), .str "left", .ref q1] [.int (-1), .int 0, .int 1, .int 2, .int (-2), .bool true, .bool false, .none, .str "1", .int (10 ^ (20 : Int).toNat), .str "left", .list [.int 0]] := .cons (.int _) (.cons (.int _) (.cons (.int _) (.cons (.int _) (.cons (.int _) (.cons (.bl _) (.cons (.bl _) (.cons (.non) (.cons (.str _) (.cons (.int _) (.cons (.str _) (.cons (dp_l1 (newOnly_at hq1 (same_new hq2 _ _ upd_same)) (.int _)) .nil)))))))))))
      obtain ⟨v, d, ev, md, hv⟩ := pick_of g lp
      exact ⟨_, rfl, q2, _, _, _, rfl, rfl, SqL.of upd_same, atI_nat ev, k v d _ ((same_new hq1).trans (same_new hq2)) hv ((fall_cons fine_int (fall_cons fine_int (fall_cons fine_int (fall_cons fine_int (fall_cons fine_int (fall_cons fine_bl (fall_cons fine_bl (fall_cons fine_non (fall_cons (fine_lit (by decide +kernel)) (fall_cons fine_int (fall_cons (fine_lit (by decide +kernel)) (fall_cons (fine_l1 (by first | exact lay_int | exact lay_str (by decide +kernel))) fall_nil)))))))))))) d md)⟩
    rintro σ' H' ⟨rfl, eH⟩
    subst H'
    refine ⟨fun σ' H' => σ' = L2.start nOdd [.int part, .int (pick : Int), .str l, .int n, .ref aP, .str x] ∧ H = H', ?_, ?_⟩
    · skip
      refine ⟨_, rfl, rfl, _, rfl, ?_⟩
      refine ite2 (fun _ => ?_) (fun _ => ⟨rfl, rfl⟩)
      refine ⟨(by show 1 ≤ sizeLine; decide), fun q1 hq1 => ?_⟩
      refine ⟨(by show 12 ≤ sizeLine; decide), fun q2 hq2 => ?_⟩
      have g : DpAll K (newOnly H (upd (upd H q1 (.lst [.str "keep"])) q2 (.lst [.str "keep", .str "pop", .str "push", .str "swap", .str "", .str "Push", .str "kee", .non, .int 1, .str "keep ", .ref q1, .str "poppush"]))) [.str "keep", .str "pop", .str "push", .str "swap", .str "", .str "Push", .str "kee", .non, .int 1, .str "keep ", .ref q1, .str "poppush"] [.str "keep", .str "pop", .str "push", .str "swap", .str "", .str "Push", .str "kee", .none, .int 1, .str "keep ", .list [.str "keep"], .str "poppush"] := .cons (.str _) (.cons (.str _) (.cons (.str _) (.cons (.str _) (.cons (.str _) (.cons (.str _) (.cons (.str _) (.cons (.non) (.cons (.int _) (.cons (.str _) (.cons (dp_l1 (newOnly_at hq1 (same_new hq2 _ _ upd_same)) (.str _)) (.cons (.str _) .nil)))))))))))
      obtain ⟨v, d, ev, md, hv⟩ := pick_of g lp
      exact ⟨_, rfl, q2, _, _, _, rfl, rfl, SqL.of upd_same, atI_nat ev, k v d _ ((same_new hq1).trans (same_new hq2)) hv ((fall_cons (fine_lit (by decide +kernel)) (fall_cons (fine_lit (by decide +kernel)) (fall_cons (fine_lit (by decide +kernel)) (fall_cons (fine_lit (by decide +kernel)) (fall_cons (fine_lit (by decide +kernel)) (fall_cons (fine_lit (by decide +kernel)) (fall_cons (fine_lit (by decide +kernel)) (fall_cons fine_non (fall_cons fine_int (fall_cons (fine_lit (by decide +kernel)) (fall_cons (fine_l1 (by first | exact lay_int | exact lay_str (by decide +kernel))) (fall_cons (fine_lit (by decide +kernel)) fall_nil)))))))))))) d md)⟩
    rintro σ' H' ⟨rfl, eH⟩
    subst H'
    refine ⟨fun σ' H' => σ' = L2.start nOdd [.int part, .int (pick : Int), .str l, .int n, .ref aP, .str x] ∧ H = H', ?_, ?_⟩
    · skip
      refine ⟨_, rfl, rfl, _, rfl, ?_⟩
      refine ite2 (fun _ => ?_) (fun _ => ⟨rfl, rfl⟩)
      refine ⟨_, rfl, _, _, _, _, rfl, rfl, hP, (show atI (V.str p0 :: V.str p1 :: pr) (((1 : Nat) : Nat) : Int) = some (.str p1) from atI_nat (j := 1) rfl), (by show 1 ≤ sizeLine; decide), fun q1 hq1 => ?_⟩
      refine ⟨(by show 12 ≤ sizeLine; decide), fun q2 hq2 => ?_⟩
      have g : DpAll K (newOnly H (upd (upd H q1 (.lst [.str "a"])) q2 (.lst [.str "", .str p1, .str "abcdefgh", .str "abcdefghi", .str "-", .non, .int 0, .str "A0", .str " ", .ref q1, .str "a.b", .str "aZ9"]))) [.str "", .str p1, .str "abcdefgh", .str "abcdefghi", .str "-", .non, .int 0, .str "A0", .str " ", .ref q1, .str "a.b", .str "aZ9"] [.str "", .str p1, .str "abcdefgh", .str "abcdefghi", .str "-", .none, .int 0, .str "A0", .str " ", .list [.str "a"], .str "a.b", .str "aZ9"] := .cons (.str _) (.cons (.str _) (.cons (.str _) (.cons (.str _) (.cons (.str _) (.cons (.non) (.cons (.int _) (.cons (.str _) (.cons (.str _) (.cons (dp_l1 (newOnly_at hq1 (same_new hq2 _ _ upd_same)) (.str _)) (.cons (.str _) (.cons (.str _) .nil)))))))))))
      obtain ⟨v, d, ev, md, hv⟩ := pick_of g lp
      exact ⟨_, rfl, q2, _, _, _, rfl, rfl, SqL.of upd_same, atI_nat ev, k v d _ ((same_new hq1).trans (same_new hq2)) hv ((fall_cons (fine_lit (by decide +kernel)) (fall_cons (fine_str l1) (fall_cons (fine_lit (by decide +kernel)) (fall_cons (fine_lit (by decide +kernel)) (fall_cons (fine_lit (by decide +kernel)) (fall_cons fine_non (fall_cons fine_int (fall_cons (fine_lit (by decide +kernel)) (fall_cons (fine_lit (by decide +kernel)) (fall_cons (fine_l1 (by first | exact lay_int | exact lay_str (by decide +kernel))) (fall_cons (fine_lit (by decide +kernel)) (fall_cons (fine_lit (by decide +kernel)) fall_nil)))))))))))) d md)⟩
    rintro σ' H' ⟨rfl, eH⟩
    subst H'
    refine ⟨(by show 1 ≤ sizeLine; decide), fun q1 hq1 => ?_⟩
    refine ⟨(by show 12 ≤ sizeLine; decide), fun q2 hq2 => ?_⟩
    have g : DpAll K (newOnly H (upd (upd H q1 (.lst [.str "a"])) q2 (.lst [.str "", .str "a", .str "abc", .str "abcd", .str "A", .str "1", .non, .int 0, .str " ", .str "zzz", .ref q1, .str "a b"]))) [.str "", .str "a", .str "abc", .str "abcd", .str "A", .str "1", .non, .int 0, .str " ", .str "zzz", .ref q1, .str "a b"] [.str "", .str "a", .str "abc", .str "abcd", .str "A", .str "1", .none, .int 0, .str " ", .str "zzz", .list [.str "a"], .str "a b"] := .cons (.str _) (.cons (.str _) (.cons (.str _) (.cons (.str _) (.cons (.str _) (.cons (.str _) (.cons (.non) (.cons (.int _) (.cons (.str _) (.cons (.str _) (.cons (dp_l1 (newOnly_at hq1 (same_new hq2 _ _ upd_same)) (.str _)) (.cons (.str _) .nil)))))))))))
    obtain ⟨v, d, ev, md, hv⟩ := pick_of g lp
    exact ⟨_, rfl, q2, _, _, _, rfl, rfl, SqL.of upd_same, atI_nat ev, k v d _ ((same_new hq1).trans (same_new hq2)) hv ((fall_cons (fine_lit (by decide +kernel)) (fall_cons (fine_lit (by decide +kernel)) (fall_cons (fine_lit (by decide +kernel)) (fall_cons (fine_lit (by decide +kernel)) (fall_cons (fine_lit (by decide +kernel)) (fall_cons (fine_lit (by decide +kernel)) (fall_cons fine_non (fall_cons fine_int (fall_cons (fine_lit (by decide +kernel)) (fall_cons (fine_lit (by decide +kernel)) (fall_cons (fine_l1 (by first | exact lay_int | exact lay_str (by decide +kernel))) (fall_cons (fine_lit (by decide +kernel)) fall_nil)))))))))))) d md)⟩
end
end Mk

set_option Elab.async false
set_option linter.unusedVariables false
set_option maxRecDepth 100000
set_option maxHeartbeats 16000000
namespace Mk
open PySem L2 Pk
abbrev sArgs : Stmt := top 80
abbrev nArgs : List PySem.Str := ["row", "letters", "states", "yes", "odd", "strange", "menu", "item", "at"]
theorem scArgs : FnScope nArgs ["row", "letters", "states", "yes"] (defScope sArgs) := ⟨rfl, rfl, rfl, by decide +kernel, rfl, by decide +kernel, by decide +kernel⟩
section
variable {P : Program} {w : World} {K : PySem.W.Frag} {mg : PySem.Str → Option Value} {base : Heap}
/-- the three arguments in their list -/
structure OddAt (K : PySem.W.Frag) (H : Hp) (p : Addr) : Prop where
  ex : ∃ (v1 v2 : V) (q : Addr) (d1 d2 : PyData) (us : List V) (es : List PyData), H p = some (.lst [v1, v2, .ref q]) ∧ Dp K (hide p H) v1 d1 ∧ Short 1000 d1 ∧ Dp K (hide p H) v2 d2 ∧ hide p H q = some (.lst us) ∧ DpAll K (hide p H) us es ∧ es.length ≤ 2001 ∧ Lay 1 d2 ∧ ∀ x ∈ es, Lay 1 x
theorem OddAt.mono {K : PySem.W.Frag} {H H' : Hp} {p : Addr} (h : OddAt K H p) (e : Same H H') : OddAt K H' p := by
  obtain ⟨v1, v2, q, d1, d2, us, es, h1, h2, h3, h4, h5, h6, h7⟩ := h.ex
  exact ⟨v1, v2, q, d1, d2, us, es, e _ _ h1, dp_mono (hide_mono e) _ _ h2, h3, dp_mono (hide_mono e) _ _ h4, hide_mono e _ _ h5, dpa_mono (hide_mono e) _ _ h6, h7⟩
theorem OddAt.set0 {K : PySem.W.Frag} {H : Hp} {p : Addr} {v : V} {d : PyData} (h : OddAt K H p) (g : Dp K (hide p H) v d) (s : Short 1000 d) : ∃ xs, H p = some (.lst xs) ∧ ixN xs.length 0 = some 0 ∧ OddAt K (upd H p (.lst (xs.set 0 v))) p := by
  obtain ⟨v1, v2, q, d1, d2, us, es, h1, h2, h3, h4, h5, h6, h7⟩ := h.ex
  refine ⟨_, h1, rfl, v, v2, q, d, d2, us, es, upd_same, ?_, s, ?_, ?_, ?_, h7⟩ <;> rw [hide_upd]
  · exact g
  · exact h4
  · exact h5
  · exact h6
theorem OddAt.set1 {K : PySem.W.Frag} {H : Hp} {p : Addr} {v : V} {d : PyData} (h : OddAt K H p) (g : Dp K (hide p H) v d) (s : Lay 1 d) : ∃ xs, H p = some (.lst xs) ∧ ixN xs.length 1 = some 1 ∧ OddAt K (upd H p (.lst (xs.set 1 v))) p := by
  obtain ⟨v1, v2, q, d1, d2, us, es, h1, h2, h3, h4, h5, h6, h7⟩ := h.ex
  refine ⟨_, h1, rfl, v1, v, q, d1, d, us, es, upd_same, ?_, h3, ?_, ?_, ?_, h7.1, s, h7.2.2⟩ <;> rw [hide_upd]
  · exact h2
  · exact g
  · exact h5
  · exact h6
theorem OddAt.set2 {K : PySem.W.Frag} {H : Hp} {p q' : Addr} {us' : List V} {es' : List PyData} (h : OddAt K H p) (g1 : hide p H q' = some (.lst us')) (g2 : DpAll K (hide p H) us' es') (l : es'.length ≤ 2001) (s : ∀ x ∈ es', Lay 1 x) : ∃ xs, H p = some (.lst xs) ∧ ixN xs.length 2 = some 2 ∧ OddAt K (upd H p (.lst (xs.set 2 (.ref q')))) p := by
  obtain ⟨v1, v2, q, d1, d2, us, es, h1, h2, h3, h4, h5, h6, h7⟩ := h.ex
  refine ⟨_, h1, rfl, v1, v2, q', d1, d2, us', es', upd_same, ?_, h3, ?_, ?_, ?_, l, h7.2.1, s⟩ <;> rw [hide_upd]
  · exact h2
  · exact h4
  · exact g1
  · exact g2
theorem cutV_le (xs : List V) (lo hi : Option Int) : (cutV xs lo hi).length ≤ xs.length := by
  unfold cutV
  rw [List.length_take, List.length_drop]
  omega
theorem dpa_intsV {K : PySem.W.Frag} {H : Hp} : ∀ ys : List Int, DpAll K H (ys.map V.int) (ys.map PyData.int)
  | [] => .nil
  | y :: ys => .cons (.int y) (dpa_intsV ys)
theorem lays_int {m : Nat} (ys : List Int) : ∀ x ∈ ys.map PyData.int, Lay m x := fun x e => by
  obtain ⟨y, _, rfl⟩ := List.mem_map.mp e
  exact lay_int
theorem lcons {m : Nat} {d : PyData} {ds : List PyData} (h : Lay m d) (t : ∀ x ∈ ds, Lay m x) : ∀ x ∈ d :: ds, Lay m x := fun x e => by
  rcases List.mem_cons.mp e with e | e
  · rw [e]; exact h
  · exact t x e
theorem lnil {m : Nat} : ∀ x ∈ ([] : List PyData), Lay m x := fun _ e => absurd e List.not_mem_nil
theorem cutV_split (xs : List V) (i : Int) : (cutV xs none (some i)).length + (cutV xs (some i) none).length = xs.length := by
  have e : HT.sIx xs.length 0 (some i) = HT.sIx xs.length xs.length (some i) := rfl
  have l : HT.sIx xs.length xs.length (some i) ≤ xs.length := HT.sIx_le _ _ (Nat.le_refl _) _
  unfold cutV
  rw [List.length_take, List.length_drop, List.length_take, List.length_drop, e, HT.sIx_none, HT.sIx_none]
  omega
theorem dpa_cutI {K : PySem.W.Frag} (ys : List Int) (lo hi : Option Int) : ∃ zs : List Int, (∀ H, DpAll K H (cutV (ys.map V.int) lo hi) (zs.map PyData.int)) ∧ zs.length = (cutV (ys.map V.int) lo hi).length := by
  unfold cutV
  rw [← List.map_drop, ← List.map_take]
  exact ⟨_, fun H => dpa_intsV _, (List.length_map ..).symm⟩
def spArgs (K : PySem.W.Frag) : Sp := fun vs H Q _ => ∃ (aRow : Addr) (l : PySem.Str) (n : Int) (aY : Addr) (ys : List Int) (d0 d1 d2 d3 d4 d5 d6 d7 d8 : Nat), vs = [.ref aRow, .str l, .int n, .ref aY] ∧ SqL K H aRow [.int (d0 : Int), .int (d1 : Int), .int (d2 : Int), .int (d3 : Int), .int (d4 : Int), .int (d5 : Int), .int (d6 : Int), .int (d7 : Int), .int (d8 : Int)] ∧ d3 < 15 ∧ d4 < 12 ∧ d6 < 12 ∧ d8 < 30 ∧ l.length ≤ 900 ∧
  SqL K H aY (ys.map V.int) ∧ ys.length ≤ 2000 ∧ ∀ (p : Addr) (H' : Hp), Same H H' → H p = none → OddAt K H' p → Q (.ref p) H'
theorem ok_args {f : Addr} {fd : FuncData} (F : Fun K "_law_odd_arguments" "_law_odd_arguments" sArgs f fd) (T : TM mg) (G : Got P w K mg base "_law_strange" 1 ["digit"] spStrange) : FnOk P w K mg base CX0 2 f fd ["row", "letters", "states", "yes"] (spArgs K) := by
  refine F.ok scArgs (fun vs H Q E h => ?_) (fun cdv A outer s H vs Q E hr h => ?_)
  · obtain ⟨aRow, l, n, aY, ys, d0, d1, d2, d3, d4, d5, d6, d7, d8, rfl, _⟩ := h
    rfl
  · obtain ⟨aRow, l, n, aY, ys, d0, d1, d2, d3, d4, d5, d6, d7, d8, rfl, hRow, b3, b4, b6, b8, ll, hY, lY, k⟩ := h
    have nd := scArgs.nd
    have h1 := hr
    refine ⟨_, (pss_cons (ps_set (i := 4) nd rfl (Or.inl rfl) (pe_lst (pa_cons (pv 1) (pa_cons (pv 2) (pa_cons (pe_callTy (call_list_of) (by rfl) T.list PyProof.Rows.Boot.list (pa_cons (pv 3) pa_nil)) pa_nil)))))
      (C8.pss_cut (ps_if (pt_cmpR op_eq (pe_ix ix_list (pv 0) pe_int fun _ _ => rfl) pe_int (nomark _))
        (pss_cons (ps_set (i := 5) nd rfl (Or.inl rfl) (pe_got G h1 (by rfl) (pa_cons (pe_ix ix_list (pv 0) pe_int fun _ _ => rfl) pa_nil)))
        (pss_cons (ps_set (i := 6) nd rfl (Or.inl rfl) (pe_lst (pa_cons pe_str (pa_cons pe_str (pa_cons pe_str (pa_cons pe_str (pa_cons pe_str (pa_cons pe_non (pa_cons pe_int (pa_cons (pe_lst (pa_cons pe_str pa_nil)) (pa_cons pe_str (pa_cons pe_str (pa_cons pe_str (pa_cons (pe_tup (pa_cons pe_str (pa_cons pe_str pa_nil))) pa_nil))))))))))))))
        (pss_one (ps_asg (pe_ix ix_list (pe_op op_cat (pv 6) (pe_lst (pa_cons (pe_op op_add_str (pv 1) (pv 5)) (pa_cons (pe_op op_add_str (pv 5) (pv 1)) (pa_cons (pv 5) pa_nil))))) (pe_ix ix_list (pv 0) pe_int fun _ _ => rfl) fun _ _ => rfl) (pg_sub (pv 4) pe_int set_list)))))
        pss_nil)
      (C8.pss_cut (ps_if (pt_cmpR op_eq (pe_ix ix_list (pv 0) pe_int fun _ _ => rfl) pe_int (nomark _))
        (pss_one (ps_asg (pe_ix ix_list (pe_lst (pa_cons pe_int (pa_cons (pe_un un_neg pe_int) (pa_cons pe_int (pa_cons pe_bl (pa_cons pe_non (pa_cons pe_str (pa_cons pe_int (pa_cons pe_int (pa_cons (pe_lst (pa_cons pe_int pa_nil)) (pa_cons (pe_op Sx.op_powG pe_int pe_int) (pa_cons pe_int (pa_cons pe_bl pa_nil))))))))))))) (pe_ix ix_list (pv 0) pe_int fun _ _ => rfl) fun _ _ => rfl) (pg_sub (pv 4) pe_int set_list)))
        pss_nil)
      (C8.pss_cut (ps_if (pt_cmpR op_eq (pe_ix ix_list (pv 0) pe_int fun _ _ => rfl) pe_int (nomark _))
        (pss_cons (ps_set (i := 7) nd rfl (Or.inl rfl) (pe_ix ix_list (pe_lst (pa_cons (pe_ix ix_list (pv 4) pe_int fun _ _ => rfl) (pa_cons (pe_un un_neg pe_int) (pa_cons pe_bl (pa_cons pe_non (pa_cons pe_str (pa_cons pe_int (pa_cons pe_int (pa_cons (pe_lst (pa_cons pe_int pa_nil)) (pa_cons pe_bl (pa_cons pe_int (pa_cons (pe_op Sx.op_powG pe_int pe_int) (pa_cons (pe_tup (pa_cons pe_int pa_nil)) pa_nil))))))))))))) (pe_ix ix_list (pv 0) pe_int fun _ _ => rfl) fun _ _ => rfl))
        (pss_cons (ps_set (i := 8) nd rfl (Or.inl rfl) (pe_op op_mod (pe_callTy call_int1 (by rfl) T.int PyProof.Rows.Boot.int (pa_cons (pe_ix ix_list (pv 0) pe_int fun _ _ => rfl) pa_nil)) (pe_op op_add (pe_callB call_len_seq (by rfl) T.len PySem.boot_len (pa_cons (pv 3) pa_nil)) pe_int)))
        (pss_one (ps_asg (pe_op op_cat (pe_op op_cat (pe_slice sl_list (pv 3) po_none (po_some (pv 8))) (pe_lst (pa_cons (pv 7) pa_nil))) (pe_slice sl_list (pv 3) (po_some (pv 8)) po_none)) (pg_sub (pv 4) pe_int set_list)))))
        pss_nil)
      (pss_one (ps_ret (pv 4))))))), ?_⟩
    have ix : ∀ (j : Nat) (v : V), ([.int (d0 : Int), .int (d1 : Int), .int (d2 : Int), .int (d3 : Int), .int (d4 : Int), .int (d5 : Int), .int (d6 : Int), .int (d7 : Int), .int (d8 : Int)] : List V)[j]? = some v → atI [.int (d0 : Int), .int (d1 : Int), .int (d2 : Int), .int (d3 : Int), .int (d4 : Int), .int (d5 : Int), .int (d6 : Int), .int (d7 : Int), .int (d8 : Int)] ((j : Nat) : Int) = some v := fun j v e => atI_nat e
    refine ⟨_, rfl, _, rfl, _, rfl, aY, _, rfl, .inl hY, fun qY hqY => ?_⟩
    refine ⟨by (show 3 ≤ sizeLine; decide), fun p hp => ?_⟩
    have hpH : H p = none := by
      by_cases e : p = qY
      · rw [e, upd_same] at hp; cases hp
      · rw [upd_ne e] at hp; exact hp
    have npq : qY ≠ p := fun e => by rw [e, upd_same] at hp; cases hp
    have hide0 : hide p (upd (upd H qY (.lst (ys.map V.int))) p (.lst [.str l, .int n, .ref qY])) qY = some (.lst (ys.map V.int)) := by
      rw [hide_upd, hide_ne npq, upd_same]
    have O0 : OddAt K (upd (upd H qY (.lst (ys.map V.int))) p (.lst [.str l, .int n, .ref qY])) p :=
      ⟨_, _, qY, .str l, .int n, _, ys.map PyData.int, upd_same, .str _, short_str (by omega), .int _, hide0, dpa_intsV ys, by rw [List.length_map]; omega, lay_int, lays_int ys⟩
    have s0 : Same H (upd (upd H qY (.lst (ys.map V.int))) p (.lst [.str l, .int n, .ref qY])) := (same_new hqY).trans (same_new hp)
    show (C8.tCut _ _ _) _ (upd (upd H qY (.lst (ys.map V.int))) p (.lst [.str l, .int n, .ref qY]))
    generalize upd (upd H qY (.lst (ys.map V.int))) p (.lst [.str l, .int n, .ref qY]) = Ha at s0 O0 ⊢
    clear hide0 hqY hp npq
    refine ⟨fun σ' H' => Same H H' ∧ OddAt K H' p ∧ ∃ o5 o6 o7 o8 : Option V, σ' = [some (.ref aRow), some (.str l), some (.int n), some (.ref aY), some (.ref p), o5, o6, o7, o8], ?_, ?_⟩
    · refine ⟨_, rfl, aRow, _, _, _, rfl, rfl, (s0).seq hRow, ix 0 _ rfl, rfl, _, rfl, ?_⟩
      refine ite2 (fun _ => ?_) (fun _ => ⟨s0, O0, _, _, _, _, rfl⟩)
      obtain ⟨v1, v2, qo, dd1, dd2, us, es, z1, z2, z3, z4, z5, z6, z7⟩ := O0.ex
      refine ⟨_, rfl, aRow, _, _, _, rfl, rfl, (s0).seq hRow, ix 8 _ rfl, d8, rfl, b8, fun c hc => ?_⟩
      refine ⟨(by show 1 ≤ sizeLine; decide), fun q1 hq1 => ?_⟩
      refine ⟨(by show 2 ≤ sizeLine; decide), fun q2 hq2 => ?_⟩
      refine ⟨(by show 12 ≤ sizeLine; decide), fun q3 hq3 => ?_⟩
      have lc : (⟨#[c]⟩ : PySem.Str).length = 1 := rfl
      have l1 : (l ++ ⟨#[c]⟩ : PySem.Str).length = l.length + 1 := by show (l.cps ++ #[c]).size = _; rw [Array.size_append]; rfl
      have l2 : ((⟨#[c]⟩ : PySem.Str) ++ l).length = 1 + l.length := by show (#[c] ++ l.cps).size = _; rw [Array.size_append]; rfl
      have lz : l.length + 1 ≤ sizeLine := Nat.le_trans (show _ ≤ 901 by omega) (by decide)
      refine ⟨_, rfl, _, rfl, _, rfl, _, _, rfl, rfl, lz, _, rfl, _, rfl, _, _, rfl, rfl, (by rw [lc]; omega), _, rfl, (by show 3 ≤ sizeLine; decide), fun q4 hq4 => ?_⟩
      refine ⟨q3, q4, _, _, rfl, rfl, same_new hq4 _ _ upd_same, upd_same, (by show 15 ≤ sizeLine; decide), fun q5 hq5 => ?_⟩
      have nq1 : q1 ≠ p := fun e => by rw [e, z1] at hq1; cases hq1
      have nq2 : q2 ≠ p := fun e => by rw [e, same_new hq1 _ _ z1] at hq2; cases hq2
      have s2 : Same Ha (upd (upd (upd (upd (upd Ha q1 (.lst [.str "a"])) q2 (.tup [.str "a", .str "b"])) q3 (.lst [.str "", .str "ba", .str "aa", .str "aB", .str "a1", .non, .int 5, .ref q1, .str "abcdefghijklmnopqrstuvwxyz", .str "a b", .str "z", .ref q2])) q4 (.lst [.str (l ++ ⟨#[c]⟩), .str (⟨#[c]⟩ ++ l), .str ⟨#[c]⟩])) q5 (.lst ([.str "", .str "ba", .str "aa", .str "aB", .str "a1", .non, .int 5, .ref q1, .str "abcdefghijklmnopqrstuvwxyz", .str "a b", .str "z", .ref q2] ++ [.str (l ++ ⟨#[c]⟩), .str (⟨#[c]⟩ ++ l), .str ⟨#[c]⟩]))) := ((((same_new hq1).trans (same_new hq2)).trans (same_new hq3)).trans (same_new hq4)).trans (same_new hq5)
      have g : DpAll K (hide p (upd (upd (upd (upd (upd Ha q1 (.lst [.str "a"])) q2 (.tup [.str "a", .str "b"])) q3 (.lst [.str "", .str "ba", .str "aa", .str "aB", .str "a1", .non, .int 5, .ref q1, .str "abcdefghijklmnopqrstuvwxyz", .str "a b", .str "z", .ref q2])) q4 (.lst [.str (l ++ ⟨#[c]⟩), .str (⟨#[c]⟩ ++ l), .str ⟨#[c]⟩])) q5 (.lst ([.str "", .str "ba", .str "aa", .str "aB", .str "a1", .non, .int 5, .ref q1, .str "abcdefghijklmnopqrstuvwxyz", .str "a b", .str "z", .ref q2] ++ [.str (l ++ ⟨#[c]⟩), .str (⟨#[c]⟩ ++ l), .str ⟨#[c]⟩])))) ([.str "", .str "ba", .str "aa", .str "aB", .str "a1", .non, .int 5, .ref q1, .str "abcdefghijklmnopqrstuvwxyz", .str "a b", .str "z", .ref q2] ++ [.str (l ++ ⟨#[c]⟩), .str (⟨#[c]⟩ ++ l), .str ⟨#[c]⟩]) [.str "", .str "ba", .str "aa", .str "aB", .str "a1", .none, .int 5, .list [.str "a"], .str "abcdefghijklmnopqrstuvwxyz", .str "a b", .str "z", .tuple [.str "a", .str "b"], .str (l ++ ⟨#[c]⟩), .str (⟨#[c]⟩ ++ l), .str ⟨#[c]⟩] := (.cons (.str _) (.cons (.str _) (.cons (.str _) (.cons (.str _) (.cons (.str _) (.cons (.non) (.cons (.int _) (.cons (dp_l1 ((hide_ne nq1).trans (same_new hq5 _ _ (same_new hq4 _ _ (same_new hq3 _ _ (same_new hq2 _ _ upd_same))))) (.str _)) (.cons (.str _) (.cons (.str _) (.cons (.str _) (.cons (.tup (SqT.of ((hide_ne nq2).trans (same_new hq5 _ _ (same_new hq4 _ _ (same_new hq3 _ _ upd_same))))) (.cons (.str _) (.cons (.str _) .nil))) (.cons (.str _) (.cons (.str _) (.cons (.str _) .nil)))))))))))))))
      have sh : ∀ x ∈ ([.str "", .str "ba", .str "aa", .str "aB", .str "a1", .none, .int 5, .list [.str "a"], .str "abcdefghijklmnopqrstuvwxyz", .str "a b", .str "z", .tuple [.str "a", .str "b"], .str (l ++ ⟨#[c]⟩), .str (⟨#[c]⟩ ++ l), .str ⟨#[c]⟩] : List PyData), Short 1000 x := (all_cons (short_str (by decide +kernel)) (all_cons (short_str (by decide +kernel)) (all_cons (short_str (by decide +kernel)) (all_cons (short_str (by decide +kernel)) (all_cons (short_str (by decide +kernel)) (all_cons short_non (all_cons short_int (all_cons short_lst (all_cons (short_str (by decide +kernel)) (all_cons (short_str (by decide +kernel)) (all_cons (short_str (by decide +kernel)) (all_cons (fun y e => nomatch e) (all_cons (short_str (by omega)) (all_cons (short_str (by omega)) (all_cons (short_str (by omega)) all_nil)))))))))))))))
      obtain ⟨v, d, ev, md, hv⟩ := pick_of g b3
      obtain ⟨xs, e1, e2, O3⟩ := (O0.mono s2).set0 hv (sh d md)
      exact ⟨_, rfl, aRow, _, _, _, rfl, rfl, (s0.trans s2).seq hRow, ix 3 _ rfl, q5, _, _, _, rfl, rfl, SqL.of upd_same, atI_nat ev, _, rfl, p, xs, 0, 0, rfl, rfl, e1, e2, same_mut (s0.trans s2) hpH, O3, _, _, _, _, rfl⟩
    rintro σ' Hb ⟨sb, Ob, o5, o6, o7, o8, rfl⟩
    refine ⟨fun σ' H' => Same H H' ∧ OddAt K H' p ∧ ∃ o5 o6 o7 o8 : Option V, σ' = [some (.ref aRow), some (.str l), some (.int n), some (.ref aY), some (.ref p), o5, o6, o7, o8], ?_, ?_⟩
    · refine ⟨_, rfl, aRow, _, _, _, rfl, rfl, (sb).seq hRow, ix 1 _ rfl, rfl, _, rfl, ?_⟩
      refine ite2 (fun _ => ?_) (fun _ => ⟨sb, Ob, _, _, _, _, rfl⟩)
      refine ⟨_, rfl, (by show 1 ≤ sizeLine; decide), fun q1 hq1 => ?_⟩
      refine ⟨_, _, rfl, rfl, Sx.powG_of (a := 4) (k := 20) (by decide) (by decide), (by show 12 ≤ sizeLine; decide), fun q2 hq2 => ?_⟩
      have nq1 : q1 ≠ p := fun e => by
        obtain ⟨_, _, _, _, _, _, _, z, _⟩ := Ob.ex
        rw [e, z] at hq1; cases hq1
      have s2 : Same Hb (upd (upd Hb q1 (.lst [.int 4])) q2 (.lst [.int 0, .int (-1), .int 2001, .bl true, .non, .str "3", .int 1, .int 2000, .ref q1, .int (10 ^ (20 : Int).toNat), .int 2, .bl false])) := (same_new hq1).trans (same_new hq2)
      have g : DpAll K (hide p (upd (upd Hb q1 (.lst [.int 4])) q2 (.lst [.int 0, .int (-1), .int 2001, .bl true, .non, .str "3", .int 1, .int 2000, .ref q1, .int (10 ^ (20 : Int).toNat), .int 2, .bl false]))) [.int 0, .int (-1), .int 2001, .bl true, .non, .str "3", .int 1, .int 2000, .ref q1, .int (10 ^ (20 : Int).toNat), .int 2, .bl false] [.int 0, .int (-1), .int 2001, .bool true, .none, .str "3", .int 1, .int 2000, .list [.int 4], .int (10 ^ (20 : Int).toNat), .int 2, .bool false] := (.cons (.int _) (.cons (.int _) (.cons (.int _) (.cons (.bl _) (.cons (.non) (.cons (.str _) (.cons (.int _) (.cons (.int _) (.cons (dp_l1 ((hide_ne nq1).trans (same_new hq2 _ _ upd_same)) (.int _)) (.cons (.int _) (.cons (.int _) (.cons (.bl _) .nil))))))))))))
      have sh : ∀ x ∈ ([.int 0, .int (-1), .int 2001, .bool true, .none, .str "3", .int 1, .int 2000, .list [.int 4], .int (10 ^ (20 : Int).toNat), .int 2, .bool false] : List PyData), Short 1000 x := (all_cons short_int (all_cons short_int (all_cons short_int (all_cons short_bl (all_cons short_non (all_cons (short_str (by decide +kernel)) (all_cons short_int (all_cons short_int (all_cons short_lst (all_cons short_int (all_cons short_int (all_cons short_bl all_nil))))))))))))
      obtain ⟨v, d, ev, md, hv⟩ := pick_of g b4
      have ly : Lay 1 d := (lcons lay_int (lcons lay_int (lcons lay_int (lcons lay_bl (lcons lay_non (lcons (lay_str (by decide +kernel)) (lcons lay_int (lcons lay_int (lcons (lay_list (lay_one lay_int)) (lcons lay_int (lcons lay_int (lcons lay_bl lnil)))))))))))) d md
      obtain ⟨xs, e1, e2, O3⟩ := (Ob.mono s2).set1 hv ly
      exact ⟨_, rfl, aRow, _, _, _, rfl, rfl, (sb.trans s2).seq hRow, ix 4 _ rfl, q2, _, _, _, rfl, rfl, SqL.of upd_same, atI_nat ev, _, rfl, p, xs, 1, 1, rfl, rfl, e1, e2, same_mut (sb.trans s2) hpH, O3, _, _, _, _, rfl⟩
    rintro σ' Hc ⟨sc, Oc, o5, o6, o7, o8, rfl⟩
    refine ⟨fun σ' H' => Same H H' ∧ OddAt K H' p ∧ ∃ o5 o6 o7 o8 : Option V, σ' = [some (.ref aRow), some (.str l), some (.int n), some (.ref aY), some (.ref p), o5, o6, o7, o8], ?_, ?_⟩
    · refine ⟨_, rfl, aRow, _, _, _, rfl, rfl, (sc).seq hRow, ix 2 _ rfl, rfl, _, rfl, ?_⟩
      refine ite2 (fun _ => ?_) (fun _ => ⟨sc, Oc, _, _, _, _, rfl⟩)
      obtain ⟨v1, v2, qo, dd1, dd2, us, es, z1, z2, z3, z4, z5, z6, z7⟩ := Oc.ex
      refine ⟨_, rfl, p, _, _, _, rfl, rfl, SqL.of z1, (show atI [v1, v2, V.ref qo] (((1 : Nat) : Nat) : Int) = some v2 from atI_nat (j := 1) rfl), _, rfl, (by show 1 ≤ sizeLine; decide), fun q1 hq1 => ?_⟩
      refine ⟨_, _, rfl, rfl, Sx.powG_of (a := 4) (k := 20) (by decide) (by decide), (by show 1 ≤ sizeLine; decide), fun q2 hq2 => ?_⟩
      refine ⟨(by show 12 ≤ sizeLine; decide), fun q3 hq3 => ?_⟩
      have nq1 : q1 ≠ p := fun e => by rw [e, z1] at hq1; cases hq1
      have nq2 : q2 ≠ p := fun e => by rw [e, same_new hq1 _ _ z1] at hq2; cases hq2
      have s2 : Same Hc (upd (upd (upd Hc q1 (.lst [.int 0])) q2 (.tup [.int 0])) q3 (.lst [v2, .int (-1), .bl true, .non, .str "0", .int 0, .int 2000, .ref q1, .bl false, .int 1999, .int (10 ^ (20 : Int).toNat), .ref q2])) := ((same_new hq1).trans (same_new hq2)).trans (same_new hq3)
      have g : DpAll K (hide p (upd (upd (upd Hc q1 (.lst [.int 0])) q2 (.tup [.int 0])) q3 (.lst [v2, .int (-1), .bl true, .non, .str "0", .int 0, .int 2000, .ref q1, .bl false, .int 1999, .int (10 ^ (20 : Int).toNat), .ref q2]))) [v2, .int (-1), .bl true, .non, .str "0", .int 0, .int 2000, .ref q1, .bl false, .int 1999, .int (10 ^ (20 : Int).toNat), .ref q2] [dd2, .int (-1), .bool true, .none, .str "0", .int 0, .int 2000, .list [.int 0], .bool false, .int 1999, .int (10 ^ (20 : Int).toNat), .tuple [.int 0]] := (.cons (dp_mono (hide_mono s2) _ _ z4) (.cons (.int _) (.cons (.bl _) (.cons (.non) (.cons (.str _) (.cons (.int _) (.cons (.int _) (.cons (dp_l1 ((hide_ne nq1).trans (same_new hq3 _ _ (same_new hq2 _ _ upd_same))) (.int _)) (.cons (.bl _) (.cons (.int _) (.cons (.int _) (.cons (.tup (SqT.of ((hide_ne nq2).trans (same_new hq3 _ _ upd_same))) (.cons (.int _) .nil)) .nil))))))))))))
      obtain ⟨v, d, ev, md, hv⟩ := pick_of g b6
      have z8 := z7.2.1
      have ly : Lay 1 d := (lcons z8 (lcons lay_int (lcons lay_bl (lcons lay_non (lcons (lay_str (by decide +kernel)) (lcons lay_int (lcons lay_int (lcons (lay_list (lay_one lay_int)) (lcons lay_bl (lcons lay_int (lcons lay_int (lcons (lay_tup (lay_one lay_int)) lnil)))))))))))) d md
      refine ⟨_, rfl, aRow, _, _, _, rfl, rfl, (sc.trans s2).seq hRow, ix 6 _ rfl, q3, _, _, _, rfl, rfl, SqL.of upd_same, atI_nat ev, ?_⟩
      have O2 := Oc.mono s2
      have hp2 : (upd (upd (upd Hc q1 (.lst [.int 0])) q2 (.tup [.int 0])) q3 (.lst [v2, .int (-1), .bl true, .non, .str "0", .int 0, .int 2000, .ref q1, .bl false, .int 1999, .int (10 ^ (20 : Int).toNat), .ref q2])) p = some (.lst [v1, v2, .ref qo]) := s2 _ _ z1
      have sE := sc.trans s2
      generalize (upd (upd (upd Hc q1 (.lst [.int 0])) q2 (.tup [.int 0])) q3 (.lst [v2, .int (-1), .bl true, .non, .str "0", .int 0, .int 2000, .ref q1, .bl false, .int 1999, .int (10 ^ (20 : Int).toNat), .ref q2])) = He at sE O2 hv hp2 ⊢
      clear s2 g
      refine ⟨_, rfl, aRow, _, _, _, rfl, rfl, (sE).seq hRow, ix 5 _ rfl, .inl ⟨_, rfl, _, rfl, aY, _, rfl, .inl (sE.seq hY), _, _, rfl, rfl, _, _, rfl, rfl, (by show (0 : Int) < (((ys.map V.int).length : Nat) : Int) + 1; omega), ?_⟩⟩
      generalize ((d5 : Nat) : Int) % ((((ys.map V.int).length : Nat) : Int) + 1) = at5
      refine ⟨_, rfl, _, rfl, _, rfl, aY, _, rfl, sE.seq hY, fun q4 hq4 => ?_⟩
      refine ⟨_, rfl, (by show 1 ≤ sizeLine; decide), fun q5 hq5 => ?_⟩
      refine ⟨q4, q5, _, _, rfl, rfl, same_new hq5 _ _ upd_same, upd_same, ?_, fun q6 hq6 => ?_⟩
      · have := cutV_le (ys.map V.int) none (some (((d5 : Nat) : Int) % ((((ys.map V.int).length : Nat) : Int) + 1)))
        have lm : (ys.map V.int).length = ys.length := List.length_map ..
        refine Nat.le_trans (show _ ≤ 2001 from ?_) (by decide)
        show _ + 1 ≤ 2001
        omega
      have s6 := ((same_new (o := .lst (cutV (ys.map V.int) none (some (((d5 : Nat) : Int) % ((((ys.map V.int).length : Nat) : Int) + 1))))) hq4).trans (same_new (o := .lst [v]) hq5)).trans (same_new (o := .lst (cutV (ys.map V.int) none (some (((d5 : Nat) : Int) % ((((ys.map V.int).length : Nat) : Int) + 1))) ++ [v])) hq6)
      refine ⟨_, rfl, _, rfl, _, rfl, aY, _, rfl, (sE.trans s6).seq hY, fun q7 hq7 => ?_⟩
      have s7 := s6.trans (same_new (o := .lst (cutV (ys.map V.int) (some (((d5 : Nat) : Int) % ((((ys.map V.int).length : Nat) : Int) + 1))) none)) hq7)
      refine ⟨q6, q7, _, _, rfl, rfl, same_new hq7 _ _ upd_same, upd_same, ?_, fun q8 hq8 => ?_⟩
      · have h1' := cutV_le (ys.map V.int) none (some (((d5 : Nat) : Int) % ((((ys.map V.int).length : Nat) : Int) + 1)))
        have h2' := cutV_le (ys.map V.int) (some (((d5 : Nat) : Int) % ((((ys.map V.int).length : Nat) : Int) + 1))) none
        have lm : (ys.map V.int).length = ys.length := List.length_map ..
        refine Nat.le_trans (show _ ≤ 5001 from ?_) (by decide)
        rw [List.length_append]
        show _ + 1 + _ ≤ 5001
        omega
      have nq8 : q8 ≠ p := fun e => by rw [e, s7 _ _ hp2] at hq8; cases hq8
      obtain ⟨zs1, g1, l1⟩ := dpa_cutI (K := K) ys none (some (((d5 : Nat) : Int) % ((((ys.map V.int).length : Nat) : Int) + 1)))
      obtain ⟨zs2, g2, l2⟩ := dpa_cutI (K := K) ys (some (((d5 : Nat) : Int) % ((((ys.map V.int).length : Nat) : Int) + 1))) none
      have s8 := s7.trans (same_new (o := .lst ((cutV (ys.map V.int) none (some (((d5 : Nat) : Int) % ((((ys.map V.int).length : Nat) : Int) + 1))) ++ [v]) ++ cutV (ys.map V.int) (some (((d5 : Nat) : Int) % ((((ys.map V.int).length : Nat) : Int) + 1))) none)) hq8)
      have sp := cutV_split (ys.map V.int) (((d5 : Nat) : Int) % ((((ys.map V.int).length : Nat) : Int) + 1))
      have lm : (ys.map V.int).length = ys.length := List.length_map ..
      obtain ⟨xs, e1, e2, O9⟩ := (O2.mono s8).set2 (q' := q8) ((hide_ne nq8).trans upd_same) (dpa_append (dpa_append (g1 _) (dpa_one (dp_mono (hide_mono s8) _ _ hv))) (g2 _)) (by rw [List.length_append, List.length_append, List.length_map, List.length_map]; show _ + 1 + _ ≤ 2001; omega) (fun x mx => by
        rcases List.mem_append.mp mx with mx | mx
        · rcases List.mem_append.mp mx with mx | mx
          · exact lays_int _ x mx
          · rw [List.mem_singleton.mp mx]; exact ly
        · exact lays_int _ x mx)
      exact ⟨_, rfl, p, xs, 2, 2, rfl, rfl, e1, e2, same_mut (sE.trans s8) hpH, O9, _, _, _, _, rfl⟩
    rintro σ' Hd ⟨sd, Od, o5, o6, o7, o8, rfl⟩
    exact ⟨_, rfl, k p Hd sd hpH Od⟩
end
end Mk

set_option Elab.async false
set_option linter.unusedVariables false
set_option maxRecDepth 100000
set_option maxHeartbeats 16000000
namespace Mk
open PySem L2 Pk
abbrev sSpoilt : Stmt := top 76
abbrev nSpoilt : List PySem.Str := ["rule", "row", "letters", "states", "pool", "values", "spot", "word", "at", "value"]
theorem scSpoilt : FnScope nSpoilt ["rule", "row", "letters", "states", "pool"] (defScope sSpoilt) := ⟨rfl, rfl, rfl, by decide +kernel, rfl, by decide +kernel, by decide +kernel⟩
/-- a value of data, its texts short; a tuple stands as one -/
structure SpI (K : PySem.W.Frag) (H : Hp) (v : V) (d : PyData) : Prop where
  dp : Dp K H v d
  fine : ∀ ds, items d = some ds → ∀ x ∈ ds, Fine x
  lay : Lay 3 d
  raw : ∀ ds, d = .tuple ds → ∃ (a : Addr) (xs : List V), v = .ref a ∧ H a = some (.tup xs) ∧ DpAll K H xs ds
theorem SpI.mono {K : PySem.W.Frag} {H H' : Hp} {v : V} {d : PyData} (h : SpI K H v d) (e : Same H H') : SpI K H' v d :=
  ⟨dp_mono e _ _ h.dp, h.fine, h.lay, fun ds z => by obtain ⟨a, xs, e1, e2, e3⟩ := h.raw ds z; exact ⟨a, xs, e1, e _ _ e2, dpa_mono e _ _ e3⟩⟩
theorem spi_tup {K : PySem.W.Frag} {H : Hp} {a : Addr} {xs : List V} {ds : List PyData} (e : H a = some (.tup xs)) (g : DpAll K H xs ds) (s : ∀ x ∈ ds, Fine x) : SpI K H (.ref a) (.tuple ds) :=
  ⟨.tup (SqT.of e) g, fun ds' e' => (by cases e'; exact s), lay_tup fun x m => (s x m).2, fun ds' e' => (by cases e'; exact ⟨a, xs, rfl, e, g⟩)⟩
theorem spi_one {K : PySem.W.Frag} {H : Hp} {v : V} {d : PyData} (g : Dp K H v d) (e : items d = none) (t : isTupT d = false) (l : Lay 3 d := by first | exact lay_int | exact lay_bl | exact lay_non | exact lay_str (by decide +kernel)) : SpI K H v d :=
  ⟨g, fun ds' e' => (by rw [e] at e'; cases e'), l, fun ds' e' => (by rw [e'] at t; cases t)⟩
def SpL (K : PySem.W.Frag) (H : Hp) : List V → List PyData → Prop
  | [], [] => True
  | v :: vs, d :: ds => SpI K H v d ∧ SpL K H vs ds
  | _, _ => False
theorem spl_pick {K : PySem.W.Frag} {H : Hp} : ∀ {vs : List V} {ds : List PyData} {i : Nat}, SpL K H vs ds → i < vs.length → ∃ v d, vs[i]? = some v ∧ SpI K H v d
  | [], _, i, _, lt => absurd lt (Nat.not_lt_zero _)
  | v :: vs, [], i, h, lt => h.elim
  | v :: vs, d :: ds, 0, h, lt => ⟨v, d, rfl, h.1⟩
  | v :: vs, d :: ds, i + 1, h, lt => by
    obtain ⟨v', d', e, g⟩ := spl_pick (i := i) h.2 (by rw [List.length_cons] at lt; omega)
    exact ⟨v', d', by rw [List.getElem?_cons_succ]; exact e, g⟩
theorem ixN_natP {n j : Nat} (hj : j < n) : ixN n (j : Int) = some j := by
  unfold ixN
  rw [if_pos (by omega), if_pos (by omega), Int.toNat_natCast]
theorem dpa_cut {K : PySem.W.Frag} {H : Hp} {vs : List V} {ds : List PyData} (h : DpAll K H vs ds) (lo hi : Option Int) : ∃ fs, DpAll K H (cutV vs lo hi) fs ∧ ∀ x ∈ fs, x ∈ ds := by
  unfold cutV
  generalize HT.sIx vs.length 0 lo = a
  generalize HT.sIx vs.length vs.length hi - a = b
  have dr : ∀ (a : Nat) {vs : List V} {ds : List PyData}, DpAll K H vs ds → DpAll K H (vs.drop a) (ds.drop a) := by
    intro a
    induction a with
    | zero => exact fun h => h
    | succ a ih =>
      intro vs ds h
      cases h with
      | nil => exact .nil
      | cons _ h => exact ih h
  have tk : ∀ (b : Nat) {vs : List V} {ds : List PyData}, DpAll K H vs ds → DpAll K H (vs.take b) (ds.take b) := by
    intro b
    induction b with
    | zero => exact fun _ => .nil
    | succ b ih =>
      intro vs ds h
      cases h with
      | nil => exact .nil
      | cons g h => exact .cons g (ih h)
  exact ⟨_, tk b (dr a h), fun x m => List.mem_of_mem_drop (List.mem_of_mem_take m)⟩
theorem dpa_set {K : PySem.W.Frag} {H : Hp} {v : V} {d : PyData} (g : Dp K H v d) : ∀ {vs : List V} {ds : List PyData} (i : Nat), DpAll K H vs ds → DpAll K H (vs.set i v) (ds.set i d)
  | _, _, _, .nil => .nil
  | _, _, 0, .cons _ h => .cons g h
  | _, _, i + 1, .cons h0 h => .cons h0 (dpa_set g i h)
theorem mem_set {α : Type} {x y : α} : ∀ {l : List α} {i : Nat}, x ∈ l.set i y → x = y ∨ x ∈ l
  | [], _, h => by cases h
  | a :: l, 0, h => by
    rcases List.mem_cons.mp h with h | h
    · exact .inl h
    · exact .inr (List.mem_cons_of_mem _ h)
  | a :: l, i + 1, h => by
    rcases List.mem_cons.mp h with h | h
    · exact .inr (by rw [h]; exact List.mem_cons_self)
    · rcases mem_set (l := l) (i := i) h with h | h
      · exact .inl h
      · exact .inr (List.mem_cons_of_mem _ h)
/-- eight values of data in their own list -/
structure ValsAt (K : PySem.W.Frag) (H : Hp) (p : Addr) : Prop where
  ex : ∃ (us : List V) (es : List PyData), H p = some (.lst us) ∧ DpAll K (hide p H) us es ∧ es.length = 8 ∧ ∀ x ∈ es, Fine x
theorem ValsAt.mono {K : PySem.W.Frag} {H H' : Hp} {p : Addr} (h : ValsAt K H p) (e : Same H H') : ValsAt K H' p := by
  obtain ⟨us, es, h1, h2, h3, h4⟩ := h.ex
  exact ⟨us, es, e _ _ h1, dpa_mono (hide_mono e) _ _ h2, h3, h4⟩
theorem ValsAt.set {K : PySem.W.Frag} {H : Hp} {p : Addr} {v : V} {d : PyData} (h : ValsAt K H p) (j : Nat) (lt : j < 8) (g : Dp K (hide p H) v d) (s : Fine d) :
    ∃ xs, H p = some (.lst xs) ∧ ixN xs.length (j : Int) = some j ∧ ValsAt K (upd H p (.lst (xs.set j v))) p := by
  obtain ⟨us, es, h1, h2, h3, h4⟩ := h.ex
  refine ⟨us, h1, ixN_natP (by rw [dpa_len h2, h3]; exact lt), _, es.set j d, upd_same, by rw [hide_upd]; exact dpa_set g j h2, by rw [List.length_set, h3], fun x m => ?_⟩
  rcases mem_set m with m | m
  · rw [m]; exact s
  · exact h4 x m
theorem ValsAt.get {K : PySem.W.Frag} {H : Hp} {p : Addr} (h : ValsAt K H p) {j : Nat} (lt : j < 8) : ∃ xs v d, H p = some (.lst xs) ∧ atI xs (j : Int) = some v ∧ Dp K H v d ∧ Fine d := by
  obtain ⟨us, es, h1, h2, h3, h4⟩ := h.ex
  obtain ⟨v, d, e1, e2, e3⟩ := pick_of (i := j) h2 (by rw [dpa_len h2, h3]; exact lt)
  exact ⟨us, v, d, h1, atI_nat e1, dp_mono hide_le _ _ e3, h4 d e2⟩
/-- H0, and what is new since H -/
def over (H0 H H' : Hp) : Hp := fun b => match H b with
  | none => H' b
  | some _ => H0 b
theorem none_back {H H' : Hp} {a : Addr} (s : Same H H') (e : H' a = none) : H a = none := by
  cases c : H a with
  | none => rfl
  | some o => rw [s _ _ c] at e; cases e
theorem over_base {H0 H H' : Hp} (s : Same H0 H) : Same H0 (over H0 H H') := fun b o e => by
  unfold over
  rw [s _ _ e]
  exact e
theorem over_at {H0 H H' : Hp} {b : Addr} (n : H b = none) : over H0 H H' b = H' b := by
  unfold over
  rw [n]
theorem over_new {H0 H H' : Hp} {b : Addr} {o : HO} (n : H b = none) (e : H' b = some o) : over H0 H H' b = some o := (over_at n).trans e
theorem over_mono {H0 H H1 H2 : Hp} (s : Same H1 H2) : Same (over H0 H H1) (over H0 H H2) := fun b o e => by
  unfold over at e ⊢
  cases c : H b with
  | none =>
    rw [c] at e
    exact s _ _ e
  | some u =>
    rw [c] at e
    exact e
theorem over_upd {H0 H H1 : Hp} {D : Addr} {o : HO} (n : H D = none) : over H0 H (upd H1 D o) = upd (over H0 H H1) D o := by
  funext b
  by_cases c : b = D
  · rw [c, over_at n, upd_same, upd_same]
  · rw [upd_ne c]
    unfold over
    cases H b with
    | none => exact upd_ne c
    | some u => rfl
theorem over_le {H0 H H' : Hp} (s0 : Same H0 H) (s : Same H H') : Same (over H0 H H') H' := fun b o e => by
  unfold over at e
  cases c : H b with
  | none => rw [c] at e; exact e
  | some u => rw [c] at e; exact s _ _ (s0 _ _ e)
theorem over_hide {H H' : Hp} {q : Addr} {o : HO} (h : H q = some o) (s : Same H H') : Same (over (hide q H) H H') (hide q H') := fun b u e => by
  unfold over at e
  cases c : H b with
  | none =>
    rw [c] at e
    rw [hide_ne (fun z => by rw [z, h] at c; cases c)]
    exact e
  | some y =>
    rw [c] at e
    exact hide_mono s _ _ e
theorem newOnly_over {H0 H H1 H2 : Hp} {D : Addr} {o : HO} (s : Same H H1) (hD : H1 D = some o) : Same (newOnly H1 H2) (hide D (over H0 H H2)) := fun b u e => by
  unfold newOnly at e
  cases c : H1 b with
  | none =>
    rw [c] at e
    rw [hide_ne (fun z => by rw [z, hD] at c; cases c)]
    exact over_new (none_back s c) e
  | some y => rw [c] at e; cases e
theorem ValsAt.put {K : PySem.W.Frag} {H0 H H1 : Hp} {p : Addr} {v : V} {d : PyData} (h : ValsAt K (over H0 H H1) p) (n : H p = none) (j : Nat) (lt : j < 8) (g : Dp K (hide p (over H0 H H1)) v d) (s : Fine d) :
    ∃ xs, H1 p = some (.lst xs) ∧ ixN xs.length (j : Int) = some j ∧ ValsAt K (over H0 H (upd H1 p (.lst (xs.set j v)))) p := by
  obtain ⟨xs, e1, e2, e3⟩ := h.set j lt g s
  rw [over_at n] at e1
  exact ⟨xs, e1, e2, by rw [over_upd n]; exact e3⟩
theorem ValsAt.see {K : PySem.W.Frag} {H0 H H1 : Hp} {p : Addr} (h : ValsAt K (over H0 H H1) p) (n : H p = none) (s0 : Same H0 H) (s : Same H H1) {j : Nat} (lt : j < 8) : ∃ xs v d, H1 p = some (.lst xs) ∧ atI xs (j : Int) = some v ∧ Dp K H1 v d ∧ Fine d := by
  obtain ⟨xs, v, d, e1, e2, e3, e4⟩ := h.get lt
  rw [over_at n] at e1
  exact ⟨xs, v, d, e1, e2, dp_mono (over_le s0 s) _ _ e3, e4⟩
/-- a text of a written list, by a remainder -/
theorem pick_strs {xs : List PySem.Str} {i : Int} (h0 : 0 ≤ i) (h1 : i < (xs.length : Int)) : ∃ x ∈ xs, atI (xs.map V.str) i = some (.str x) := by
  obtain ⟨j, rfl⟩ : ∃ j : Nat, i = (j : Int) := ⟨i.toNat, by omega⟩
  refine ⟨xs[j]'(by omega), List.getElem_mem _, atI_nat ?_⟩
  rw [List.getElem?_map, List.getElem?_eq_getElem (by omega)]
  rfl
theorem pick_ints {xs : List Int} {i : Int} (h0 : 0 ≤ i) (h1 : i < (xs.length : Int)) : ∃ x ∈ xs, atI (xs.map V.int) i = some (.int x) := by
  obtain ⟨j, rfl⟩ : ∃ j : Nat, i = (j : Int) := ⟨i.toNat, by omega⟩
  refine ⟨xs[j]'(by omega), List.getElem_mem _, atI_nat ?_⟩
  rw [List.getElem?_map, List.getElem?_eq_getElem (by omega)]
  rfl
theorem all_strs {xs : List PySem.Str} (h : ∀ x ∈ xs, SOk x) : ∀ x ∈ xs, Fine (.str x) := fun x m => fine_str (h x m)
theorem soks {xs : List PySem.Str} (h : xs.all (fun x => decide (x.length ≤ 1000) && PyData.strOk x) = true) : ∀ x ∈ xs, SOk x := fun x m => sok_lit (List.all_eq_true.mp h x m)
theorem str_add_len (a b : PySem.Str) : (a ++ b).length = a.length + b.length := by show (a.cps ++ b.cps).size = _; rw [Array.size_append]; rfl
theorem cutS_two (z : PySem.Str) : (cutS z none (some 2)).length ≤ 2 := by
  unfold cutS
  show (List.toArray _).size ≤ 2
  rw [List.size_toArray, List.length_take]
  have e : HT.sIx z.cps.toList.length z.cps.toList.length (some ((2 : Nat) : Int)) = min 2 z.cps.toList.length := HT.sIx_nat _ _ _
  have e2 : ∀ n : Nat, HT.sIx n n (some 2) ≤ 2 := fun n => by
    have := HT.sIx_nat n n 2
    rw [show ((2 : Nat) : Int) = 2 from rfl] at this
    omega
  exact Nat.le_trans (Nat.min_le_left _ _) (Nat.le_trans (Nat.sub_le _ _) (e2 _))
section
variable {P : Program} {w : World} {K : PySem.W.Frag} {mg : PySem.Str → Option Value} {base : Heap}
structure SpoiltDefs (P : Program) (w : World) (K : PySem.W.Frag) (mg : PySem.Str → Option Value) (base : Heap) : Prop where
  odd : Got P w K mg base "_law_odd_part" 1 ["part", "pick", "letters", "states", "pool", "letter"] (spOdd K)
  strange : Got P w K mg base "_law_strange" 1 ["digit"] spStrange
def spSpoilt (K : PySem.W.Frag) : Sp := fun vs H Q _ => ∃ (H0 : Hp) (v : V) (d : PyData) (aRow : Addr) (l : PySem.Str) (n : Int) (aP : Addr) (xs : List PySem.Str) (d0 d1 d2 d3 d4 : Nat), vs = [v, .ref aRow, .str l, .int n, .ref aP] ∧ Same H0 H ∧ SpI K H0 v d ∧
  SqL K H aRow [.int (d0 : Int), .int (d1 : Int), .int (d2 : Int), .int (d3 : Int), .int (d4 : Int)] ∧ d1 < 18 ∧ d2 < 12 ∧ d3 < 26 ∧ d4 < 30 ∧ SOk l ∧ SqL K H aP (xs.map V.str) ∧ xs.length = 5 ∧ (∀ x ∈ xs, SOk x) ∧
  ∀ (v' : V) (d' : PyData) (H' : Hp), Same H H' → SpI K (over H0 H H') v' d' → Q v' H'
theorem ok_spoilt {f : Addr} {fd : FuncData} (F : Fun K "_law_spoilt" "_law_spoilt" sSpoilt f fd) (T : TM mg) (G : SpoiltDefs P w K mg base) : FnOk P w K mg base CX0 2 f fd ["rule", "row", "letters", "states", "pool"] (spSpoilt K) := by
  refine F.ok scSpoilt (fun vs H Q E h => ?_) (fun cdv A outer s H vs Q E hr h => ?_)
  · obtain ⟨H0, v, d, aRow, l, n, aP, xs, d0, d1, d2, d3, d4, rfl, _⟩ := h
    rfl
  · obtain ⟨H0, v, d, aRow, l, n, aP, ps, d0, d1, d2, d3, d4, rfl, s0, hv, hRow, b1, b2, b3, b4, ll, hP, lP, sP, k⟩ := h
    have nd := scSpoilt.nd
    have h1 := hr
    refine ⟨_, (C8.pss_cut (ps_if (PW.pt (pw_or (pt_not (pt_val (pe_callB call_isi (by rfl) T.isi (by decide +kernel) (pa_cons (pv 0) (pa_cons (pe_bltn (v := .ty "tuple") (by rfl) T.tuple PyProof.Rows.Boot.tuple rfl) pa_nil))))) (pw_or1 (pt_cmpR op_ne (pe_callB call_len_seq (by rfl) T.len PySem.boot_len (pa_cons (pv 0) pa_nil)) pe_int (nomark _)))))
        (pss_one (ps_ret (pv 0)))
        pss_nil)
      (C8.pss_cut (ps_if (pt_cmpR op_eq (pe_ix ix_list (pv 1) pe_int fun _ _ => rfl) pe_int (nomark _))
        (pss_one (ps_ret (pe_ix ix_list (pe_lst (pa_cons pe_non (pa_cons pe_int (pa_cons pe_str (pa_cons (pe_tup pa_nil) (pa_cons pe_bl (pa_cons pe_str (pa_cons pe_int (pa_cons (pe_tup (pa_cons pe_str pa_nil)) (pa_cons (pe_tup (pa_cons (pe_tup (pa_cons pe_int (pa_cons pe_str pa_nil))) pa_nil)) (pa_cons (pe_un un_neg pe_int) (pa_cons (pv 3) (pa_cons (pv 2) pa_nil))))))))))))) (pe_ix ix_list (pv 1) pe_int fun _ _ => rfl) fun _ _ => rfl)))
        pss_nil)
      (C8.pss_cut (ps_if (pt_cmpR op_eq (pe_ix ix_list (pv 1) pe_int fun _ _ => rfl) pe_int (nomark _))
        (pss_one (ps_ret (pe_slice sl_tup (pv 0) po_none (po_some pe_int))))
        pss_nil)
      (C8.pss_cut (ps_if (pt_cmpR op_eq (pe_ix ix_list (pv 1) pe_int fun _ _ => rfl) pe_int (nomark _))
        (pss_one (ps_ret (pe_op op_catT (pv 0) (pe_tup (pa_cons pe_str pa_nil)))))
        pss_nil)
      (pss_cons (ps_setLc (i := 5) (own := [("value", 9)]) (g := gName 9) (tt := tYes) (by rfl) nd rfl rfl (sw_true rfl rfl rfl (by decide +kernel)) (pi_tup (pv 0)) (blkOk_by (own := [("value", 9)]) (N := nSpoilt) (sc := defScope sSpoilt) (by decide +kernel)) (fun _ _ _ _ _ => pg_name (i := 9) nd rfl (Or.inl rfl)) (fun _ _ _ _ _ => pts_nil) (fun _ _ _ _ _ => (pv 9)))
      (C8.pss_cut (ps_if (pt_cmpR op_lt (pe_ix ix_list (pv 1) pe_int fun _ _ => rfl) pe_int (nomark _))
        (pss_one (ps_asg (pe_got G.odd h1 (by rfl) (pa_cons (pe_ix ix_list (pv 1) pe_int fun _ _ => rfl) (pa_cons (pe_ix ix_list (pv 1) pe_int fun _ _ => rfl) (pa_cons (pv 2) (pa_cons (pv 3) (pa_cons (pv 4) (pa_cons (pe_ix ix_str pe_str (pe_ix ix_list (pv 1) pe_int fun _ _ => rfl) fun _ _ => rfl) pa_nil))))))) (pg_sub (pv 5) (pe_ix ix_list (pv 1) pe_int fun _ _ => rfl) set_list)))
        (pss_one (ps_if (pt_cmpR op_lt (pe_ix ix_list (pv 1) pe_int fun _ _ => rfl) pe_int (nomark _))
          (pss_cons (ps_asg (pe_ix ix_list (pe_lst (pa_cons pe_str (pa_cons pe_str pa_nil))) (pe_op op_mod (pe_callTy call_int1 (by rfl) T.int PyProof.Rows.Boot.int (pa_cons (pe_ix ix_list (pv 1) pe_int fun _ _ => rfl) pa_nil)) pe_int) fun _ _ => rfl) (pg_sub (pv 5) pe_int set_list))
          (pss_one (ps_asg (pe_ix ix_list (pe_lst (pa_cons (pe_un un_neg pe_int) (pa_cons pe_int (pa_cons pe_int pa_nil)))) (pe_op op_mod (pe_op op_fdiv (pe_ix ix_list (pv 1) pe_int fun _ _ => rfl) pe_int) pe_int) fun _ _ => rfl) (pg_sub (pv 5) pe_int set_list))))
          (pss_one (ps_if (pt_cmpR op_lt (pe_ix ix_list (pv 1) pe_int fun _ _ => rfl) pe_int (nomark _))
            (pss_cons (ps_asg (pe_ix ix_list (pe_lst (pa_cons pe_str (pa_cons (pe_ix ix_list (pv 4) pe_int fun _ _ => rfl) pa_nil))) (pe_op op_mod (pe_op op_fdiv (pe_ix ix_list (pv 1) pe_int fun _ _ => rfl) pe_int) pe_int) fun _ _ => rfl) (pg_sub (pv 5) pe_int set_list))
            (pss_cons (ps_asg (pe_ix ix_list (pe_lst (pa_cons pe_str (pa_cons pe_str (pa_cons pe_str (pa_cons pe_str pa_nil))))) (pe_op op_mod (pe_callTy call_int1 (by rfl) T.int PyProof.Rows.Boot.int (pa_cons (pe_ix ix_list (pv 1) pe_int fun _ _ => rfl) pa_nil)) pe_int) fun _ _ => rfl) (pg_sub (pv 5) pe_int set_list))
            (pss_one (ps_asg (pe_ix ix_list (pe_lst (pa_cons pe_str (pa_cons (pe_ix ix_list (pv 4) pe_int fun _ _ => rfl) pa_nil))) (pe_op op_mod (pe_callTy call_int1 (by rfl) T.int PyProof.Rows.Boot.int (pa_cons (pe_ix ix_list (pv 1) pe_int fun _ _ => rfl) pa_nil)) pe_int) fun _ _ => rfl) (pg_sub (pv 5) pe_int set_list)))))
            (pss_one (ps_if (pt_cmpR op_eq (pe_ix ix_list (pv 1) pe_int fun _ _ => rfl) pe_int (nomark _))
              (pss_one (ps_asg (pe_ix ix_list (pe_lst (pa_cons pe_str (pa_cons pe_str (pa_cons pe_str (pa_cons pe_str pa_nil))))) (pe_op op_mod (pe_callTy call_int1 (by rfl) T.int PyProof.Rows.Boot.int (pa_cons (pe_ix ix_list (pv 1) pe_int fun _ _ => rfl) pa_nil)) pe_int) fun _ _ => rfl) (pg_sub (pv 5) pe_int set_list)))
              (pss_cons (ps_set (i := 6) nd rfl (Or.inl rfl) (pe_ix ix_list (pe_lst (pa_cons pe_int (pa_cons pe_int (pa_cons pe_int (pa_cons pe_int pa_nil))))) (pe_op op_mod (pe_callTy call_int1 (by rfl) T.int PyProof.Rows.Boot.int (pa_cons (pe_ix ix_list (pv 1) pe_int fun _ _ => rfl) pa_nil)) pe_int) fun _ _ => rfl))
              (pss_cons (ps_set (i := 7) nd rfl (Or.inl rfl) pe_str)
              (C8.pss_cut (ps_if (PW.pt (pw_and (pt_cmpR op_gt (pv 6) pe_int (nomark _)) (pw_and1 (pt_val (pe_callB call_isi (by rfl) T.isi (by decide +kernel) (pa_cons (pe_ix ix_list (pv 5) (pv 6) fun _ _ => rfl) (pa_cons (pe_bltn (v := .ty "str") (by rfl) T.str PyProof.Rows.Boot.str rfl) pa_nil)))))))
                (pss_one (ps_set (i := 7) nd rfl (Or.inl rfl) (pe_slice sl_str (pe_ix ix_list (pv 5) (pv 6) fun _ _ => rfl) po_none (po_some pe_int))))
                pss_nil)
              (pss_cons (ps_set (i := 8) nd rfl (Or.inl rfl) (pe_op op_mod (pe_callTy call_int1 (by rfl) T.int PyProof.Rows.Boot.int (pa_cons (pe_ix ix_list (pv 1) pe_int fun _ _ => rfl) pa_nil)) (pe_op op_add (pe_callB call_len_str (by rfl) T.len PySem.boot_len (pa_cons (pv 7) pa_nil)) pe_int)))
              (pss_cons (ps_asg (pe_op op_add_str (pe_op op_add_str (pe_slice sl_str (pv 7) po_none (po_some (pv 8))) (pe_got G.strange h1 (by rfl) (pa_cons (pe_ix ix_list (pv 1) pe_int fun _ _ => rfl) pa_nil))) (pe_slice sl_str (pv 7) (po_some (pv 8)) po_none)) (pg_sub (pv 5) (pv 6) set_list))
              (pss_one (ps_if (pt_cmpR op_eq (pv 6) pe_int (nomark _))
                (pss_one (ps_asg pe_str (pg_sub (pv 5) pe_int set_list)))
                pss_nil))))))))))))))
      (pss_one (ps_ret (pe_callTy (call_tuple_of) (by rfl) T.tuple PyProof.Rows.Boot.tuple (pa_cons (pv 5) pa_nil)))))))))), ?_⟩
    have ix : ∀ (j : Nat) (v : V), ([.int (d0 : Int), .int (d1 : Int), .int (d2 : Int), .int (d3 : Int), .int (d4 : Int)] : List V)[j]? = some v → atI [.int (d0 : Int), .int (d1 : Int), .int (d2 : Int), .int (d3 : Int), .int (d4 : Int)] ((j : Nat) : Int) = some v := fun j v e => atI_nat e
    refine ⟨fun σ' H' => ∃ (a : Addr) (xs : List V) (ds : List PyData), v = .ref a ∧ d = .tuple ds ∧ H0 a = some (.tup xs) ∧ DpAll K H0 xs ds ∧ (∀ x ∈ ds, Fine x) ∧ ds.length = 8 ∧ σ' = [some (.ref a), some (.ref aRow), some (.str l), some (.int n), some (.ref aP), none, none, none, none, none] ∧ H' = H, ?_, ?_⟩
    · refine ⟨_, rfl, _, _, _, _, isTupT d, rfl, .ty _, dp_tyx (dp_mono s0 _ _ hv.dp), kit_tup d, _, rfl, ?_⟩
      cases c : isTupT d with
      | false => exact iteT ⟨_, rfl, k _ _ _ (Same.refl _) (hv.mono (over_base s0))⟩
      | true =>
      refine iteF ?_
      obtain ⟨ds, rfl⟩ : ∃ ds, d = .tuple ds := by cases d <;> first | exact ⟨_, rfl⟩ | cases c
      obtain ⟨a', xs', rfl, ha, hd⟩ := hv.raw ds rfl
      have hs : SqT K H a' xs' := SqT.of (s0 _ _ ha)
      have lx := dpa_len hd
      refine ⟨_, rfl, a', _, rfl, .inr hs, rfl, _, rfl, ite2 (fun c2 => ⟨_, rfl, k _ _ _ (Same.refl _) (hv.mono (over_base s0))⟩) (fun c2 => ?_)⟩
      refine ⟨a', xs', ds, rfl, rfl, ha, hd, hv.fine ds rfl, Classical.byContradiction fun z => c2 ?_, rfl, rfl⟩
      rw [decide_eq_false (fun u => z (by have := V.int.inj u; omega))]
      rfl
    rintro σ' H' ⟨a, us, es, rfl, rfl, ha, hd, sh, le, rfl, eH⟩
    subst H'
    refine ⟨fun σ' H' => σ' = [some (.ref a), some (.ref aRow), some (.str l), some (.int n), some (.ref aP), none, none, none, none, none] ∧ H' = H, ?_, ?_⟩
    · refine ⟨_, rfl, aRow, _, _, _, rfl, rfl, hRow, ix 1 _ rfl, rfl, _, rfl, ite2 (fun _ => ?_) (fun _ => ⟨rfl, rfl⟩)⟩
      refine ⟨(by show 0 ≤ sizeLine; decide), fun t1 n1 => ?_⟩
      refine ⟨(by show 1 ≤ sizeLine; decide), fun t2 n2 => ?_⟩
      refine ⟨(by show 2 ≤ sizeLine; decide), fun t3 n3 => ?_⟩
      refine ⟨(by show 1 ≤ sizeLine; decide), fun t4 n4 => ?_⟩
      refine ⟨_, rfl, _, rfl, _, rfl, (by show 12 ≤ sizeLine; decide), fun q nq => ?_⟩
      have e1 := same_new (o := HO.tup []) n1
      have e2 := same_new (o := HO.tup [V.str "<"]) n2
      have e3 := same_new (o := HO.tup [V.int 0, V.str "<"]) n3
      have e4 := same_new (o := HO.tup [V.ref t3]) n4
      have e5 := same_new (o := HO.lst [.non, .int 7, .str "abcdefgh", .ref t1, .bl true, .str "", .int 0, .ref t2, .ref t4, .int (-1), .int n, .str l]) nq
      have m2 := none_back e1 n2
      have m3 := none_back (e1.trans e2) n3
      have m4 := none_back ((e1.trans e2).trans e3) n4
      have g : SpL K (over H0 H (upd (upd (upd (upd (upd H t1 (.tup [])) t2 (.tup [.str "<"])) t3 (.tup [.int 0, .str "<"])) t4 (.tup [.ref t3])) q (.lst [.non, .int 7, .str "abcdefgh", .ref t1, .bl true, .str "", .int 0, .ref t2, .ref t4, .int (-1), .int n, .str l]))) [.non, .int 7, .str "abcdefgh", .ref t1, .bl true, .str "", .int 0, .ref t2, .ref t4, .int (-1), .int n, .str l] [.none, .int 7, .str "abcdefgh", .tuple [], .bool true, .str "", .int 0, .tuple [.str "<"], .tuple [.tuple [.int 0, .str "<"]], .int (-1), .int n, .str l] :=
        ⟨spi_one .non rfl rfl, spi_one (.int _) rfl rfl, spi_one (.str _) rfl rfl, spi_tup (over_new n1 (e5 _ _ (e4 _ _ (e3 _ _ (e2 _ _ upd_same))))) .nil fall_nil, spi_one (.bl _) rfl rfl, spi_one (.str _) rfl rfl, spi_one (.int _) rfl rfl,
         spi_tup (over_new m2 (e5 _ _ (e4 _ _ (e3 _ _ upd_same)))) (.cons (.str _) .nil) (fall_cons (fine_lit (by decide +kernel)) fall_nil), spi_tup (over_new m4 (e5 _ _ upd_same)) (.cons (.tup (SqT.of (over_new m3 (e5 _ _ (e4 _ _ upd_same)))) (.cons (.int _) (.cons (.str _) .nil))) .nil) (fall_cons ⟨fun y e => (nomatch e), (lay_tup (lcons lay_int (lcons (lay_str (by decide +kernel)) lnil)) : Lay (1 + 1) _)⟩ fall_nil),
         spi_one (.int _) rfl rfl, spi_one (.int _) rfl rfl, spi_one (.str _) rfl rfl (lay_str ll.2), trivial⟩
      obtain ⟨v', d', ev, gv⟩ := spl_pick g b2
      have sA := (((e1.trans e2).trans e3).trans e4).trans e5
      exact ⟨_, rfl, aRow, _, _, _, rfl, rfl, (sA.seq hRow), ix 2 _ rfl, q, _, _, _, rfl, rfl, SqL.of upd_same, atI_nat ev, k v' d' _ sA gv⟩
    rintro σ' H' ⟨rfl, eH⟩
    subst H'
    refine ⟨fun σ' H' => σ' = [some (.ref a), some (.ref aRow), some (.str l), some (.int n), some (.ref aP), none, none, none, none, none] ∧ H' = H, ?_, ?_⟩
    · refine ⟨_, rfl, aRow, _, _, _, rfl, rfl, hRow, ix 1 _ rfl, rfl, _, rfl, ite2 (fun _ => ?_) (fun _ => ⟨rfl, rfl⟩)⟩
      refine ⟨_, rfl, _, rfl, a, us, rfl, SqT.of (s0 _ _ ha), ?_, fun p np => ?_⟩
      · rintro ⟨_, z⟩
        have lu := dpa_len hd
        rw [show us.length = 8 by omega] at z
        exact absurd z (by decide)
      · obtain ⟨gs, e8⟩ : ∃ fs, DpAll K H0 (cutV us none (some 7)) fs ∧ ∀ x ∈ fs, x ∈ es := dpa_cut hd _ _
        exact k _ _ _ (same_new np) (spi_tup (over_new np upd_same) (dpa_mono (over_base s0) _ _ e8.1) fun x m => sh x (e8.2 x m))
    rintro σ' H' ⟨rfl, eH⟩
    subst H'
    refine ⟨fun σ' H' => σ' = [some (.ref a), some (.ref aRow), some (.str l), some (.int n), some (.ref aP), none, none, none, none, none] ∧ H' = H, ?_, ?_⟩
    · refine ⟨_, rfl, aRow, _, _, _, rfl, rfl, hRow, ix 1 _ rfl, rfl, _, rfl, ite2 (fun _ => ?_) (fun _ => ⟨rfl, rfl⟩)⟩
      refine ⟨_, rfl, (by show 1 ≤ sizeLine; decide), fun t1 n1 => ?_⟩
      have e1 := same_new (o := HO.tup [V.str ""]) n1
      have lu := dpa_len hd
      refine ⟨a, t1, us, _, rfl, rfl, SqT.of (e1 _ _ (s0 _ _ ha)), SqT.of upd_same, fun z => by rw [z] at lu; simp at lu; omega, Nat.le_trans (show us.length + 1 ≤ 9 by omega) (by decide), fun z => (nomatch z), fun _ p np => ?_⟩
      have e2 := same_new (o := HO.tup (us ++ [V.str ""])) np
      exact k _ _ _ (e1.trans e2) (spi_tup (over_new (none_back e1 np) upd_same) (dpa_append (dpa_mono (over_base s0) _ _ hd) (dpa_one (.str _))) fun x m => by
        rcases List.mem_append.mp m with m | m
        · exact sh x m
        · rw [List.mem_singleton.mp m]; exact fine_lit (by decide +kernel))
    rintro σ' H' ⟨rfl, eH⟩
    subst H'
    refine ⟨_, rfl, a, rfl, ⟨_, SqT.of (s0 _ _ ha)⟩, fun D nD => lc_it (walk_tup (K := K) (a := a) (xs := us)) (fun i H' => Same H H' ∧ H' D = some (.lst (us.take i))) ⟨same_new nD, upd_same⟩ (fun i H' _ h => SqT.of (h.1 _ _ (s0 _ _ ha))) ?_ ?_⟩
    · rintro i y H4 H5 hi ⟨s4, hD⟩ ⟨rfl, ey⟩
      refine ⟨rfl, ?_⟩
      refine ⟨_, rfl, _, hD, ?_, same_mut s4 nD, ?_⟩
      · rw [List.length_take, dpa_len hd, le]
        exact Nat.lt_of_le_of_lt (Nat.min_le_right _ _) (show 8 < sizeLine by decide)
      · rw [upd_same, take_at ey]
    rintro H1 ⟨s1, hD⟩
    rw [List.take_of_length_le (Nat.le_refl _)] at hD
    have V1 : ValsAt K (over H0 H H1) D := ⟨us, es, over_new nD hD, dpa_mono (hide_base (over_base s0) (none_back s0 nD)) _ _ hd, le, sh⟩
    have hD1 := hD
    clear hD
    match ps, lP, hP, sP with
    | p0 :: p1 :: pr, lP, hP, sP =>
    have le0 : SOk p0 := sP _ (by simp)
    have le1 : SOk p1 := sP _ (by simp)
    have lq : SOk (PySem.Str.ofString "") := sok_lit (by decide +kernel)
    -- the values are spoilt
    refine ⟨fun σ' H' => Same H H' ∧ ValsAt K (over H0 H H') D ∧ ∃ o6 o7 o8 : Option V, σ' = [some (.ref a), some (.ref aRow), some (.str l), some (.int n), some (.ref aP), some (.ref D), o6, o7, o8, none], ?_, ?_⟩
    · refine ⟨_, rfl, aRow, _, _, _, rfl, rfl, (s1.seq hRow), ix 1 _ rfl, _, _, rfl, rfl, _, rfl, ?_⟩
      refine ite2 (fun c8 => ?_) (fun _ => ?_)
      · obtain ⟨x3, e3, hx3⟩ : ∃ x3, (PySem.Str.ofString "abcdefghijklmnopqrstuvwxyz").cps.toList[d3]? = some x3 ∧ x3 < 1114112 := ⟨_, List.getElem?_eq_getElem (show d3 < (PySem.Str.ofString "abcdefghijklmnopqrstuvwxyz").cps.toList.length by rw [show (PySem.Str.ofString "abcdefghijklmnopqrstuvwxyz").cps.toList.length = 26 by decide +kernel]; exact b3), (by decide +kernel : ∀ c ∈ (PySem.Str.ofString "abcdefghijklmnopqrstuvwxyz").cps.toList, c < 1114112) _ (List.getElem_mem _)⟩
        have lt8 : d1 < 8 := by have := of_decide_eq_true c8; omega
        refine ⟨_, rfl, aRow, _, _, _, rfl, rfl, (s1.seq hRow), ix 1 _ rfl, _, rfl, aRow, _, _, _, rfl, rfl, (s1.seq hRow), ix 2 _ rfl, _, rfl, _, rfl, _, rfl, _, rfl, aRow, _, _, _, rfl, rfl, (s1.seq hRow), ix 3 _ rfl, _, _, _, rfl, rfl, (by decide +kernel), atI_nat e3, ?_⟩
        refine ⟨(d1 : Int), d2, l, n, aP, p0, p1, pr.map V.str, _, rfl, b2, ll, s1.seq hP, le0, le1, sok_one hx3, fun v' d' H2 s2 g2 sh2 => ?_⟩
        obtain ⟨xs2, f1, f2, V2⟩ := (V1.mono (over_mono s2)).put nD d1 lt8 (dp_mono (newOnly_over s1 hD1) _ _ g2) sh2
        exact ⟨_, rfl, _, rfl, aRow, _, _, _, rfl, rfl, ((s1.trans s2).seq hRow), ix 1 _ rfl, D, xs2, (d1 : Int), d1, rfl, rfl, f1, f2, same_mut (s1.trans s2) nD, V2, _, _, _, rfl⟩
      · refine ⟨_, rfl, aRow, _, _, _, rfl, rfl, (s1.seq hRow), ix 1 _ rfl, _, _, rfl, rfl, _, rfl, ?_⟩
        refine ite2 (fun _ => ?_) (fun _ => ?_)
        · skip
          refine ⟨(by show 2 ≤ sizeLine; decide), fun q1 nq1 => ?_⟩
          have e1 := same_new (o := HO.lst [V.str "<", V.str ">"]) nq1
          obtain ⟨x1, mx1, ex1⟩ := pick_strs (xs := ["<", ">"]) (i := (d2 : Int) % 2) (by omega) (by show _ < ((2 : Nat) : Int); omega)
          have sh1 : Fine (.str x1) := all_strs (soks (by decide +kernel)) x1 mx1
          obtain ⟨xs1, g11, g21, V2⟩ := (V1.mono (over_mono e1)).put nD 1 (by decide) (.str x1) sh1
          refine ⟨_, rfl, aRow, _, _, _, rfl, rfl, ((s1.trans e1).seq hRow), ix 2 _ rfl, .inl ⟨_, rfl, _, _, rfl, rfl, (by show (0 : Int) < 2; decide), q1, _, _, _, rfl, rfl, SqL.of upd_same, ex1, _, rfl, D, xs1, 1, 1, rfl, rfl, g11, g21, ?_⟩⟩
          have s2 := same_mut (o := HO.lst (xs1.set 1 (V.str x1))) (s1.trans e1) nD
          refine ⟨_, rfl, (by show 3 ≤ sizeLine; decide), fun q2 nq2 => ?_⟩
          have e2 := same_new (o := HO.lst [V.int (-1), V.int 1, V.int 0]) nq2
          obtain ⟨x2, mx2, ex2⟩ := pick_ints (xs := [(-1), 1, 0]) (i := (d2 : Int) / 2 % 3) (by omega) (by show _ < ((3 : Nat) : Int); omega)
          obtain ⟨xs2, g12, g22, V3⟩ := (V2.mono (over_mono e2)).put nD 4 (by decide) (.int x2) fine_int
          refine ⟨_, rfl, aRow, _, _, _, rfl, rfl, ((s2.trans e2).seq hRow), ix 2 _ rfl, _, _, rfl, rfl, ⟨by decide, by decide⟩, _, _, rfl, rfl, (by show (0 : Int) < 3; decide), q2, _, _, _, rfl, rfl, SqL.of upd_same, ex2, _, rfl, D, xs2, 4, 4, rfl, rfl, g12, g22, ?_⟩
          have s3 := same_mut (o := HO.lst (xs2.set 4 (V.int x2))) (s2.trans e2) nD
          exact ⟨s3, V3, _, _, _, rfl⟩
        refine ⟨_, rfl, aRow, _, _, _, rfl, rfl, (s1.seq hRow), ix 1 _ rfl, _, _, rfl, rfl, _, rfl, ?_⟩
        refine ite2 (fun _ => ?_) (fun _ => ?_)
        · skip
          refine ⟨_, rfl, aP, _, _, _, rfl, rfl, s1.seq hP, (show atI ((p0 :: p1 :: pr).map V.str) (((0 : Nat) : Nat) : Int) = some (.str p0) from atI_nat (j := 0) rfl), (by show 2 ≤ sizeLine; decide), fun q1 nq1 => ?_⟩
          have e1 := same_new (o := HO.lst [V.str "", V.str p0]) nq1
          obtain ⟨x1, mx1, ex1⟩ := pick_strs (xs := ["", p0]) (i := (d2 : Int) / 4 % 2) (by omega) (by show _ < ((2 : Nat) : Int); omega)
          have sh1 : Fine (.str x1) := all_strs (by simp [le0, le1, lq]) x1 mx1
          obtain ⟨xs1, g11, g21, V2⟩ := (V1.mono (over_mono e1)).put nD 2 (by decide) (.str x1) sh1
          refine ⟨_, rfl, aRow, _, _, _, rfl, rfl, ((s1.trans e1).seq hRow), ix 2 _ rfl, _, _, rfl, rfl, ⟨by decide, by decide⟩, _, _, rfl, rfl, (by show (0 : Int) < 2; decide), q1, _, _, _, rfl, rfl, SqL.of upd_same, ex1, _, rfl, D, xs1, 2, 2, rfl, rfl, g11, g21, ?_⟩
          have s2 := same_mut (o := HO.lst (xs1.set 2 (V.str x1))) (s1.trans e1) nD
          refine ⟨(by show 4 ≤ sizeLine; decide), fun q2 nq2 => ?_⟩
          have e2 := same_new (o := HO.lst [V.str "keep", V.str "pop", V.str "push", V.str "swap"]) nq2
          obtain ⟨x2, mx2, ex2⟩ := pick_strs (xs := ["keep", "pop", "push", "swap"]) (i := (d2 : Int) % 4) (by omega) (by show _ < ((4 : Nat) : Int); omega)
          have sh2 : Fine (.str x2) := all_strs (soks (by decide +kernel)) x2 mx2
          obtain ⟨xs2, g12, g22, V3⟩ := (V2.mono (over_mono e2)).put nD 5 (by decide) (.str x2) sh2
          refine ⟨_, rfl, aRow, _, _, _, rfl, rfl, ((s2.trans e2).seq hRow), ix 2 _ rfl, .inl ⟨_, rfl, _, _, rfl, rfl, (by show (0 : Int) < 4; decide), q2, _, _, _, rfl, rfl, SqL.of upd_same, ex2, _, rfl, D, xs2, 5, 5, rfl, rfl, g12, g22, ?_⟩⟩
          have s3 := same_mut (o := HO.lst (xs2.set 5 (V.str x2))) (s2.trans e2) nD
          refine ⟨_, rfl, aP, _, _, _, rfl, rfl, s3.seq hP, (show atI ((p0 :: p1 :: pr).map V.str) (((1 : Nat) : Nat) : Int) = some (.str p1) from atI_nat (j := 1) rfl), (by show 2 ≤ sizeLine; decide), fun q3 nq3 => ?_⟩
          have e3 := same_new (o := HO.lst [V.str "", V.str p1]) nq3
          obtain ⟨x3, mx3, ex3⟩ := pick_strs (xs := ["", p1]) (i := (d3 : Int) % 2) (by omega) (by show _ < ((2 : Nat) : Int); omega)
          have sh3 : Fine (.str x3) := all_strs (by simp [le0, le1, lq]) x3 mx3
          obtain ⟨xs3, g13, g23, V4⟩ := (V3.mono (over_mono e3)).put nD 6 (by decide) (.str x3) sh3
          refine ⟨_, rfl, aRow, _, _, _, rfl, rfl, ((s3.trans e3).seq hRow), ix 3 _ rfl, .inl ⟨_, rfl, _, _, rfl, rfl, (by show (0 : Int) < 2; decide), q3, _, _, _, rfl, rfl, SqL.of upd_same, ex3, _, rfl, D, xs3, 6, 6, rfl, rfl, g13, g23, ?_⟩⟩
          have s4 := same_mut (o := HO.lst (xs3.set 6 (V.str x3))) (s3.trans e3) nD
          exact ⟨s4, V4, _, _, _, rfl⟩
        refine ⟨_, rfl, aRow, _, _, _, rfl, rfl, (s1.seq hRow), ix 1 _ rfl, rfl, _, rfl, ?_⟩
        refine ite2 (fun _ => ?_) (fun _ => ?_)
        · skip
          refine ⟨(by show 4 ≤ sizeLine; decide), fun q1 nq1 => ?_⟩
          have e1 := same_new (o := HO.lst [V.str "abc", V.str "abcd", V.str "zzz", V.str "zyxw"]) nq1
          obtain ⟨x1, mx1, ex1⟩ := pick_strs (xs := ["abc", "abcd", "zzz", "zyxw"]) (i := (d2 : Int) % 4) (by omega) (by show _ < ((4 : Nat) : Int); omega)
          have sh1 : Fine (.str x1) := all_strs (soks (by decide +kernel)) x1 mx1
          obtain ⟨xs1, g11, g21, V2⟩ := (V1.mono (over_mono e1)).put nD 7 (by decide) (.str x1) sh1
          refine ⟨_, rfl, aRow, _, _, _, rfl, rfl, ((s1.trans e1).seq hRow), ix 2 _ rfl, .inl ⟨_, rfl, _, _, rfl, rfl, (by show (0 : Int) < 4; decide), q1, _, _, _, rfl, rfl, SqL.of upd_same, ex1, _, rfl, D, xs1, 7, 7, rfl, rfl, g11, g21, ?_⟩⟩
          have s2 := same_mut (o := HO.lst (xs1.set 7 (V.str x1))) (s1.trans e1) nD
          exact ⟨s2, V2, _, _, _, rfl⟩
        -- a strange sign
        refine ⟨(by show 4 ≤ sizeLine; decide), fun q1 nq1 => ?_⟩
        have e1 := same_new (o := HO.lst [V.int 1, V.int 2, V.int 6, V.int 7]) nq1
        obtain ⟨z, mz, ez⟩ := pick_ints (xs := [1, 2, 6, 7]) (i := (d2 : Int) % 4) (by omega) (by show _ < ((4 : Nat) : Int); omega)
        refine ⟨_, rfl, aRow, _, _, _, rfl, rfl, ((s1.trans e1).seq hRow), ix 2 _ rfl, .inl ⟨_, rfl, _, _, rfl, rfl, (by show (0 : Int) < 4; decide), q1, _, _, _, rfl, rfl, SqL.of upd_same, ez, ?_⟩⟩
        obtain ⟨j, rfl, lj⟩ : ∃ j : Nat, z = (j : Int) ∧ j < 8 := by
          have : z = 1 ∨ z = 2 ∨ z = 6 ∨ z = 7 := by simpa using mz
          exact ⟨z.toNat, by omega, by omega⟩
        have V2 := V1.mono (over_mono (H0 := H0) (H := H) e1)
        have s2 := s1.trans e1
        clear e1 V1 s1 hD1
        generalize (upd H1 q1 (.lst [V.int 1, V.int 2, V.int 6, V.int 7])) = H2 at V2 s2 ⊢
        obtain ⟨us2, v2, dv, g1, g2, gv, shv⟩ := V2.see nD s0 s2 lj
        refine ⟨fun σ' H' => H' = H2 ∧ ∃ (wd : PySem.Str), wd.length ≤ 2 ∧ SOk wd ∧ σ' = [some (.ref a), some (.ref aRow), some (.str l), some (.int n), some (.ref aP), some (.ref D), some (.int (j : Int)), some (.str wd), none, none], ?_, ?_⟩
        · refine ⟨_, rfl, _, _, rfl, rfl, _, rfl, ite2 (fun _ => ?_) (fun _ => iteF ⟨rfl, _, (by decide +kernel), sok_lit (by decide +kernel), rfl⟩)⟩
          refine ⟨_, rfl, _, rfl, D, us2, (j : Int), v2, rfl, rfl, SqL.of g1, g2, _, _, _, _, isStrT dv, rfl, .ty _, dp_tyx gv, kit_str dv, _, rfl, ?_⟩
          cases cs : isStrT dv with
          | false => exact iteF ⟨rfl, _, (by decide +kernel), sok_lit (by decide +kernel), rfl⟩
          | true =>
          obtain ⟨w2, rfl, rfl⟩ := dp_str gv cs
          have lw : w2.length ≤ 1000 := shv.1 w2 rfl
          have ow : PyData.strOk w2 = true := by have := shv.2.1; rw [PyData.canLay0] at this; exact this
          exact iteT ⟨_, rfl, _, rfl, D, us2, (j : Int), _, rfl, rfl, SqL.of g1, g2, _, rfl, w2, rfl, Nat.le_trans lw (by decide), rfl, _, cutS_two w2, sok_cut ⟨lw, ow⟩, rfl⟩
        rintro σ' H' ⟨eH, wd, lw, hwd, rfl⟩
        subst H'
        have lz : wd.length ≤ sizeLine := Nat.le_trans lw (by decide)
        refine ⟨_, rfl, aRow, _, _, _, rfl, rfl, (s2.seq hRow), ix 3 _ rfl, .inl ⟨_, rfl, _, rfl, wd, rfl, lz, _, _, rfl, rfl, _, _, rfl, rfl, (by show (0 : Int) < (wd.length : Int) + 1; omega), ?_⟩⟩
        refine ⟨_, rfl, _, rfl, _, rfl, wd, rfl, lz, _, rfl, aRow, _, _, _, rfl, rfl, (s2.seq hRow), ix 4 _ rfl, d4, rfl, b4, fun c hc => ?_⟩
        have l1 := cutS_len wd none (some (((d3 : Nat) : Int) % ((wd.length : Int) + 1)))
        have l2 := cutS_len wd (some (((d3 : Nat) : Int) % ((wd.length : Int) + 1))) none
        have lc : (⟨#[c]⟩ : PySem.Str).length = 1 := rfl
        have la := str_add_len (cutS wd none (some (((d3 : Nat) : Int) % ((wd.length : Int) + 1)))) ⟨#[c]⟩
        have lb := str_add_len (cutS wd none (some (((d3 : Nat) : Int) % ((wd.length : Int) + 1))) ++ ⟨#[c]⟩) (cutS wd (some (((d3 : Nat) : Int) % ((wd.length : Int) + 1))) none)
        obtain ⟨xs2, f1, f2, V3⟩ := V2.put nD j lj (.str (cutS wd none (some (((d3 : Nat) : Int) % ((wd.length : Int) + 1))) ++ ⟨#[c]⟩ ++ cutS wd (some (((d3 : Nat) : Int) % ((wd.length : Int) + 1))) none)) (fine_str (sok_add (sok_add (sok_cut hwd) (sok_one hc) (by omega)) (sok_cut hwd) (by omega)))
        refine ⟨_, _, rfl, rfl, Nat.le_trans (show _ ≤ 3 by omega) (by decide), _, rfl, _, rfl, _, rfl, wd, rfl, lz, _, _, rfl, rfl, Nat.le_trans (show _ ≤ 6 by omega) (by decide), _, rfl, _, rfl, D, xs2, (j : Int), j, rfl, rfl, f1, f2, ?_⟩
        have s3 := same_mut (o := HO.lst (xs2.set j (V.str (cutS wd none (some (((d3 : Nat) : Int) % ((wd.length : Int) + 1))) ++ ⟨#[c]⟩ ++ cutS wd (some (((d3 : Nat) : Int) % ((wd.length : Int) + 1))) none)))) s2 nD
        refine ⟨_, rfl, rfl, _, rfl, ite2 (fun _ => ?_) (fun _ => ⟨s3, V3, _, _, _, rfl⟩)⟩
        obtain ⟨xs3, f3, f4, V4⟩ := V3.put nD 5 (by decide) (.str "push") (fine_lit (by decide +kernel))
        exact ⟨_, rfl, D, xs3, 5, 5, rfl, rfl, f3, f4, same_mut s3 nD, V4, _, _, _, rfl⟩
    rintro _ H2 ⟨s2, V2, o6, o7, o8, rfl⟩
    obtain ⟨us2, es2, hD2, hd2, le2, sh2⟩ := V2.ex
    rw [over_at nD] at hD2
    refine ⟨_, rfl, D, us2, rfl, .inl ⟨SqL.of hD2, fun t nt => ?_⟩⟩
    have e2 := same_new (o := HO.tup us2) nt
    exact k _ _ _ (s2.trans e2) (spi_tup (over_new (none_back s2 nt) upd_same) (dpa_mono (hide_le.trans (over_mono e2)) _ _ hd2) sh2)
end
end Mk

set_option Elab.async false
set_option linter.unusedVariables false
set_option maxRecDepth 100000
set_option maxHeartbeats 8000000
namespace Mk
open PySem L2 Pk
theorem alpha_ok {l : PySem.Str} (al : Alpha l) : ∀ c ∈ l.cps.toList, c < 1114112 := fun c m => by
  have z := al.low
  unfold lowB at z
  have y := List.all_eq_true.mp z c m
  unfold lowC at y
  rw [Bool.and_eq_true, decide_eq_true_eq, decide_eq_true_eq] at y
  omega
theorem sym_ok {x : PySem.Str} (h : symB x = true) : ∀ c ∈ x.cps.toList, c < 1114112 := fun c m => by
  unfold symB at h
  rw [Bool.and_eq_true] at h
  have y := List.all_eq_true.mp h.2 c m
  unfold markC at y
  simp only [Bool.or_eq_true, Bool.and_eq_true, decide_eq_true_eq] at y
  omega
theorem top_ok {x : PySem.Str} (h : Top x) : ∀ c ∈ x.cps.toList, c < 1114112 := by
  rcases h with h | h
  · exact sym_ok h
  · rw [h]
    intro c m
    exact absurd m List.not_mem_nil
theorem sgn_ok {l x : PySem.Str} (al : Alpha l) (h : Sgn l x) : ∀ c ∈ x.cps.toList, c < 1114112 := by
  obtain ⟨c, rfl, h⟩ := h
  intro d m
  have e : d = c := List.mem_singleton.mp m
  rw [e]
  rcases h with h | h | h
  · omega
  · omega
  · exact alpha_ok al c h
theorem low_ok {x : PySem.Str} (h : lowB x = true) : ∀ c ∈ x.cps.toList, c < 1114112 := fun c m => by
  unfold lowB at h
  have y := List.all_eq_true.mp h c m
  unfold lowC at y
  rw [Bool.and_eq_true, decide_eq_true_eq, decide_eq_true_eq] at y
  omega

theorem deed_ok {t d x : PySem.Str} (h : Deed t d x) : (∀ c ∈ d.cps.toList, c < 1114112) ∧ ∀ c ∈ x.cps.toList, c < 1114112 := by
  have k1 : ∀ c ∈ (keep0).cps.toList, c < 1114112 := by decide +kernel
  have k2 : ∀ c ∈ (pop0).cps.toList, c < 1114112 := by decide +kernel
  have k3 : ∀ c ∈ (push0).cps.toList, c < 1114112 := by decide +kernel
  have k4 : ∀ c ∈ (swap0).cps.toList, c < 1114112 := by decide +kernel
  have k0 : ∀ c ∈ (nil0).cps.toList, c < 1114112 := by decide +kernel
  rcases h.one with e | e | e | e
  · exact ⟨by rw [e]; exact k1, by rw [h.no (.inl e)]; exact k0⟩
  · exact ⟨by rw [e]; exact k2, by rw [h.no (.inr e)]; exact k0⟩
  · exact ⟨by rw [e]; exact k3, sym_ok (h.sym (.inl e))⟩
  · exact ⟨by rw [e]; exact k4, sym_ok (h.sym (.inr e))⟩
theorem rl_ok {l : PySem.Str} {n : Int} {r : Rl} (al : Alpha l) (h : RlOk l n r) : ∀ x ∈ r.key, KeyOk x := by
  intro x m
  have m' : x ∈ [Sum.inl r.st, Sum.inr r.sg, Sum.inr r.tp, Sum.inl r.af, Sum.inl r.mv, Sum.inr r.de, Sum.inr r.sy, Sum.inr r.sa] := m
  simp only [List.mem_cons, List.not_mem_nil, or_false] at m'
  rcases m' with rfl | rfl | rfl | rfl | rfl | rfl | rfl | rfl
  · exact trivial
  · exact sgn_ok al h.sg
  · exact top_ok h.tp
  · exact trivial
  · exact trivial
  · exact (deed_ok h.de).1
  · exact (deed_ok h.de).2
  · exact low_ok h.sa.1
theorem k3_sub {r : Rl} (h : ∀ x ∈ r.key, KeyOk x) : ∀ x ∈ r.k3, KeyOk x := fun x m => h x (by
  have e : r.key = r.k3 ++ r.a5 := rfl
  rw [e]
  exact List.mem_append_left _ m)
theorem depth_due {l : PySem.Str} {n : Int} {rs : List Rl} {ys : List Int} (h1 : rs.length ≤ 20001) (h2 : ys.length ≤ 4000) : depthOk 3 (dueD l n rs ys) := by
  have keyO : ∀ (m : Nat) (k : Key), depthOk m (keyD k) := fun m k => by cases k <;> cases m <;> trivial
  refine ⟨show 6 ≤ 100000 by decide, fun d m => ?_⟩
  simp only [List.mem_cons, List.not_mem_nil, or_false] at m
  rcases m with rfl | rfl | rfl | rfl | rfl | rfl
  · trivial
  · trivial
  · refine ⟨?_, fun d m => ?_⟩
    · rw [List.length_map]
      exact Nat.le_trans (rulesOf_len rs) (by omega)
    · obtain ⟨r, _, rfl⟩ := List.mem_map.mp m
      refine ⟨show 8 ≤ 100000 by decide, fun d m => ?_⟩
      obtain ⟨k, _, rfl⟩ := List.mem_map.mp m
      exact keyO _ k
  · refine ⟨?_, fun d m => ?_⟩
    · rw [List.length_map]
      exact Nat.le_trans (Sx.asc_len _ _) (by omega)
    · obtain ⟨r, _, rfl⟩ := List.mem_map.mp m
      trivial
  · refine ⟨?_, fun d m => ?_⟩
    · rw [List.length_map]
      refine Nat.le_trans (Sx.asc_len _ _) (Nat.le_trans (List.length_filter_le _ _) ?_)
      rw [List.length_append, List.length_map, List.length_map]
      omega
    · obtain ⟨r, _, rfl⟩ := List.mem_map.mp m
      trivial
  · cases hg : adjK ((rulesOf rs).map Rl.k3) with
    | none => trivial
    | some k =>
      have mem : k ∈ (rulesOf rs).map Rl.k3 := by
        have gen : ∀ l : List (List Key), adjK l = some k → k ∈ l := by
          intro l
          induction l with
          | nil => intro z; cases z
          | cons a l ih =>
            intro z
            cases l with
            | nil => cases z
            | cons b r =>
              have z' : (if a = b then some a else adjK (b :: r)) = some k := z
              by_cases c : a = b
              · rw [if_pos c] at z'
                rw [← Option.some.inj z']
                exact List.mem_cons_self
              · rw [if_neg c] at z'
                exact List.mem_cons_of_mem _ (ih z')
        exact gen _ hg
      obtain ⟨r, _, rfl⟩ := List.mem_map.mp mem
      refine ⟨show 3 ≤ 100000 by decide, fun d m => ?_⟩
      obtain ⟨k, _, rfl⟩ := List.mem_map.mp m
      exact keyO _ k
/-! the rules as they are handed in -/
/-! rules as they are handed in -/
def formD (fs : List Int) (k : Nat) (d : PyData) : PyData := if formB fs k d = true then (match d with | .tuple ds => .list ds | d => d) else d
def formsD (fs : List Int) : Nat → List PyData → List PyData
  | _, [] => []
  | k, d :: ds => formD fs k d :: formsD fs (k + 1) ds
theorem formsD_len (fs : List Int) : ∀ (k : Nat) (ds : List PyData), (formsD fs k ds).length = ds.length
  | _, [] => rfl
  | k, d :: ds => by rw [formsD, List.length_cons, List.length_cons, formsD_len]
theorem formsD_get (fs : List Int) : ∀ (k : Nat) (ds : List PyData) (i : Nat), (formsD fs k ds)[i]? = ds[i]?.map (formD fs (k + i))
  | _, [], _ => rfl
  | k, d :: ds, 0 => rfl
  | k, d :: ds, i + 1 => by
    rw [formsD, List.getElem?_cons_succ, List.getElem?_cons_succ, formsD_get fs (k + 1) ds i, show k + 1 + i = k + (i + 1) by omega]
theorem items_form (fs : List Int) (k : Nat) (d : PyData) : items (formD fs k d) = items d := by
  unfold formD
  split
  · cases d <;> rfl
  · rfl
theorem ruleD_items {l : PySem.Str} {n : Int} {a b : PyData} (h : items a = items b) : ruleD l n a = ruleD l n b := by
  unfold ruleD
  rw [h]
theorem first_forms {l : PySem.Str} {n : Int} (fs : List Int) : ∀ (k : Nat) (ds : List PyData), firstBad l n (formsD fs k ds) = firstBad l n ds
  | _, [] => rfl
  | k, d :: ds => by
    have ih := first_forms (l := l) (n := n) fs (k + 1) ds
    unfold firstBad at ih ⊢
    rw [formsD, List.findIdx?_cons, List.findIdx?_cons, ih, ruleD_items (items_form fs k d)]
theorem where_forms {d1 d2 : PyData} {es : List PyData} (fs : List Int) (k : Nat) (rs : List PyData) : whereOf d1 d2 (formsD fs k rs) es = whereOf d1 d2 rs es := by
  unfold whereOf
  rw [formsD_len, first_forms]
theorem forms_items (fs : List Int) : ∀ (k : Nat) (ds : List PyData), (formsD fs k ds).map items = ds.map items
  | _, [] => rfl
  | k, d :: ds => by rw [formsD, List.map_cons, List.map_cons, forms_items, items_form]
theorem where_depth {d1 d2 wd : PyData} {rs es : List PyData} (m : Nat) (h : whereOf d1 d2 rs es = some wd) : depthOk m wd ∧ wd ≠ .none := by
  have str : ∀ x, depthOk m (.str x) ∧ (PyData.str x) ≠ .none := fun x => ⟨by cases m <;> trivial, fun z => nomatch z⟩
  have int : ∀ x, depthOk m (.int x) ∧ (PyData.int x) ≠ .none := fun x => ⟨by cases m <;> trivial, fun z => nomatch z⟩
  unfold whereOf at h
  split at h
  · rw [← Option.some.inj h]; exact str _
  · split at h
    · rw [← Option.some.inj h]; exact str _
    · split at h
      · rw [← Option.some.inj h]; exact str _
      · split at h
        · rw [← Option.some.inj h]; exact int _
        · split at h
          · cases h
          · rw [← Option.some.inj h]; exact str _
section
variable {K : PySem.W.Frag} {H H' : Hp}
theorem spl_dpa : ∀ {vs : List V} {ds : List PyData}, SpL K H vs ds → DpAll K H vs ds
  | [], [], _ => .nil
  | v :: vs, d :: ds, h => .cons h.1.dp (spl_dpa h.2)
  | [], d :: ds, h => h.elim
  | v :: vs, [], h => h.elim
theorem spl_mono (e : Same H H') : ∀ {vs : List V} {ds : List PyData}, SpL K H vs ds → SpL K H' vs ds
  | [], [], _ => trivial
  | v :: vs, d :: ds, h => ⟨h.1.mono e, spl_mono e h.2⟩
  | [], d :: ds, h => h.elim
  | v :: vs, [], h => h.elim
theorem spl_append : ∀ {vs us : List V} {ds es : List PyData}, SpL K H vs ds → SpL K H us es → SpL K H (vs ++ us) (ds ++ es)
  | [], _, [], _, _, g => g
  | v :: vs, _, d :: ds, _, h, g => ⟨h.1, spl_append h.2 g⟩
  | [], _, d :: ds, _, h, _ => h.elim
  | v :: vs, _, [], _, h, _ => h.elim
theorem spl_get : ∀ {vs : List V} {ds : List PyData} {i : Nat} {v : V}, SpL K H vs ds → vs[i]? = some v → ∃ d, ds[i]? = some d ∧ SpI K H v d
  | [], _, i, v, h, e => by simp at e
  | u :: vs, [], i, v, h, e => h.elim
  | u :: vs, d :: ds, 0, v, h, e => ⟨d, rfl, by simp at e; subst e; exact h.1⟩
  | u :: vs, d :: ds, i + 1, v, h, e => by
    obtain ⟨d', e', g⟩ := spl_get (i := i) h.2 (by simpa using e)
    exact ⟨d', by simpa using e', g⟩
theorem spl_all : ∀ {vs : List V} {ds : List PyData}, SpL K H vs ds → ∀ d ∈ ds, Lay 3 d ∧ ∀ xs, items d = some xs → ∀ x ∈ xs, Fine x
  | [], [], _ => fun d m => absurd m List.not_mem_nil
  | v :: vs, d :: ds, h => fun e m => by
    rcases List.mem_cons.mp m with m | m
    · rw [m]; exact ⟨h.1.lay, h.1.fine⟩
    · exact spl_all h.2 e m
  | [], d :: ds, h => h.elim
  | v :: vs, [], h => h.elim
theorem spl_short {vs : List V} {ds : List PyData} (h : SpL K H vs ds) : ∀ r ∈ ds, ShortAll r := fun r m xs e x mx => ((spl_all h r m).2 xs e x mx).1
/-- rules that pass are rules as they are handed in, tuples standing as such -/
theorem hand_of {l : PySem.Str} {n : Int} : ∀ {rs : List PyData} {xs : List V}, SpL K H xs rs → (∀ r ∈ rs, ruleD l n r = true) →
    ∃ R : Hand, xs = refsH R ∧ (∀ p ∈ R, SqB p.2.1 K H p.1 p.2.2.vs) ∧ (∀ p ∈ R, RlOk l n p.2.2) ∧ rs.map items = (R.map fun p => some p.2.2.data) ∧ ∀ p ∈ R, p.2.1 = false → H p.1 = some (.tup p.2.2.vs)
  | [], [], _, _ => ⟨[], rfl, (fun _ m => absurd m List.not_mem_nil), (fun _ m => absurd m List.not_mem_nil), rfl, (fun _ m => absurd m List.not_mem_nil)⟩
  | [], _ :: _, h, _ => h.elim
  | _ :: _, [], h, _ => h.elim
  | d :: rs, v :: xs, h, a => by
    obtain ⟨R, rfl, q, o, e, w⟩ := hand_of h.2 fun r m => a r (List.mem_cons_of_mem _ m)
    obtain ⟨r, ok, ei⟩ := rule_is (a d List.mem_cons_self)
    have fin : ∀ (x : Addr) (b : Bool), v = .ref x → SqB b K H x r.vs → (b = false → H x = some (.tup r.vs)) → ∃ R' : Hand, v :: refsH R = refsH R' ∧ (∀ p ∈ R', SqB p.2.1 K H p.1 p.2.2.vs) ∧ (∀ p ∈ R', RlOk l n p.2.2) ∧
        items d :: rs.map items = (R'.map fun p => some p.2.2.data) ∧ ∀ p ∈ R', p.2.1 = false → H p.1 = some (.tup p.2.2.vs) := fun x b ev sq raw => by
      refine ⟨(x, b, r) :: R, by rw [ev]; rfl, fun p m => ?_, fun p m => ?_, by rw [List.map_cons, e, ei], fun p m => ?_⟩
      · rcases List.mem_cons.mp m with m | m
        · subst m; exact sq
        · exact q p m
      · rcases List.mem_cons.mp m with m | m
        · subst m; exact ok
        · exact o p m
      · rcases List.mem_cons.mp m with m | m
        · subst m; exact raw
        · exact w p m
    have hd := h.1
    cases d with
    | tuple ds =>
      have e8 : ds = r.data := Option.some.inj ei
      subst e8
      obtain ⟨x, vs, ev, hx, hv⟩ := hd.raw _ rfl
      have ev2 := dpa_rule hv
      subst ev2
      exact fin x false ev (SqT.of hx) fun _ => hx
    | list ds =>
      have e8 : ds = r.data := Option.some.inj ei
      subst e8
      have z := hd.dp
      cases z with
      | lst hs hv =>
        have ev2 := dpa_rule hv
        subst ev2
        exact fin _ true rfl hs fun z => nomatch z
    | _ => cases ei
end
theorem data_inj {r s : Rl} (h : r.data = s.data) : r = s := by
  obtain ⟨a1, a2, a3, a4, a5, a6, a7, a8⟩ := r
  obtain ⟨b1, b2, b3, b4, b5, b6, b7, b8⟩ := s
  unfold Rl.data at h
  simp at h
  obtain ⟨rfl, rfl, rfl, rfl, rfl, rfl, rfl, rfl⟩ := h
  rfl
theorem rsOf_eq : ∀ {R S : Hand}, (R.map fun p => some p.2.2.data) = (S.map fun p => some p.2.2.data) → rsOf R = rsOf S
  | [], [], _ => rfl
  | [], _ :: _, h => by cases h
  | _ :: _, [], h => by cases h
  | p :: R, q :: S, h => by
    rw [List.map_cons, List.map_cons] at h
    have h1 := (List.cons.inj h).1
    have h2 := rsOf_eq (List.cons.inj h).2
    unfold rsOf at h2 ⊢
    rw [List.map_cons, List.map_cons, h2, data_inj (Option.some.inj h1)]
def unD : PyData → Key
  | .int n => .inl n
  | .str x => .inr x
  | _ => .inl 0
def keyOfD (d : PyData) : List Key := ((items d).getD []).map unD
theorem few_of {rs ds : List PyData} {R : Hand} (e : rs.map items = (R.map fun p => some p.2.2.data)) (h : ∀ d ∈ rs, d ∈ ds) (l : ds.length ≤ 1900) : ∃ ks : List (List Key), ks.length ≤ 1900 ∧ ∀ p ∈ R, p.2.2.key ∈ ks := by
  refine ⟨ds.map keyOfD, by rw [List.length_map]; exact l, fun p m => ?_⟩
  have m2 : some p.2.2.data ∈ (R.map fun p => some p.2.2.data) := List.mem_map.mpr ⟨p, m, rfl⟩
  rw [← e] at m2
  obtain ⟨d, md, ed⟩ := List.mem_map.mp m2
  refine List.mem_map.mpr ⟨d, h d md, ?_⟩
  unfold keyOfD
  rw [ed]
  rfl
end Mk

set_option Elab.async false
set_option linter.unusedVariables false
set_option maxRecDepth 100000
set_option maxHeartbeats 16000000
namespace Mk
open PySem L2 Pk
abbrev sSymR : Stmt := top 69
abbrev sStR : Stmt := top 70
abbrev sLetR : Stmt := top 71
abbrev nSymR : List PySem.Str := ["value", "signs", "sign"]
theorem scSymR : FnScope nSymR ["value"] (defScope sSymR) := ⟨rfl, rfl, rfl, by decide +kernel, rfl, by decide +kernel, by decide +kernel⟩
abbrev nLetR : List PySem.Str := ["value", "k"]
theorem scLetR : FnScope nLetR ["value"] (defScope sLetR) := ⟨rfl, rfl, rfl, by decide +kernel, rfl, by decide +kernel, by decide +kernel⟩
theorem scWholeD : FnScope ["value"] ["value"] (defScope sWhole) := ⟨rfl, rfl, rfl, by decide +kernel, rfl, by decide +kernel, by decide +kernel⟩
theorem scStR : FnScope ["states", "value"] ["states", "value"] (defScope sStR) := ⟨rfl, rfl, rfl, by decide +kernel, rfl, by decide +kernel, by decide +kernel⟩
abbrev sgn1' (c : Nat) : PySem.Str := ⟨#[c]⟩
abbrev marks62 : PySem.Str := PySem.Str.ofString "abcdefghijklmnopqrstuvwxyzABCDEFGHIJKLMNOPQRSTUVWXYZ0123456789"
abbrev low26 : PySem.Str := PySem.Str.ofString "abcdefghijklmnopqrstuvwxyz"
theorem mem_marks (c : Nat) : decide (c ∈ marks62.cps.toList) = markC c := by
  have a : ∀ c, c < 128 → decide (c ∈ marks62.cps.toList) = markC c := by decide +kernel
  have b : ∀ c ∈ marks62.cps.toList, c < 128 := by decide +kernel
  by_cases h : c < 128
  · exact a c h
  · rw [decide_eq_false fun m => h (b c m)]
    unfold markC
    rw [decide_eq_false (p := c ≤ 122) (by omega), decide_eq_false (p := c ≤ 90) (by omega), decide_eq_false (p := c ≤ 57) (by omega), Bool.and_false, Bool.and_false, Bool.and_false]
    rfl
theorem mem_low (c : Nat) : decide (c ∈ low26.cps.toList) = lowC c := by
  have a : ∀ c, c < 128 → decide (c ∈ low26.cps.toList) = lowC c := by decide +kernel
  have b : ∀ c ∈ low26.cps.toList, c < 128 := by decide +kernel
  by_cases h : c < 128
  · exact a c h
  · rw [decide_eq_false fun m => h (b c m)]
    unfold lowC
    rw [decide_eq_false (p := c ≤ 122) (by omega), Bool.and_false]
theorem filter_all {p : Nat → Bool} {l : List Nat} : decide (((l.filter fun c => !p c).length : Int) = 0) = l.all p := by
  induction l with
  | nil => rfl
  | cons c l ih =>
    rw [List.filter_cons, List.all_cons]
    cases h : p c with
    | true => rw [if_neg (by rw [Bool.not_true]; exact Bool.false_ne_true), ih, Bool.true_and]
    | false =>
      rw [if_pos (by rfl), Bool.false_and]
      refine decide_eq_false ?_
      rw [List.length_cons]
      omega
/-- ascending letters are at most 26 -/
theorem up_few {l : List Nat} (low : ∀ c ∈ l, lowC c = true) (up : ∀ (i c d : Nat), l[i]? = some c → l[i + 1]? = some d → c < d) : l.length ≤ 26 := by
  have base : ∀ i c, l[i]? = some c → 97 + i ≤ c := by
    intro i
    induction i with
    | zero =>
      intro c e
      have z := low c (List.mem_of_getElem? e)
      unfold lowC at z
      rw [Bool.and_eq_true, decide_eq_true_eq] at z
      omega
    | succ i ih =>
      intro c e
      have li := (List.getElem?_eq_some_iff.mp e).1
      have e0 : l[i]? = some l[i] := List.getElem?_eq_getElem (by omega)
      have := ih _ e0
      have := up i _ _ e0 e
      omega
  refine Nat.le_of_not_lt fun h => ?_
  have e : l[26]? = some l[26] := List.getElem?_eq_getElem h
  have := base 26 _ e
  have z := low _ (List.mem_of_getElem? e)
  unfold lowC at z
  rw [Bool.and_eq_true, decide_eq_true_eq, decide_eq_true_eq] at z
  omega
section
variable {P : Program} {w : World} {K : PySem.W.Frag} {mg : PySem.Str → Option Value} {base : Heap}
/-! _law_whole, _law_state_right, _law_symbol_right, _law_letters_right: of any value -/
theorem okD_whole {f : Addr} {fd : FuncData} (F : Fun K "_law_whole" "_law_whole" sWhole f fd) (T : TM mg) : FnOk P w K mg base CX0 1 f fd ["value"] (spIntegerD K) := by
  refine F.ok scWholeD (fun vs H Q E h => ?_) (fun cdv A outer s H vs Q E hr h => ?_)
  · obtain ⟨v, d, rfl, _⟩ := h
    rfl
  · obtain ⟨v, d, rfl, hd, k⟩ := h
    refine ⟨_, pss_one (ps_ret (pe_and (pe_callB call_isi (by rfl) T.isi (by decide +kernel) (pa_cons (pv 0) (pa_cons (pe_bltn (v := .ty "int") (by rfl) T.int PyProof.Rows.Boot.int rfl) pa_nil)))
      (pe_one (pe_not (pe_callB call_isi (by rfl) T.isi (by decide +kernel) (pa_cons (pv 0) (pa_cons (pe_bltn (v := .ty "bool") (by rfl) T.bool PyProof.Rows.Boot.bool rfl) pa_nil))))))), ?_⟩
    refine ⟨_, rfl, _, _, _, _, isIntT d, rfl, .ty _, dp_tyx hd, kit_int d, _, rfl, ?_⟩
    refine ite2 (fun c => ⟨_, rfl, _, _, _, _, isBoolT d, rfl, .ty _, dp_tyx hd, kit_bool d, _, rfl, ?_⟩) (fun c => ?_)
    · have e : isIntD d = !isBoolT d := by cases d <;> first | rfl | cases c
      rw [e] at k
      exact k
    · have e : isIntD d = false := by cases d <;> first | rfl | exact absurd rfl c
      rw [e] at k
      exact k
theorem okD_stR {f : Addr} {fd : FuncData} (F : Fun K "_law_state_right" "_law_state_right" sStR f fd) (G : Got P w K mg base "_law_whole" 1 ["value"] (spIntegerD K)) : FnOk P w K mg base CX0 2 f fd ["states", "value"] (spStateD K) := by
  refine F.ok scStR (fun vs H Q E h => ?_) (fun cdv A outer s H vs Q E hr h => ?_)
  · obtain ⟨n, v, d, rfl, _⟩ := h
    rfl
  · obtain ⟨n, v, d, rfl, hd, k⟩ := h
    have nd := scStR.nd
    have h1 := hr
    refine ⟨_, (pss_one (ps_ret (pe_and (pe_got G h1 (by rfl) (pa_cons (pv 1) pa_nil)) (pe_and (pe_cmpR op_ge (pv 1) pe_int (nomark _)) (pe_one (pe_cmpR op_lt (pv 1) (pv 0) (nomark _))))))), ?_⟩
    refine ⟨_, rfl, v, d, rfl, hd, _, rfl, ite2 (fun c => ?_) (fun c => ?_)⟩
    · obtain ⟨z, rfl, rfl⟩ := dp_int hd c
      have k' : Q (.bl (decide (0 ≤ z) && decide (z ≤ n - 1))) H := k
      refine ⟨_, rfl, _, _, rfl, rfl, _, rfl, ite2 (fun c2 => ?_) (fun c2 => ?_)⟩
      · have c' : decide (0 ≤ z) = true := decide_eq_true (of_decide_eq_true c2)
        rw [c', Bool.true_and] at k'
        refine ⟨_, rfl, _, rfl, _, _, rfl, rfl, ?_⟩
        have e : decide (z < n) = decide (z ≤ n - 1) := decide_eq_decide.mpr (by omega)
        show Q (.bl (decide (z < n))) H
        rw [e]
        exact k'
      · have c' : decide (0 ≤ z) = false := decide_eq_false fun y => c2 (decide_eq_true y)
        rw [c', Bool.false_and] at k'
        exact k'
    · have e : btw 0 (n - 1) d = false := by cases d <;> first | rfl | exact absurd rfl c
      rw [e] at k
      exact k
theorem okD_symR {f : Addr} {fd : FuncData} (F : Fun K "_law_symbol_right" "_law_symbol_right" sSymR f fd) (T : TM mg) : FnOk P w K mg base CX0 1 f fd ["value"] (spSymbolD K) := by
  refine F.ok scSymR (fun vs H Q E h => ?_) (fun cdv A outer s H vs Q E hr h => ?_)
  · obtain ⟨v, d, rfl, _⟩ := h
    rfl
  · obtain ⟨v, d, rfl, hd, sh, k⟩ := h
    have nd := scSymR.nd
    refine ⟨_, (pss_cons (ps_set (i := 1) nd rfl (Or.inr rfl) pe_str)
      (C8.pss_cut (ps_if (PW.pt (pw_or (pt_not (pt_val (pe_callB call_isi (by rfl) T.isi (by decide +kernel) (pa_cons (pv 0) (pa_cons (pe_bltn (v := .ty "str") (by rfl) T.str PyProof.Rows.Boot.str rfl) pa_nil))))) (pw_or (pt_cmpR op_lt (pe_callB call_len_str (by rfl) T.len PySem.boot_len (pa_cons (pv 0) pa_nil)) pe_int (nomark _)) (pw_or1 (pt_cmpR op_gt (pe_callB call_len_str (by rfl) T.len PySem.boot_len (pa_cons (pv 0) pa_nil)) pe_int (nomark _))))))
        (pss_one (ps_ret pe_bl))
        pss_nil)
      (pss_one (ps_ret (pe_cmpR op_eq (pe_callB call_len_seq (by rfl) T.len PySem.boot_len (pa_cons (pe_lc (own := [("sign", 2)]) (g := gName 2) (by rfl) nd (pi_str (pv 0)) (blkOk_by (own := [("sign", 2)]) (N := nSymR) (sc := defScope sSymR) (by decide +kernel)) (fun _ _ _ _ _ => pg_name (i := 2) nd rfl (Or.inl rfl)) (fun _ _ _ _ _ => pts_one (pt_cmpR op_notIn_sign (pv 2) (pv 1) rfl)) (fun _ _ _ _ _ => (pv 2))) pa_nil)) pe_int (nomark _)))))), ?_⟩
    refine ⟨fun σ' H' => ∃ x : PySem.Str, v = .str x ∧ d = .str x ∧ σ' = [some (.str x), some (.str marks62), none] ∧ H' = H ∧ (decide (1 ≤ x.length) && decide (x.length ≤ 8)) = true, ?_, ?_⟩
    · refine ⟨_, rfl, _, _, _, _, isStrT d, rfl, .ty _, dp_tyx hd, kit_str d, _, rfl, ?_⟩
      cases hb : isStrT d with
      | false =>
        have q := k H (Same.refl _)
        rw [(not_str hb).2.1] at q
        exact iteT q
      | true =>
      obtain ⟨x, rfl, rfl⟩ := dp_str hd hb
      have sz : x.length ≤ sizeLine := Nat.le_trans (sh x rfl) (by decide)
      refine iteF ?_
      have stop : (decide (1 ≤ x.length) && decide (x.length ≤ 8)) = false → Q (.bl false) H := fun e => by
        have q := k H (Same.refl _)
        have u : symD (.str x) = ((decide (1 ≤ x.length) && decide (x.length ≤ 8)) && x.cps.toList.all markC) := rfl
        rw [u, e, Bool.false_and] at q
        exact q
      refine ⟨_, rfl, x, rfl, sz, _, _, rfl, rfl, _, rfl, ite2 (fun c => ?_) (fun c => ?_)⟩
      · have c' := of_decide_eq_true c
        exact stop (by rw [decide_eq_false (p := 1 ≤ x.length) (by omega)]; rfl)
      have c1 : ¬ ((x.length : Int) < 1) := fun z => c (decide_eq_true z)
      refine ⟨_, rfl, x, rfl, sz, _, _, rfl, rfl, _, rfl, ite2 (fun c2 => ?_) (fun c2 => ?_)⟩
      · have c2' := of_decide_eq_true c2
        exact stop (by rw [decide_eq_false (p := x.length ≤ 8) (by omega), Bool.and_false])
      have c3 : ¬ ((x.length : Int) > 8) := fun z => c2 (decide_eq_true z)
      exact ⟨x, rfl, rfl, rfl, rfl, by rw [decide_eq_true (by omega), decide_eq_true (by omega)]; rfl⟩
    rintro _ H1 ⟨x, rfl, rfl, rfl, e1, e2⟩
    subst e1
    have l8 : x.cps.size ≤ 1000 := sh x rfl
    refine ⟨_, rfl, x, rfl, fun D hD => lc_it walk_str (fun i H' => Same H1 H' ∧ H' D = some (.lst ((((x.cps.toList.take i).filter fun c => !markC c).map sgn1').map V.str)))
      ⟨same_new hD, upd_same⟩ (fun _ _ _ _ => trivial) ?_ ?_⟩
    · rintro i y H2 H3 hi ⟨s2, hD2⟩ ⟨rfl, c0, hc0, rfl⟩
      have hc1 : x.cps.toList[i]? = some c0 := by rw [Array.getElem?_toList]; exact hc0
      refine ⟨rfl, ?_⟩
      refine ⟨_, rfl, _, rfl, c0, marks62, rfl, rfl, _, rfl, ?_⟩
      rw [mem_marks]
      have st : ((x.cps.toList.take (i + 1)).filter fun c => !markC c) = ((x.cps.toList.take i).filter fun c => !markC c) ++ (if (!markC c0) = true then [c0] else []) := by
        rw [take_at hc1, List.filter_append, List.filter_cons]
        split <;> rfl
      refine ite2 (fun c => ?_) (fun c => ?_)
      · rw [if_pos c] at st
        refine ⟨_, rfl, _, hD2, ?_, same_mut s2 hD, ?_⟩
        · rw [List.length_map, List.length_map]
          exact Nat.lt_of_le_of_lt (Nat.le_trans (List.length_filter_le _ _) (by rw [List.length_take, Array.length_toList]; exact Nat.le_trans (Nat.min_le_right _ _) l8)) (by decide)
        · rw [upd_same, st, List.map_append, List.map_append] <;> rfl
      · rw [if_neg c, List.append_nil] at st
        exact ⟨s2, by rw [st]; exact hD2⟩
    · rintro H2 ⟨s2, hD2⟩
      have full : x.cps.toList.take x.cps.size = x.cps.toList := List.take_of_length_le (by rw [Array.length_toList]; exact Nat.le_refl _)
      rw [full] at hD2
      refine ⟨D, _, rfl, .inl (SqL.of hD2), rfl, ?_⟩
      have q := k H2 s2
      have u : symD (.str x) = ((decide (1 ≤ x.length) && decide (x.length ≤ 8)) && x.cps.toList.all markC) := rfl
      rw [u, e2, Bool.true_and, ← filter_all] at q
      have e3 : decide (V.int ((((x.cps.toList.filter fun c => !markC c).map sgn1').map V.str).length : Int) = V.int 0) = decide (((x.cps.toList.filter fun c => !markC c).length : Int) = 0) := by
        rw [List.length_map, List.length_map]
        simp
      rw [e3]
      exact q
end
end Mk

set_option Elab.async false
set_option linter.unusedVariables false
set_option maxRecDepth 100000
set_option maxHeartbeats 16000000
namespace Mk
open PySem L2 Pk
/-- the first i letters are low and ascend -/
def UpTo (x : PySem.Str) (i : Nat) : Prop := (∀ c ∈ x.cps.toList.take i, lowC c = true) ∧ ∀ (j c d : Nat), j + 1 < i → x.cps.toList[j]? = some c → x.cps.toList[j + 1]? = some d → c < d
theorem alpha_upTo {x : PySem.Str} (h : UpTo x x.length) (pos : 1 ≤ x.length) : Alpha x := by
  have len : x.cps.toList.length = x.length := Array.length_toList
  have low : ∀ c ∈ x.cps.toList, lowC c = true := fun c m => h.1 c (by rw [List.take_of_length_le (by omega)]; exact m)
  have up : ∀ (i c d : Nat), x.cps.toList[i]? = some c → x.cps.toList[i + 1]? = some d → c < d := fun i c d e1 e2 => h.2 i c d (by have := (List.getElem?_eq_some_iff.mp e2).1; omega) e1 e2
  refine ⟨?_, pos, ?_, up⟩
  · unfold lowB
    exact List.all_eq_true.mpr low
  · have := up_few low up
    omega
theorem upTo_alpha {x : PySem.Str} (a : Alpha x) (i : Nat) : UpTo x i := by
  have low := a.low
  unfold lowB at low
  exact ⟨fun c m => List.all_eq_true.mp low c (List.mem_of_mem_take m), fun j c d _ e1 e2 => a.up j c d e1 e2⟩
section
variable {P : Program} {w : World} {K : PySem.W.Frag} {mg : PySem.Str → Option Value} {base : Heap}
theorem okD_letR {f : Addr} {fd : FuncData} (F : Fun K "_law_letters_right" "_law_letters_right" sLetR f fd) (T : TM mg) : FnOk P w K mg base CX0 1 f fd ["value"] (spAlphabetD K) := by
  refine F.ok scLetR (fun vs H Q E h => ?_) (fun cdv A outer s H vs Q E hr h => ?_)
  · obtain ⟨v, d, rfl, _⟩ := h
    rfl
  · obtain ⟨v, d, rfl, hd, sh, k⟩ := h
    have nd := scLetR.nd
    refine ⟨_, (C8.pss_cut (ps_if (PW.pt (pw_or (pt_not (pt_val (pe_callB call_isi (by rfl) T.isi (by decide +kernel) (pa_cons (pv 0) (pa_cons (pe_bltn (v := .ty "str") (by rfl) T.str PyProof.Rows.Boot.str rfl) pa_nil))))) (pw_or1 (pt_cmpR op_eq (pv 0) pe_str (nomark _)))))
        (pss_one (ps_ret pe_bl))
        pss_nil)
      (pss_cons (ps_for PassesOwn.never rfl (pi_range1 (by rfl) T.range (pa_cons (pe_callB call_len_str (by rfl) T.len PySem.boot_len (pa_cons (pv 0) pa_nil)) pa_nil)) (pg_name (i := 1) nd rfl (Or.inl rfl))
        (pss_one (ps_if (PW.pt (pw_or (pt_cmpR op_notIn_sign (pe_ix ix_str (pv 0) (pv 1) fun _ _ => rfl) pe_str rfl) (pw_or1 (PW.pt (pw_and (pt_cmpR op_gt (pv 1) pe_int (nomark _)) (pw_and1 (pt_cmpR op_le_str (pe_ix ix_str (pv 0) (pv 1) fun _ _ => rfl) (pe_ix ix_str (pv 0) (pe_op op_sub (pv 1) pe_int) fun _ _ => rfl) (nomark _))))))))
          (pss_one (ps_ret pe_bl))
          pss_nil)))
      (pss_one (ps_ret pe_bl)))), ?_⟩
    refine ⟨fun σ' H' => ∃ x : PySem.Str, v = .str x ∧ d = .str x ∧ σ' = [some (.str x), none] ∧ H' = H ∧ 1 ≤ x.length, ?_, ?_⟩
    · refine ⟨_, rfl, _, _, _, _, isStrT d, rfl, .ty _, dp_tyx hd, kit_str d, _, rfl, ?_⟩
      cases hb : isStrT d with
      | false =>
        refine iteT (k false H (Same.refl _) ⟨(fun z => nomatch z), fun ⟨x, e, _⟩ => ?_⟩)
        rw [e] at hb
        cases hb
      | true =>
      obtain ⟨x, rfl, rfl⟩ := dp_str hd hb
      refine iteF ?_
      refine ⟨_, rfl, rfl, _, rfl, ?_⟩
      rw [dec_str]
      refine ite2 (fun c => ?_) (fun c => ?_)
      · refine k false H (Same.refl _) ⟨(fun z => nomatch z), fun ⟨y, e, a⟩ => ?_⟩
        have e' : x = y := by cases e; rfl
        have pos := a.pos
        rw [← e', of_decide_eq_true c] at pos
        exact absurd pos (by decide +kernel)
      · have ne : x ≠ nil0 := fun e => c (decide_eq_true e)
        refine ⟨x, rfl, rfl, rfl, rfl, Nat.pos_of_ne_zero fun e => ne ?_⟩
        have : x.cps.toList = [] := List.eq_nil_of_length_eq_zero (by rw [Array.length_toList]; exact e)
        cases x with
        | mk cps =>
          have e2 : cps = #[] := Array.toList_inj.mp this
          rw [e2]
          decide +kernel
    rintro _ H1 ⟨x, rfl, rfl, rfl, e1, pos⟩
    subst e1
    have len : x.cps.toList.length = x.length := Array.length_toList
    have l8 : x.length ≤ 1000 := sh x rfl
    have sz : x.length ≤ sizeLine := Nat.le_trans l8 (by decide)
    have no : ∀ {H'}, Same H1 H' → ¬ Alpha x → Q (.bl false) H' := fun s n => k false _ s ⟨(fun z => nomatch z), fun ⟨y, e, a⟩ => by
      have e' : x = y := by cases e; rfl
      rw [← e'] at a
      exact absurd a n⟩
    refine ⟨_, rfl, x, rfl, sz, _, rfl, by omega, by omega, for_range (lo := 0) (n := ((x.length : Nat) : Int).toNat) (fun i σ H' => H' = H1 ∧ UpTo x i ∧ ∃ v1 : Option V, σ = [some (.str x), v1]) ⟨rfl, ⟨(fun c m => absurd m List.not_mem_nil), fun j c d h => absurd h (Nat.not_lt_zero _)⟩, _, rfl⟩ ?_ ?_⟩
    · rintro i σ H2 hi ⟨e2, inv, v1, rfl⟩
      subst e2
      have li : i < x.cps.toList.length := by omega
      have ec : x.cps.toList[i]? = some x.cps.toList[i] := List.getElem?_eq_getElem li
      have at0 : atI x.cps.toList (0 + (i : Int)) = some x.cps.toList[i] := by rw [Int.zero_add]; exact atI_nat ec
      refine ⟨_, rfl, _, rfl, x, _, _, rfl, rfl, sz, at0, _, low26, rfl, rfl, _, rfl, ?_⟩
      rw [mem_low]
      refine ite2 (fun c => ?_) (fun c => ?_)
      · refine no (Same.refl _) fun a => ?_
        have z := (upTo_alpha a (i + 1)).1 x.cps.toList[i] (by rw [take_at ec]; exact List.mem_append_right _ (List.mem_singleton.mpr rfl))
        rw [z] at c
        cases c
      have lc : lowC x.cps.toList[i] = true := by
        cases h : lowC x.cps.toList[i] with
        | true => rfl
        | false => exact absurd (by rw [h]; rfl) c
      have grow : (∀ j, j + 1 = i → ∀ c d, x.cps.toList[j]? = some c → x.cps.toList[j + 1]? = some d → c < d) → UpTo x (i + 1) := fun h => by
        refine ⟨fun c m => ?_, fun j c d hj e1 e2 => ?_⟩
        · rw [take_at ec] at m
          rcases List.mem_append.mp m with m | m
          · exact inv.1 c m
          · rw [List.mem_singleton.mp m]; exact lc
        · by_cases z : j + 1 = i
          · exact h j z c d e1 e2
          · exact inv.2 j c d (by omega) e1 e2
      refine ⟨_, rfl, _, _, rfl, rfl, _, rfl, ite2 (fun c2 => ?_) (fun c2 => ?_)⟩
      rotate_left
      · have i0 : i = 0 := by
          have : ¬ ((0 : Int) + (i : Int) > 0) := fun z => c2 (decide_eq_true z)
          omega
        exact ⟨rfl, grow fun j hj => by omega, _, rfl⟩
      have ip : 0 < i := by
        have := of_decide_eq_true c2
        omega
      obtain ⟨j, rfl⟩ : ∃ j, i = j + 1 := ⟨i - 1, by omega⟩
      have ej : x.cps.toList[j]? = some x.cps.toList[j] := List.getElem?_eq_getElem (by omega)
      have at1 : atI x.cps.toList (0 + ((j + 1 : Nat) : Int) - 1) = some x.cps.toList[j] := by
        rw [show (0 : Int) + ((j + 1 : Nat) : Int) - 1 = ((j : Nat) : Int) by omega]
        exact atI_nat ej
      refine ⟨_, rfl, _, rfl, x, _, _, rfl, rfl, sz, at0, _, rfl, _, rfl, _, _, rfl, rfl, x, _, _, rfl, rfl, sz, at1, _, _, rfl, rfl, _, rfl, ?_⟩
      have el : decide (([x.cps.toList[j]] : List Nat) < [x.cps.toList[j + 1]]) = decide (x.cps.toList[j] < x.cps.toList[j + 1]) := lt_one _ _
      refine ite2 (fun c3 => ?_) (fun c3 => ?_)
      · refine no (Same.refl _) fun a => ?_
        have z := a.up j _ _ ej ec
        have c4 : (!decide (([x.cps.toList[j]] : List Nat) < [x.cps.toList[j + 1]])) = true := c3
        rw [el, decide_eq_true z] at c4
        cases c4
      · refine ⟨rfl, grow fun j' hj c d e1 e2 => ?_, _, rfl⟩
        have : j' = j := by omega
        subst this
        rw [ej] at e1
        rw [ec] at e2
        rw [← Option.some.inj e1, ← Option.some.inj e2]
        refine Classical.byContradiction fun z => c3 ?_
        show (!decide (([x.cps.toList[j']] : List Nat) < [x.cps.toList[j' + 1]])) = true
        rw [el, decide_eq_false z]
        rfl
    · rintro σ H2 ⟨e2, inv, v1, rfl⟩
      subst e2
      have inv' : UpTo x x.length := by
        have : ((x.length : Nat) : Int).toNat = x.length := Int.toNat_natCast _
        rw [this] at inv
        exact inv
      exact k true _ (Same.refl _) ⟨fun _ => ⟨x, rfl, alpha_upTo inv' pos⟩, fun _ => rfl⟩
end
end Mk

set_option Elab.async false
set_option linter.unusedVariables false
set_option maxRecDepth 100000
set_option maxHeartbeats 32000000
namespace Mk
open PySem L2 Pk
abbrev sRuleR : Stmt := top 72
abbrev nRuleR : List PySem.Str := ["letters", "states", "rule", "state", "sign", "top", "after", "move", "deed", "symbol", "said", "letter"]
theorem scRuleR : FnScope nRuleR ["letters", "states", "rule"] (defScope sRuleR) := ⟨rfl, rfl, rfl, by decide +kernel, rfl, by decide +kernel, by decide +kernel⟩
theorem str_one {x : PySem.Str} {c : Nat} (h : x.cps.toList = [c]) : x = sgn1' c := by
  cases x with
  | mk cps =>
    have e2 : cps = #[c] := Array.toList_inj.mp h
    rw [e2]
theorem sign_mem (l x : PySem.Str) : decide (x ∈ [lt0, gt0] ++ l.cps.toList.map sgn1') = signB l x := by
  have ll : lt0 = sgn1' 60 := by decide +kernel
  have lg : gt0 = sgn1' 62 := by decide +kernel
  have inj : ∀ c d, sgn1' c = sgn1' d → c = d := fun c d e => by
    have z := congrArg (fun s : PySem.Str => s.cps.toList) e
    exact (List.cons.inj z).1
  unfold signB
  split
  · rename_i c hx
    rw [str_one hx, ll, lg]
    by_cases h1 : c ∈ ([60, 62] : List Nat)
    · rw [decide_eq_true h1, Bool.true_or]
      refine decide_eq_true (List.mem_append_left _ ?_)
      simp only [List.mem_cons, List.not_mem_nil, or_false] at h1
      rcases h1 with e | e <;> rw [e] <;> simp
    · rw [decide_eq_false h1, Bool.false_or]
      refine decide_eq_decide.mpr ?_
      rw [List.mem_append, List.mem_map]
      constructor
      · rintro (m | ⟨d, m, e⟩)
        · simp only [List.mem_cons, List.not_mem_nil, or_false] at m
          rcases m with e | e
          · exact absurd (by rw [inj _ _ e]; decide) h1
          · exact absurd (by rw [inj _ _ e]; decide) h1
        · rw [← inj _ _ e]; exact m
      · exact fun m => .inr ⟨c, m, rfl⟩
  · rename_i hx
    refine decide_eq_false fun m => ?_
    rcases List.mem_append.mp m with m | m
    · simp only [List.mem_cons, List.not_mem_nil, or_false] at m
      rcases m with e | e
      · exact hx 60 (by rw [e, ll])
      · exact hx 62 (by rw [e, lg])
    · obtain ⟨d, _, e⟩ := List.mem_map.mp m
      exact hx d (by rw [← e])
theorem deed_eq {t dd : PySem.Str} {y : PyData} (h : dd ∈ [keep0, pop0, push0, swap0]) : deedD t (.str dd) y = (!(decide (t = nil0) && decide (dd ∈ [pop0, swap0])) && (if decide (dd ∈ [push0, swap0]) = true then symD y else nilD y)) ∧ decide (dd ∈ [keep0, pop0]) = !decide (dd ∈ [push0, swap0]) := by
  have u : deedD t (.str dd) y = (decide (dd ∈ [keep0, pop0, push0, swap0]) && (!(decide (t = nil0) && !decide (dd ∈ [keep0, push0])) && (if decide (dd ∈ [push0, swap0]) = true then symD y else nilD y))) := rfl
  rw [u, decide_eq_true h, Bool.true_and]
  have k : (!decide (dd ∈ [keep0, push0])) = decide (dd ∈ [pop0, swap0]) ∧ decide (dd ∈ [keep0, pop0]) = !decide (dd ∈ [push0, swap0]) := by
    simp only [List.mem_cons, List.not_mem_nil, or_false] at h
    rcases h with e | e | e | e <;> rw [e] <;> decide +kernel
  rw [k.1]
  exact ⟨rfl, k.2⟩
section
variable {P : Program} {w : World} {K : PySem.W.Frag} {mg : PySem.Str → Option Value} {base : Heap}
structure RuleRDefs (P : Program) (w : World) (K : PySem.W.Frag) (mg : PySem.Str → Option Value) (base : Heap) : Prop where
  st : Got P w K mg base "_law_state_right" 2 ["states", "value"] (spStateD K)
  sym : Got P w K mg base "_law_symbol_right" 1 ["value"] (spSymbolD K)
  whole : Got P w K mg base "_law_whole" 1 ["value"] (spIntegerD K)
def spRuleR (K : PySem.W.Frag) : Sp := fun vs H Q _ => ∃ (l : PySem.Str) (n : Int) (v : V) (d : PyData), l.length ≤ 1000 ∧ vs = [.str l, .int n, v] ∧ Dp K H v d ∧ ShortAll d ∧ ∀ H', Same H H' → Q (.bl (ruleD l n d)) H'
theorem okD_ruleR {f : Addr} {fd : FuncData} (F : Fun K "_law_rule_right" "_law_rule_right" sRuleR f fd) (T : TM mg) (G : RuleRDefs P w K mg base) : FnOk P w K mg base CX0 3 f fd ["letters", "states", "rule"] (spRuleR K) := by
  refine F.ok scRuleR (fun vs H Q E h => ?_) (fun cdv A outer s H vs Q E hr h => ?_)
  · obtain ⟨l, n, v, d, ll, rfl, _⟩ := h
    rfl
  · obtain ⟨l, n, v, d, ll, rfl, hd, sh, k⟩ := h
    have nd := scRuleR.nd
    have h2 := hr
    have h1 := hr.mono (show 1 ≤ 2 by decide)
    obtain ⟨b, hb⟩ : ∃ b : Bool, isSeqT d = true → ∃ (a : Addr) (xs : List V) (ds : List PyData), v = .ref a ∧ SqB b K H a xs ∧ DpAll K H xs ds ∧ items d = some ds := by
      cases c : isSeqT d with
      | false => exact ⟨true, fun z => by cases z⟩
      | true =>
        obtain ⟨a, b, xs, ds, e1, e2, e3, e4⟩ := dp_seq hd c
        exact ⟨b, fun _ => ⟨a, xs, ds, e1, e2, e3, by rw [e4]; cases b <;> rfl⟩⟩
    refine ⟨_, (C8.pss_cut (ps_if (PW.pt (pw_or (pt_not (pt_val (pe_callB call_isiT (by rfl) T.isi (by decide +kernel) (pa_cons (pv 2) (pa_cons (pe_tup (pa_cons (pe_bltn (v := .ty "list") (by rfl) T.list PyProof.Rows.Boot.list rfl) (pa_cons (pe_bltn (v := .ty "tuple") (by rfl) T.tuple PyProof.Rows.Boot.tuple rfl) pa_nil))) pa_nil))))) (pw_or1 (pt_cmpR op_ne (pe_callB call_len_seq (by rfl) T.len PySem.boot_len (pa_cons (pv 2) pa_nil)) pe_int (nomark _)))))
        (pss_one (ps_ret pe_bl))
        pss_nil)
      (pss_cons (ps_asg (pv 2) (pg_sq b (by rfl) (pgs_cons (pg_name (i := 3) nd rfl (Or.inl rfl)) (pgs_cons (pg_name (i := 4) nd rfl (Or.inl rfl)) (pgs_cons (pg_name (i := 5) nd rfl (Or.inl rfl))
        (pgs_cons (pg_name (i := 6) nd rfl (Or.inl rfl)) (pgs_cons (pg_name (i := 7) nd rfl (Or.inl rfl)) (pgs_cons (pg_name (i := 8) nd rfl (Or.inl rfl)) (pgs_cons (pg_name (i := 9) nd rfl (Or.inl rfl)) (pgs_cons (pg_name (i := 10) nd rfl (Or.inl rfl)) pgs_nil))))))))))
      (C8.pss_cut (ps_if (PW.pt (pw_or (pt_not (pt_val (pe_got G.st h2 (by rfl) (pa_cons (pv 1) (pa_cons (pv 3) pa_nil))))) (pw_or1 (pt_not (pt_val (pe_got G.st h2 (by rfl) (pa_cons (pv 1) (pa_cons (pv 6) pa_nil))))))))
        (pss_one (ps_ret pe_bl))
        pss_nil)
      (C8.pss_cut (ps_if (PW.pt (pw_or (pt_not (pt_val (pe_callB call_isi (by rfl) T.isi (by decide +kernel) (pa_cons (pv 4) (pa_cons (pe_bltn (v := .ty "str") (by rfl) T.str PyProof.Rows.Boot.str rfl) pa_nil))))) (pw_or1 (pt_cmpR op_notIn_seq (pv 4) (pe_op op_cat (pe_lst (pa_cons pe_str (pa_cons pe_str pa_nil))) (pe_lc (own := [("letter", 11)]) (g := gName 11) (tt := tYes) (by rfl) nd (pi_str (pv 0)) (blkOk_by (own := [("letter", 11)]) (N := nRuleR) (sc := defScope sRuleR) (by decide +kernel)) (fun _ _ _ _ _ => pg_name (i := 11) nd rfl (Or.inl rfl)) (fun _ _ _ _ _ => pts_nil) (fun _ _ _ _ _ => (pv 11)))) rfl))))
        (pss_one (ps_ret pe_bl))
        pss_nil)
      (C8.pss_cut (ps_if (PW.pt (pw_or (pt_not (pt_val (pe_callB call_isi (by rfl) T.isi (by decide +kernel) (pa_cons (pv 5) (pa_cons (pe_bltn (v := .ty "str") (by rfl) T.str PyProof.Rows.Boot.str rfl) pa_nil))))) (pw_or1 (PW.pt (pw_and (pt_cmpR op_ne (pv 5) pe_str (nomark _)) (pw_and1 (pt_not (pt_val (pe_got G.sym h1 (by rfl) (pa_cons (pv 5) pa_nil))))))))))
        (pss_one (ps_ret pe_bl))
        pss_nil)
      (C8.pss_cut (ps_if (PW.pt (pw_or (pt_not (pt_val (pe_got G.whole h1 (by rfl) (pa_cons (pv 7) pa_nil)))) (pw_or (pt_cmpR op_lt (pv 7) (pe_un un_neg pe_int) (nomark _)) (pw_or (pt_cmpR op_gt (pv 7) pe_int (nomark _)) (pw_or (PW.pt (pw_and (pt_cmpR op_eq (pv 4) pe_str (nomark _)) (pw_and1 (pt_cmpR op_eq (pv 7) (pe_un un_neg pe_int) (nomark _))))) (pw_or1 (PW.pt (pw_and (pt_cmpR op_eq (pv 4) pe_str (nomark _)) (pw_and1 (pt_cmpR op_eq (pv 7) pe_int (nomark _)))))))))))
        (pss_one (ps_ret pe_bl))
        pss_nil)
      (C8.pss_cut (ps_if (PW.pt (pw_or (pt_not (pt_val (pe_callB call_isi (by rfl) T.isi (by decide +kernel) (pa_cons (pv 8) (pa_cons (pe_bltn (v := .ty "str") (by rfl) T.str PyProof.Rows.Boot.str rfl) pa_nil))))) (pw_or1 (pt_cmpR op_notIn_seq (pv 8) (pe_lst (pa_cons pe_str (pa_cons pe_str (pa_cons pe_str (pa_cons pe_str pa_nil))))) rfl))))
        (pss_one (ps_ret pe_bl))
        pss_nil)
      (C8.pss_cut (ps_if (PW.pt (pw_and (pt_cmpR op_eq (pv 5) pe_str (nomark _)) (pw_and1 (pt_cmpR op_in_seq (pv 8) (pe_lst (pa_cons pe_str (pa_cons pe_str pa_nil))) rfl))))
        (pss_one (ps_ret pe_bl))
        pss_nil)
      (C8.pss_cut (ps_if (PW.pt (pw_and (pt_cmpR op_in_seq (pv 8) (pe_lst (pa_cons pe_str (pa_cons pe_str pa_nil))) rfl) (pw_and1 (pt_not (pt_val (pe_got G.sym h1 (by rfl) (pa_cons (pv 9) pa_nil)))))))
        (pss_one (ps_ret pe_bl))
        pss_nil)
      (C8.pss_cut (ps_if (PW.pt (pw_and (pt_cmpR op_in_seq (pv 8) (pe_lst (pa_cons pe_str (pa_cons pe_str pa_nil))) rfl) (pw_and1 (PW.pt (pw_or (pt_not (pt_val (pe_callB call_isi (by rfl) T.isi (by decide +kernel) (pa_cons (pv 9) (pa_cons (pe_bltn (v := .ty "str") (by rfl) T.str PyProof.Rows.Boot.str rfl) pa_nil))))) (pw_or1 (pt_cmpR op_ne (pv 9) pe_str (nomark _))))))))
        (pss_one (ps_ret pe_bl))
        pss_nil)
      (C8.pss_cut (ps_if (PW.pt (pw_or (pt_not (pt_val (pe_callB call_isi (by rfl) T.isi (by decide +kernel) (pa_cons (pv 10) (pa_cons (pe_bltn (v := .ty "str") (by rfl) T.str PyProof.Rows.Boot.str rfl) pa_nil))))) (pw_or1 (pt_cmpR op_gt (pe_callB call_len_str (by rfl) T.len PySem.boot_len (pa_cons (pv 10) pa_nil)) pe_int (nomark _)))))
        (pss_one (ps_ret pe_bl))
        pss_nil)
      (pss_one (ps_ret (pe_cmpR op_eq (pe_callB call_len_seq (by rfl) T.len PySem.boot_len (pa_cons (pe_lc (own := [("letter", 11)]) (g := gName 11) (by rfl) nd (pi_str (pv 10)) (blkOk_by (own := [("letter", 11)]) (N := nRuleR) (sc := defScope sRuleR) (by decide +kernel)) (fun _ _ _ _ _ => pg_name (i := 11) nd rfl (Or.inl rfl)) (fun _ _ _ _ _ => pts_one (pt_cmpR op_notIn_sign (pv 11) pe_str rfl)) (fun _ _ _ _ _ => (pv 11))) pa_nil)) pe_int (nomark _))))))))))))))), ?_⟩
    refine ⟨fun σ' H' => ∃ (a : Addr) (xs : List V) (ds : List PyData), σ' = [some (.str l), some (.int n), some (.ref a), none, none, none, none, none, none, none, none, none] ∧ Same H H' ∧ SqB b K H a xs ∧ DpAll K H xs ds ∧ items d = some ds ∧ ds.length = 8, ?_, ?_⟩
    · have bad : (∀ ds, items d = some ds → ds.length ≠ 8) → ∀ H', Same H H' → Q (.bl false) H' := fun no H' s => by
        have e : ruleD l n d = false := by
          unfold ruleD
          split
          · rename_i hi
            exact absurd rfl (no _ hi)
          · rfl
        rw [← e]
        exact k H' s
      refine ⟨_, rfl, by decide, fun p hp => ?_⟩
      have tp := same_new (o := HO.tup [V.ty "list", V.ty "tuple"]) hp
      refine ⟨_, p, _, _, _, isSeqT d, rfl, upd_same, .cons (.ty _) (.cons (.ty _) .nil), dp_tyx (dp_mono tp _ _ hd), kit_sq d, _, rfl, ?_⟩
      cases c : isSeqT d with
      | false => exact iteT (bad (fun ds e => by cases d <;> first | (simp [isSeqT] at c; done) | (simp [items] at e; done)) _ tp)
      | true =>
      obtain ⟨a, xs, ds, rfl, hs, ha, hi⟩ := hb c
      refine iteF ?_
      have lx := dpa_len ha
      refine ⟨_, rfl, a, xs, rfl, (hs.mono tp).any, rfl, _, rfl, ite2 (fun c2 => ?_) (fun c2 => ?_)⟩
      · refine bad (fun ds' e => ?_) _ tp
        rw [hi] at e
        rw [← Option.some.inj e]
        intro z
        have c2' : (!decide (V.int (xs.length : Int) = V.int 8)) = true := c2
        have z8 : decide (V.int ((8 : Nat) : Int) = V.int 8) = true := decide_eq_true rfl
        rw [lx, z, z8] at c2'
        cases c2'
      · refine ⟨a, xs, ds, rfl, tp, hs, ha, hi, Classical.byContradiction fun z => c2 ?_⟩
        rw [decide_eq_false (fun u => z (by have := V.int.inj u; omega))]
        rfl
    rintro _ H1 ⟨a, xs, ds, rfl, s1, hs, ha, hi, lds⟩
    have shd := sh ds hi
    have k2 : ∀ b', ruleD l n d = b' → ∀ H', Same H H' → Q (.bl b') H' := fun b' e H' s => by rw [← e]; exact k H' s
    unfold ruleD at k2
    rw [hi] at k2
    clear k hb
    match ds, lds, ha, hi, shd, k2 with
    | [d0, d1, d2, d3, d4, d5, d6, d7], _, ha, hi, shd, k2 =>
    cases ha with
    | cons g0 ha =>
    cases ha with
    | cons g1 ha =>
    cases ha with
    | cons g2 ha =>
    cases ha with
    | cons g3 ha =>
    cases ha with
    | cons g4 ha =>
    cases ha with
    | cons g5 ha =>
    cases ha with
    | cons g6 ha =>
    cases ha with
    | cons g7 ha =>
    cases ha
    rename_i v0 v1 v2 v3 v4 v5 v6 v7
    have K2 : ∀ b', ((btw 0 (n - 1) d0 && (signD l d1 && topD d2)) && ((btw 0 (n - 1) d3 && moveS d1 d4) && (deedS d2 d5 d6 && letD 3 d7))) = b' → ∀ H', Same H H' → Q (.bl b') H' := k2
    clear k2
    have sh' : ∀ x ∈ [d0, d1, d2, d3, d4, d5, d6, d7], Short 1000 x := shd
    have p2 : Short 1000 d2 := sh' _ (by simp)
    have p6 : Short 1000 d6 := sh' _ (by simp)
    have p7 : Short 1000 d7 := sh' _ (by simp)
    refine ⟨_, rfl, gsq_of ⟨a, [v0, v1, v2, v3, v4, v5, v6, v7], rfl, hs.mono s1, rfl, _, _, rfl, _, _, rfl, _, _, rfl, _, _, rfl, _, _, rfl, _, _, rfl, _, _, rfl, _, _, rfl, rfl, ?_⟩⟩
    -- state, after
    refine ⟨fun σ' H' => σ' = [some (.str l), some (.int n), some (.ref a), some v0, some v1, some v2, some v3, some v4, some v5, some v6, some v7, none] ∧ Same H H' ∧ btw 0 (n - 1) d0 = true ∧ btw 0 (n - 1) d3 = true, ?_, ?_⟩
    · refine ⟨_, rfl, _, rfl, n, v0, d0, rfl, dp_mono s1 _ _ g0, _, rfl, ?_⟩
      cases c0 : btw 0 (n - 1) d0 with
      | false => exact iteT (K2 false (by rw [c0]; rfl) _ s1)
      | true =>
      refine iteF ⟨_, rfl, _, rfl, n, v3, d3, rfl, dp_mono s1 _ _ g3, _, rfl, ?_⟩
      cases c3 : btw 0 (n - 1) d3 with
      | false => exact iteT (K2 false (by rw [c3]; simp) _ s1)
      | true => exact iteF ⟨rfl, s1, rfl, rfl⟩
    rintro _ H2 ⟨rfl, s2, e0, e3⟩
    rw [e0, e3, Bool.true_and, Bool.true_and] at K2
    -- sign
    refine ⟨fun σ' H' => ∃ x1, v1 = .str x1 ∧ d1 = .str x1 ∧ σ' = [some (.str l), some (.int n), some (.ref a), some v0, some (.str x1), some v2, some v3, some v4, some v5, some v6, some v7, none] ∧ Same H H' ∧ signD l d1 = true, ?_, ?_⟩
    · refine ⟨_, rfl, _, _, _, _, isStrT d1, rfl, .ty _, dp_tyx (dp_mono s2 _ _ g1), kit_str d1, _, rfl, ?_⟩
      cases hb1 : isStrT d1 with
      | false => exact iteT (K2 false (by rw [show signD l d1 = false by cases d1 <;> first | rfl | cases hb1]; rfl) _ s2)
      | true =>
      obtain ⟨x1, rfl, rfl⟩ := dp_str g1 hb1
      refine iteF ?_
      have lx1 : l.cps.size ≤ 1000 := ll
      refine ⟨_, rfl, show 2 ≤ sizeLine by decide, fun u nu => ?_⟩
      have tu := same_new (o := HO.lst [V.str lt0, V.str gt0]) nu
      refine ⟨_, rfl, l, rfl, fun D hD => lc_it walk_str (fun i H' => Same (upd H2 u (.lst [V.str lt0, V.str gt0])) H' ∧ H' D = some (.lst (((l.cps.toList.take i).map sgn1').map V.str)))
        ⟨same_new hD, upd_same⟩ (fun _ _ _ _ => trivial) ?_ ?_⟩
      · rintro i y H5 H6 hi ⟨s5, hD5⟩ ⟨rfl, c0, hc0, rfl⟩
        have hc1 : l.cps.toList[i]? = some c0 := by rw [Array.getElem?_toList]; exact hc0
        refine ⟨rfl, ?_⟩
        refine ⟨_, rfl, _, hD5, ?_, same_mut s5 hD, ?_⟩
        · rw [List.length_map, List.length_map, List.length_take, Array.length_toList]
          exact Nat.lt_of_le_of_lt (Nat.le_trans (Nat.min_le_right _ _) lx1) (by decide)
        · rw [upd_same, take_at hc1, List.map_append, List.map_append] <;> rfl
      · rintro H5 ⟨s5, hD5⟩
        have full : l.cps.toList.take l.cps.size = l.cps.toList := List.take_of_length_le (by rw [Array.length_toList]; exact Nat.le_refl _)
        rw [full] at hD5
        refine ⟨u, D, _, _, rfl, rfl, s5 _ _ upd_same, hD5, ?_, fun q nq => ?_⟩
        · rw [List.length_map, List.length_map, Array.length_toList]
          exact Nat.le_trans (Nat.add_le_add_left lx1 _) (by decide)
        have s25 := (tu.trans s5).trans (same_new (o := HO.lst ([V.str lt0, V.str gt0] ++ (l.cps.toList.map sgn1').map V.str)) nq)
        have all : ([V.str lt0, V.str gt0] ++ (l.cps.toList.map sgn1').map V.str) = ([lt0, gt0] ++ l.cps.toList.map sgn1').map V.str := by rw [List.map_append] <;> rfl
        have fl : (([lt0, gt0] ++ l.cps.toList.map sgn1').map V.str).all flatV = true := by
          rw [List.all_map]
          exact List.all_eq_true.mpr fun x m => rfl
        refine ⟨q, ([lt0, gt0] ++ l.cps.toList.map sgn1').map V.str, rfl, .inl (SqL.of (by rw [upd_same]; exact congrArg (fun z => some (HO.lst z)) all)), rfl, fl, _, rfl, ?_⟩
        rw [inV_strs, sign_mem]
        cases cs : signB l x1 with
        | false => exact iteT (K2 false (by rw [show signD l (.str x1) = false from cs]; rfl) _ (s2.trans s25))
        | true => exact iteF ⟨x1, rfl, rfl, rfl, s2.trans s25, cs⟩
    rintro _ H3 ⟨x1, rfl, rfl, rfl, s3, e1⟩
    rw [e1, Bool.true_and] at K2
    -- top
    refine ⟨fun σ' H' => ∃ x2, v2 = .str x2 ∧ d2 = .str x2 ∧ σ' = [some (.str l), some (.int n), some (.ref a), some v0, some (.str x1), some (.str x2), some v3, some v4, some v5, some v6, some v7, none] ∧ Same H H' ∧ topD d2 = true, ?_, ?_⟩
    · refine ⟨_, rfl, _, _, _, _, isStrT d2, rfl, .ty _, dp_tyx (dp_mono s3 _ _ g2), kit_str d2, _, rfl, ?_⟩
      cases hb2 : isStrT d2 with
      | false => exact iteT (K2 false (by rw [show topD d2 = false by cases d2 <;> first | rfl | cases hb2]; rfl) _ s3)
      | true =>
      obtain ⟨x2, rfl, rfl⟩ := dp_str g2 hb2
      refine iteF ⟨_, rfl, rfl, _, rfl, ?_⟩
      rw [dec_str]
      have ut : topD (.str x2) = (symD (.str x2) || decide (x2 = nil0)) := rfl
      refine ite2 (fun c => ?_) (fun c => ?_)
      · have c' : decide (x2 = nil0) = false := by
          have z : (!decide (x2 = nil0)) = true := c
          cases h : decide (x2 = nil0) with
          | false => rfl
          | true => rw [h] at z; cases z
        rw [c', Bool.or_false] at ut
        refine ⟨_, rfl, .str x2, .str x2, rfl, .str x2, p2, fun H4 s4 => ⟨_, rfl, ?_⟩⟩
        cases hs2 : symD (.str x2) with
        | false => exact iteT (K2 false (by rw [ut, hs2]; rfl) _ (s3.trans s4))
        | true => exact iteF ⟨x2, rfl, rfl, rfl, s3.trans s4, by rw [ut, hs2]⟩
      · have c' : decide (x2 = nil0) = true := by
          cases h : decide (x2 = nil0) with
          | true => rfl
          | false => exact absurd (by show (!decide (x2 = nil0)) = true; rw [h]; rfl) c
        exact ⟨x2, rfl, rfl, rfl, s3, by rw [ut, c', Bool.or_true]⟩
    rintro _ H4 ⟨x2, rfl, rfl, rfl, s4, e2⟩
    rw [e2, Bool.true_and] at K2
    -- move
    refine ⟨fun σ' H' => σ' = [some (.str l), some (.int n), some (.ref a), some v0, some (.str x1), some (.str x2), some v3, some v4, some v5, some v6, some v7, none] ∧ Same H H' ∧ moveD x1 d4 = true, ?_, ?_⟩
    · have km : moveD x1 d4 = false → ∀ H', Same H H' → Q (.bl false) H' := fun e => K2 false (by rw [show moveS (.str x1) d4 = false from e]; rfl)
      refine ⟨_, rfl, v4, d4, rfl, dp_mono s4 _ _ g4, _, rfl, ?_⟩
      cases hi4 : isIntD d4 with
      | false => exact iteT (km (by cases d4 <;> first | rfl | cases hi4) _ s4)
      | true =>
      obtain ⟨z, rfl, rfl⟩ := dp_int g4 hi4
      have um : moveD x1 (.int z) = ((decide (-1 ≤ z) && decide (z ≤ 1)) && !((decide (x1 = lt0) && decide (z = -1)) || (decide (x1 = gt0) && decide (z = 1)))) := rfl
      refine iteF ⟨_, rfl, _, rfl, _, _, rfl, rfl, _, rfl, ite2 (fun c => ?_) (fun c => ?_)⟩
      · have c' := of_decide_eq_true c
        exact km (by rw [um, decide_eq_false (p := -1 ≤ z) (by omega)]; rfl) _ s4
      have c1 : -1 ≤ z := by
        have : ¬ (z < -1) := fun y => c (decide_eq_true y)
        omega
      refine ⟨_, rfl, _, _, rfl, rfl, _, rfl, ite2 (fun c => ?_) (fun c => ?_)⟩
      · have c' := of_decide_eq_true c
        exact km (by rw [um, decide_eq_false (p := z ≤ 1) (by omega), Bool.and_false]; rfl) _ s4
      have c2 : z ≤ 1 := by
        have : ¬ (z > 1) := fun y => c (decide_eq_true y)
        omega
      rw [decide_eq_true c1, decide_eq_true c2, Bool.true_and, Bool.true_and] at um
      refine ⟨_, rfl, rfl, _, rfl, ?_⟩
      rw [dec_str]
      have second : ∀ e5 : (decide (x1 = lt0) && decide (z = -1)) = false, moveD x1 (.int z) = !(decide (x1 = gt0) && decide (z = 1)) := fun e5 => by rw [um, e5, Bool.false_or]
      refine ite2 (fun a1 => ⟨_, rfl, _, rfl, rfl, _, rfl, ?_⟩) (fun a1 => ?_)
      · rw [dec_intV]
        refine ite2 (fun a2 => km (by rw [um, a1, a2]; rfl) _ s4) (fun a2 => ?_)
        have e6 := second (by rw [Bool.eq_false_iff.mpr a2, Bool.and_false])
        refine ⟨_, rfl, rfl, _, rfl, ?_⟩
        rw [dec_str]
        refine ite2 (fun b1 => ⟨_, rfl, rfl, _, rfl, ?_⟩) (fun b1 => ⟨rfl, s4, by rw [e6, Bool.eq_false_iff.mpr b1]; rfl⟩)
        rw [dec_intV]
        exact ite2 (fun b2 => km (by rw [e6, b1, b2]; rfl) _ s4) (fun b2 => ⟨rfl, s4, by rw [e6, Bool.eq_false_iff.mpr b2, Bool.and_false]; rfl⟩)
      · have e6 := second (by rw [Bool.eq_false_iff.mpr a1, Bool.false_and])
        refine ⟨_, rfl, rfl, _, rfl, ?_⟩
        rw [dec_str]
        refine ite2 (fun b1 => ⟨_, rfl, rfl, _, rfl, ?_⟩) (fun b1 => ⟨rfl, s4, by rw [e6, Bool.eq_false_iff.mpr b1]; rfl⟩)
        rw [dec_intV]
        exact ite2 (fun b2 => km (by rw [e6, b1, b2]; rfl) _ s4) (fun b2 => ⟨rfl, s4, by rw [e6, Bool.eq_false_iff.mpr b2, Bool.and_false]; rfl⟩)
    rintro _ H5 ⟨rfl, s5, e4⟩
    rw [show moveS (.str x1) d4 = true from e4, Bool.true_and] at K2
    have kd : deedD x2 d5 d6 = false → ∀ H', Same H H' → Q (.bl false) H' := fun e => K2 false (by rw [show deedS (.str x2) d5 d6 = false from e]; rfl)
    have two : ∀ {a b : PySem.Str} {p : Addr} {H1 : Hp}, SqL K (upd H1 p (.lst [.str a, .str b])) p [.str a, .str b] := SqL.of upd_same
    -- deed
    refine ⟨fun σ' H' => ∃ dd, v5 = .str dd ∧ d5 = .str dd ∧ dd ∈ [keep0, pop0, push0, swap0] ∧ σ' = [some (.str l), some (.int n), some (.ref a), some v0, some (.str x1), some (.str x2), some v3, some v4, some (.str dd), some v6, some v7, none] ∧ Same H H', ?_, ?_⟩
    · refine ⟨_, rfl, _, _, _, _, isStrT d5, rfl, .ty _, dp_tyx (dp_mono s5 _ _ g5), kit_str d5, _, rfl, ?_⟩
      cases hb5 : isStrT d5 with
      | false => exact iteT (kd (by cases d5 <;> first | rfl | cases hb5) _ s5)
      | true =>
      obtain ⟨dd, rfl, rfl⟩ := dp_str g5 hb5
      refine iteF ⟨_, rfl, show 4 ≤ sizeLine by decide, fun q nq => ⟨q, _, rfl, .inl (SqL.of upd_same), rfl, rfl, _, rfl, ?_⟩⟩
      have s6 := s5.trans (same_new (o := HO.lst [V.str keep0, V.str pop0, V.str push0, V.str swap0]) nq)
      have e4' : inV (.str dd) [.str keep0, .str pop0, .str push0, .str swap0] = decide (dd ∈ [keep0, pop0, push0, swap0]) := inV_strs dd [keep0, pop0, push0, swap0]
      rw [e4']
      cases c4 : decide (dd ∈ [keep0, pop0, push0, swap0]) with
      | false =>
        have u : deedD x2 (.str dd) d6 = false := by
          have u : deedD x2 (.str dd) d6 = (decide (dd ∈ [keep0, pop0, push0, swap0]) && (!(decide (x2 = nil0) && !decide (dd ∈ [keep0, push0])) && (if decide (dd ∈ [push0, swap0]) = true then symD d6 else nilD d6))) := rfl
          rw [u, c4]; rfl
        exact iteT (kd u _ s6)
      | true => exact iteF ⟨dd, rfl, rfl, of_decide_eq_true c4, rfl, s6⟩
    rintro _ H6 ⟨dd, rfl, rfl, mdd, rfl, s6⟩
    obtain ⟨du, dk⟩ := deed_eq (t := x2) (y := d6) mdd
    -- the empty top
    refine ⟨fun σ' H' => σ' = [some (.str l), some (.int n), some (.ref a), some v0, some (.str x1), some (.str x2), some v3, some v4, some (.str dd), some v6, some v7, none] ∧ Same H H' ∧ (decide (x2 = nil0) && decide (dd ∈ [pop0, swap0])) = false, ?_, ?_⟩
    · refine ⟨_, rfl, rfl, _, rfl, ?_⟩
      rw [dec_str]
      refine ite2 (fun a1 => ⟨_, rfl, show 2 ≤ sizeLine by decide, fun q nq => ⟨q, _, rfl, .inl two, rfl, rfl, _, rfl, ?_⟩⟩) (fun a1 => ⟨rfl, s6, by rw [Bool.eq_false_iff.mpr a1]; rfl⟩)
      have s7 := s6.trans (same_new (o := HO.lst [V.str pop0, V.str swap0]) nq)
      have e : inV (.str dd) [.str pop0, .str swap0] = decide (dd ∈ [pop0, swap0]) := inV_strs dd [pop0, swap0]
      rw [e]
      exact ite2 (fun a2 => kd (by rw [du, a1, show decide (dd ∈ [pop0, swap0]) = true from a2]; rfl) _ s7) (fun a2 => ⟨rfl, s7, by rw [show decide (dd ∈ [pop0, swap0]) = false from Bool.eq_false_iff.mpr a2, Bool.and_false]⟩)
    rintro _ H7 ⟨rfl, s7, e7⟩
    rw [e7, Bool.not_false, Bool.true_and] at du
    -- the symbol that is put
    refine ⟨fun σ' H' => σ' = [some (.str l), some (.int n), some (.ref a), some v0, some (.str x1), some (.str x2), some v3, some v4, some (.str dd), some v6, some v7, none] ∧ Same H H' ∧ (decide (dd ∈ [push0, swap0]) = true → symD d6 = true), ?_, ?_⟩
    · refine ⟨_, rfl, show 2 ≤ sizeLine by decide, fun q nq => ⟨q, _, rfl, .inl two, rfl, rfl, _, rfl, ?_⟩⟩
      have s8 := s7.trans (same_new (o := HO.lst [V.str push0, V.str swap0]) nq)
      have e : inV (.str dd) [.str push0, .str swap0] = decide (dd ∈ [push0, swap0]) := inV_strs dd [push0, swap0]
      rw [e]
      refine ite2 (fun a1 => ?_) (fun a1 => ⟨rfl, s8, fun z => absurd z a1⟩)
      have a1' : decide (dd ∈ [push0, swap0]) = true := a1
      refine ⟨_, rfl, v6, d6, rfl, dp_mono s8 _ _ g6, p6, fun H9 s9 => ⟨_, rfl, ?_⟩⟩
      cases hs : symD d6 with
      | false => exact iteT (kd (by rw [du, a1', if_pos rfl, hs]) _ (s8.trans s9))
      | true => exact iteF ⟨rfl, s8.trans s9, fun _ => rfl⟩
    rintro _ H8 ⟨rfl, s8, e8⟩
    -- no symbol
    refine ⟨fun σ' H' => σ' = [some (.str l), some (.int n), some (.ref a), some v0, some (.str x1), some (.str x2), some v3, some v4, some (.str dd), some v6, some v7, none] ∧ Same H H' ∧ deedD x2 (.str dd) d6 = true, ?_, ?_⟩
    · refine ⟨_, rfl, show 2 ≤ sizeLine by decide, fun q nq => ⟨q, _, rfl, .inl two, rfl, rfl, _, rfl, ?_⟩⟩
      have s9 := s8.trans (same_new (o := HO.lst [V.str keep0, V.str pop0]) nq)
      have e : inV (.str dd) [.str keep0, .str pop0] = decide (dd ∈ [keep0, pop0]) := inV_strs dd [keep0, pop0]
      rw [e]
      refine ite2 (fun a1 => ?_) (fun a1 => ?_)
      · have a1' : decide (dd ∈ [push0, swap0]) = false := by
          have z : decide (dd ∈ [keep0, pop0]) = true := a1
          rw [dk] at z
          cases h : decide (dd ∈ [push0, swap0]) with
          | false => rfl
          | true => rw [h] at z; cases z
        rw [a1', if_neg Bool.false_ne_true] at du
        refine ⟨_, rfl, _, _, _, _, isStrT d6, rfl, .ty _, dp_tyx (dp_mono s9 _ _ g6), kit_str d6, _, rfl, ?_⟩
        cases hb6 : isStrT d6 with
        | false => exact iteT (kd (by rw [du]; exact (not_str hb6).2.2) _ s9)
        | true =>
        obtain ⟨x6, rfl, rfl⟩ := dp_str g6 hb6
        refine iteF ⟨_, rfl, rfl, _, rfl, ?_⟩
        rw [dec_str]
        have nu : nilD (.str x6) = decide (x6 = nil0) := rfl
        refine ite2 (fun c => ?_) (fun c => ⟨rfl, s9, ?_⟩)
        · refine kd ?_ _ s9
          rw [du, nu]
          cases h : decide (x6 = nil0) with
          | false => rfl
          | true =>
            have c' : (!decide (x6 = nil0)) = true := c
            rw [h] at c'; cases c'
        · rw [du, nu]
          cases h : decide (x6 = nil0) with
          | true => rfl
          | false => exact absurd (by show (!decide (x6 = nil0)) = true; rw [h]; rfl) c
      · have a1' : decide (dd ∈ [push0, swap0]) = true := by
          have z : decide (dd ∈ [keep0, pop0]) = false := Bool.eq_false_iff.mpr a1
          rw [dk] at z
          cases h : decide (dd ∈ [push0, swap0]) with
          | true => rfl
          | false => rw [h] at z; cases z
        exact ⟨rfl, s9, by rw [du, a1', if_pos rfl]; exact e8 a1'⟩
    rintro _ H9 ⟨rfl, s9, e9⟩
    rw [show deedS (.str x2) (.str dd) d6 = true from e9, Bool.true_and] at K2
    -- said
    refine ⟨fun σ' H' => ∃ x7, v7 = .str x7 ∧ d7 = .str x7 ∧ σ' = [some (.str l), some (.int n), some (.ref a), some v0, some (.str x1), some (.str x2), some v3, some v4, some (.str dd), some v6, some (.str x7), none] ∧ Same H H' ∧ decide ((x7.length : Int) ≤ 3) = true, ?_, ?_⟩
    · refine ⟨_, rfl, _, _, _, _, isStrT d7, rfl, .ty _, dp_tyx (dp_mono s9 _ _ g7), kit_str d7, _, rfl, ?_⟩
      cases hb7 : isStrT d7 with
      | false => exact iteT (K2 false (by cases d7 <;> first | rfl | cases hb7) _ s9)
      | true =>
      obtain ⟨x7, rfl, rfl⟩ := dp_str g7 hb7
      have sz : x7.length ≤ sizeLine := Nat.le_trans (p7 x7 rfl) (by decide)
      refine iteF ⟨_, rfl, x7, rfl, sz, _, _, rfl, rfl, _, rfl, ite2 (fun c => ?_) (fun c => ⟨x7, rfl, rfl, rfl, s9, ?_⟩)⟩
      · have c' := of_decide_eq_true c
        refine K2 false ?_ _ s9
        show (decide ((x7.length : Int) ≤ 3) && lowB x7) = false
        rw [decide_eq_false (by omega)]; rfl
      · have : ¬ ((x7.length : Int) > 3) := fun y => c (decide_eq_true y)
        exact decide_eq_true (by omega)
    rintro _ H10 ⟨x7, rfl, rfl, rfl, s10, e10⟩
    have l7 : x7.cps.size ≤ 1000 := p7 x7 rfl
    have u7 : letD 3 (.str x7) = (decide ((x7.length : Int) ≤ 3) && x7.cps.toList.all lowC) := rfl
    rw [u7, e10, Bool.true_and, ← filter_all] at K2
    refine ⟨_, rfl, x7, rfl, fun D hD => lc_it walk_str (fun i H' => Same H10 H' ∧ H' D = some (.lst ((((x7.cps.toList.take i).filter fun c => !lowC c).map sgn1').map V.str)))
      ⟨same_new hD, upd_same⟩ (fun _ _ _ _ => trivial) ?_ ?_⟩
    · rintro i y H12 H13 hi ⟨s12, hD2⟩ ⟨rfl, c0, hc0, rfl⟩
      have hc1 : x7.cps.toList[i]? = some c0 := by rw [Array.getElem?_toList]; exact hc0
      refine ⟨rfl, ?_⟩
      refine ⟨_, rfl, c0, low26, rfl, rfl, _, rfl, ?_⟩
      rw [mem_low]
      have st : ((x7.cps.toList.take (i + 1)).filter fun c => !lowC c) = ((x7.cps.toList.take i).filter fun c => !lowC c) ++ (if (!lowC c0) = true then [c0] else []) := by
        rw [take_at hc1, List.filter_append, List.filter_cons]
        split <;> rfl
      refine ite2 (fun c => ?_) (fun c => ?_)
      · rw [if_pos c] at st
        refine ⟨_, rfl, _, hD2, ?_, same_mut s12 hD, ?_⟩
        · rw [List.length_map, List.length_map]
          exact Nat.lt_of_le_of_lt (Nat.le_trans (List.length_filter_le _ _) (by rw [List.length_take, Array.length_toList]; exact Nat.le_trans (Nat.min_le_right _ _) l7)) (by decide)
        · rw [upd_same, st, List.map_append, List.map_append] <;> rfl
      · rw [if_neg c, List.append_nil] at st
        exact ⟨s12, by rw [st]; exact hD2⟩
    · rintro H12 ⟨s12, hD2⟩
      have full : x7.cps.toList.take x7.cps.size = x7.cps.toList := List.take_of_length_le (by rw [Array.length_toList]; exact Nat.le_refl _)
      rw [full] at hD2
      refine ⟨D, _, rfl, .inl (SqL.of hD2), rfl, ?_⟩
      have q := K2 _ rfl H12 (s10.trans s12)
      have e3 : decide (V.int ((((x7.cps.toList.filter fun c => !lowC c).map sgn1').map V.str).length : Int) = V.int 0) = decide (((x7.cps.toList.filter fun c => !lowC c).length : Int) = 0) := by
        rw [List.length_map, List.length_map]
        simp
      rw [e3]
      exact q
end
end Mk

set_option Elab.async false
set_option linter.unusedVariables false
set_option maxRecDepth 100000
set_option maxHeartbeats 16000000
namespace Mk
open PySem L2 Pk
abbrev sWhere : Stmt := top 73
abbrev nWhere : List PySem.Str := ["letters", "states", "rules", "yes", "k", "state"]
theorem scWhere : FnScope nWhere ["letters", "states", "rules", "yes"] (defScope sWhere) := ⟨rfl, rfl, rfl, by decide +kernel, rfl, by decide +kernel, by decide +kernel⟩
section
variable {P : Program} {w : World} {K : PySem.W.Frag} {mg : PySem.Str → Option Value} {base : Heap}
structure WhereDefs (P : Program) (w : World) (K : PySem.W.Frag) (mg : PySem.Str → Option Value) (base : Heap) : Prop where
  lets : Got P w K mg base "_law_letters_right" 1 ["value"] (spAlphabetD K)
  st : Got P w K mg base "_law_state_right" 2 ["states", "value"] (spStateD K)
  whole : Got P w K mg base "_law_whole" 1 ["value"] (spIntegerD K)
  rule : Got P w K mg base "_law_rule_right" 3 ["letters", "states", "rule"] (spRuleR K)
def spWhere (K : PySem.W.Frag) : Sp := fun vs H Q _ => ∃ (v1 v2 : V) (d1 d2 : PyData) (aR aY : Addr) (xs us : List V) (rs ys : List PyData), vs = [v1, v2, .ref aR, .ref aY] ∧ Dp K H v1 d1 ∧ Short 1000 d1 ∧ Dp K H v2 d2 ∧ SqL K H aR xs ∧ DpAll K H xs rs ∧ (∀ r ∈ rs, ShortAll r) ∧ rs.length ≤ 100000 ∧
  SqL K H aY us ∧ DpAll K H us ys ∧ ys.length ≤ 10000 ∧
  ∀ (v : V) (H' : Hp), Same H H' → (whereOf d1 d2 rs ys = none → v = .non) → (∀ wd, whereOf d1 d2 rs ys = some wd → ∀ H'', Dp K H'' v wd) → Q v H'
theorem okD_where {f : Addr} {fd : FuncData} (F : Fun K "_law_where" "_law_where" sWhere f fd) (T : TM mg) (G : WhereDefs P w K mg base) : FnOk P w K mg base CX0 4 f fd ["letters", "states", "rules", "yes"] (spWhere K) := by
  refine F.ok scWhere (fun vs H Q E h => ?_) (fun cdv A outer s H vs Q E hr h => ?_)
  · obtain ⟨v1, v2, d1, d2, aR, aY, xs, us, rs, ys, rfl, _⟩ := h
    rfl
  · obtain ⟨v1, v2, d1, d2, aR, aY, xs, us, rs, ys, rfl, g1, sh1, g2, hR, gR, shR, lR, hY, gY, lY, k⟩ := h
    have nd := scWhere.nd
    have h1 := hr.mono (show 1 ≤ 3 by decide)
    have h2 := hr.mono (show 2 ≤ 3 by decide)
    have kS : ∀ (wd : PyData) (v : V), whereOf d1 d2 rs ys = some wd → (∀ H'', Dp K H'' v wd) → ∀ H', Same H H' → Q v H' := fun wd v e hv H' s => k v H' s (fun z => by rw [z] at e; cases e) fun wd' e' => by
      rw [e] at e'
      rw [← Option.some.inj e']
      exact hv
    refine ⟨_, (C8.pss_cut (ps_if (pt_not (pt_val (pe_got G.lets h1 (by rfl) (pa_cons (pv 0) pa_nil))))
        (pss_one (ps_ret pe_str))
        pss_nil)
      (C8.pss_cut (ps_if (PW.pt (pw_or (pt_not (pt_val (pe_got G.whole h1 (by rfl) (pa_cons (pv 1) pa_nil)))) (pw_or (pt_cmpR op_lt (pv 1) pe_int (nomark _)) (pw_or1 (pt_cmpR op_gt (pv 1) pe_int (nomark _))))))
        (pss_one (ps_ret pe_str))
        pss_nil)
      (C8.pss_cut (ps_if (pt_cmpR op_gt (pe_callB call_len_seq (by rfl) T.len PySem.boot_len (pa_cons (pv 2) pa_nil)) pe_int (nomark _))
        (pss_one (ps_ret pe_str))
        pss_nil)
      (pss_cons (ps_for PassesOwn.never rfl (pi_range1 (by rfl) T.range (pa_cons (pe_callB call_len_seq (by rfl) T.len PySem.boot_len (pa_cons (pv 2) pa_nil)) pa_nil)) (pg_name (i := 4) nd rfl (Or.inl rfl))
        (pss_one (ps_if (pt_not (pt_val (pe_got G.rule hr (by rfl) (pa_cons (pv 0) (pa_cons (pv 1) (pa_cons (pe_ix ix_list (pv 2) (pv 4) fun _ _ => rfl) pa_nil))))))
          (pss_one (ps_ret (pv 4)))
          pss_nil)))
      (pss_cons (ps_for PassesOwn.never rfl (pi_list (pv 3)) (pg_name (i := 5) nd rfl (Or.inl rfl))
        (pss_one (ps_if (pt_not (pt_val (pe_got G.st h2 (by rfl) (pa_cons (pv 1) (pa_cons (pv 5) pa_nil)))))
          (pss_one (ps_ret pe_str))
          pss_nil)))
      (pss_one (ps_ret pe_non))))))), ?_⟩
    -- letters
    refine ⟨fun σ' H' => ∃ l, v1 = .str l ∧ d1 = .str l ∧ Alpha l ∧ σ' = [some (.str l), some v2, some (.ref aR), some (.ref aY), none, none] ∧ Same H H', ?_, ?_⟩
    · refine ⟨_, rfl, v1, d1, rfl, g1, sh1, fun b1 H1 s1 i1 => ⟨_, rfl, ?_⟩⟩
      cases b1 with
      | false =>
        refine iteT (kS (.str "letters") _ ?_ (fun _ => .str _) _ s1)
        unfold whereOf
        rw [if_pos fun z => by have := i1.mpr z; cases this]
      | true =>
        obtain ⟨l, rfl, al⟩ := i1.mp rfl
        obtain rfl : v1 = .str l := by cases g1; rfl
        exact iteF ⟨l, rfl, rfl, al, rfl, s1⟩
    rintro _ H1 ⟨l, rfl, rfl, al, rfl, s1⟩
    have w1 : ¬ ¬ ∃ x, PyData.str l = .str x ∧ Alpha x := fun z => z ⟨l, rfl, al⟩
    -- states
    refine ⟨fun σ' H' => ∃ n, v2 = .int n ∧ d2 = .int n ∧ btw 1 2000 d2 = true ∧ σ' = [some (.str l), some (.int n), some (.ref aR), some (.ref aY), none, none] ∧ Same H H', ?_, ?_⟩
    · have bad : btw 1 2000 d2 = false → ∀ H', Same H H' → Q (.str "states") H' := fun e => kS (.str "states") _ (by unfold whereOf; rw [if_neg w1, if_pos e]) (fun _ => .str _)
      refine ⟨_, rfl, v2, d2, rfl, dp_mono s1 _ _ g2, _, rfl, ?_⟩
      cases hi : isIntD d2 with
      | false => exact iteT (bad (by cases d2 <;> first | rfl | cases hi) _ s1)
      | true =>
      obtain ⟨n, rfl, rfl⟩ := dp_int g2 hi
      have ub : btw 1 2000 (.int n) = (decide (1 ≤ n) && decide (n ≤ 2000)) := rfl
      refine iteF ⟨_, rfl, _, _, rfl, rfl, _, rfl, ite2 (fun c => ?_) (fun c => ?_)⟩
      · have c' := of_decide_eq_true c
        exact bad (by rw [ub, decide_eq_false (p := 1 ≤ n) (by omega)]; rfl) _ s1
      have c1 : ¬ (n < 1) := fun y => c (decide_eq_true y)
      refine ⟨_, rfl, _, _, rfl, rfl, _, rfl, ite2 (fun c => ?_) (fun c => ?_)⟩
      · have c' := of_decide_eq_true c
        exact bad (by rw [ub, decide_eq_false (p := n ≤ 2000) (by omega), Bool.and_false]) _ s1
      have c2 : ¬ (n > 2000) := fun y => c (decide_eq_true y)
      exact ⟨n, rfl, rfl, by rw [ub, decide_eq_true (by omega), decide_eq_true (by omega)]; rfl, rfl, s1⟩
    rintro _ H2 ⟨n, rfl, rfl, hb, rfl, s2⟩
    have w2 : ¬ btw 1 2000 (.int n) = false := fun z => by rw [hb] at z; cases z
    have lxs := dpa_len gR
    -- too many rules
    refine ⟨fun σ' H' => σ' = [some (.str l), some (.int n), some (.ref aR), some (.ref aY), none, none] ∧ Same H H' ∧ ¬ 20000 < rs.length, ?_, ?_⟩
    · refine ⟨_, rfl, aR, xs, rfl, .inl (s2.seq hR), _, _, rfl, rfl, _, rfl, ite2 (fun c => ?_) (fun c => ⟨rfl, s2, fun z => c (decide_eq_true (by omega))⟩)⟩
      have c' := of_decide_eq_true c
      exact kS (.str "rules") _ (by unfold whereOf; rw [if_neg w1, if_neg w2, if_pos (by omega)]) (fun _ => .str _) _ s2
    rintro _ H3 ⟨rfl, s3, few⟩
    -- the rules
    refine ⟨_, rfl, aR, xs, rfl, .inl (s3.seq hR), _, rfl, by omega, by omega, for_range (lo := 0) (n := ((xs.length : Nat) : Int).toNat) (fun i σ H' => Same H H' ∧ (∀ r ∈ rs.take i, ruleD l n r = true) ∧ ∃ v4 : Option V, σ = [some (.str l), some (.int n), some (.ref aR), some (.ref aY), v4, none])
      ⟨s3, (fun r m => absurd m List.not_mem_nil), _, rfl⟩ ?_ ?_⟩
    · rintro i σ H4 hi ⟨s4, pre, v4, rfl⟩
      obtain ⟨r, er⟩ : ∃ r, rs[i]? = some r := ⟨_, List.getElem?_eq_getElem (by omega)⟩
      obtain ⟨v, ev⟩ : ∃ v, xs[i]? = some v := ⟨_, List.getElem?_eq_getElem (by omega)⟩
      obtain ⟨r', er', gr⟩ := dpa_get gR ev
      rw [er] at er'
      obtain rfl := Option.some.inj er'
      have atx : atI xs (0 + (i : Int)) = some v := by
        rw [show (0 : Int) + (i : Int) = ((i : Nat) : Int) by omega]
        exact atI_nat ev
      refine ⟨_, rfl, _, rfl, _, rfl, _, rfl, aR, xs, _, v, rfl, rfl, s4.seq hR, atx, l, n, v, r, Nat.le_trans al.most (by decide), rfl, dp_mono s4 _ _ gr, shR r (List.mem_of_getElem? er), fun H5 s5 => ⟨_, rfl, ?_⟩⟩
      have s45 := s4.trans s5
      cases hb2 : ruleD l n r with
      | true =>
        refine iteF ⟨s45, fun q m => ?_, _, rfl⟩
        rw [take_at er] at m
        rcases List.mem_append.mp m with m | m
        · exact pre q m
        · rw [List.mem_singleton.mp m]; exact hb2
      | false =>
        refine iteT ⟨_, rfl, kS (.int (i : Int)) _ ?_ (fun _ => by rw [show (0 : Int) + (i : Int) = (i : Int) by omega]; exact .int _) _ s45⟩
        unfold whereOf
        rw [if_neg w1, if_neg w2, if_neg few, show firstBad (strOf (.str l)) (numOf (.int n)) rs = some i from first_some er hb2 pre]
    rintro σ H4 ⟨s4, pre, v4, rfl⟩
    rw [List.take_of_length_le (by omega)] at pre
    have wf : whereOf (.str l) (.int n) rs ys = if ys.all (btw 0 (n - 1)) = true then none else some (.str "yes") := by
      unfold whereOf
      rw [if_neg w1, if_neg w2, if_neg few, show firstBad (strOf (.str l)) (numOf (.int n)) rs = none from first_none pre]
      rfl
    -- yes
    have lus := dpa_len gY
    refine ⟨_, rfl, aY, rfl, ⟨_, s4.seq hY⟩, for_list (K := K) (a := aY) (xs := us) (fun i σ H' => Same H H' ∧ (∀ y ∈ ys.take i, btw 0 (n - 1) y = true) ∧ ∃ v5 : Option V, σ = [some (.str l), some (.int n), some (.ref aR), some (.ref aY), v4, v5])
      ⟨s4, (fun r m => absurd m List.not_mem_nil), _, rfl⟩ (fun i σ H' _ h => h.1.seq hY) ?_ ?_⟩
    · rintro i v σ H5 hi ⟨s5, pre2, v5, rfl⟩
      obtain ⟨d, ed, gd⟩ := dpa_get gY hi
      refine ⟨_, rfl, _, rfl, n, v, d, rfl, dp_mono s5 _ _ gd, _, rfl, ?_⟩
      cases hb3 : btw 0 (n - 1) d with
      | true =>
        refine iteF ⟨s5, fun q m => ?_, _, rfl⟩
        rw [take_at ed] at m
        rcases List.mem_append.mp m with m | m
        · exact pre2 q m
        · rw [List.mem_singleton.mp m]; exact hb3
      | false =>
        refine iteT (kS (.str "yes") _ ?_ (fun _ => .str _) _ s5)
        rw [wf, if_neg]
        intro z
        rw [List.all_eq_true.mp z d (List.mem_of_getElem? ed)] at hb3
        cases hb3
    · rintro σ H5 ⟨s5, pre2, v5, rfl⟩
      rw [List.take_of_length_le (by omega)] at pre2
      have wn : whereOf (.str l) (.int n) rs ys = none := by rw [wf, if_pos (List.all_eq_true.mpr pre2)]
      exact k .non H5 s5 (fun _ => rfl) fun wd e => by rw [wn] at e; cases e
end
end Mk

set_option Elab.async false
set_option linter.unusedVariables false
set_option maxRecDepth 100000
set_option maxHeartbeats 16000000
namespace Mk
open PySem L2 Pk
abbrev sMR : Stmt := top 79
abbrev nMR : List PySem.Str := ["letters", "states", "rules", "yes", "forms", "due", "handed", "finals", "told", "k", "rule"]
theorem scMR : FnScope nMR ["letters", "states", "rules", "yes", "forms"] (defScope sMR) := ⟨rfl, rfl, rfl, by decide +kernel, rfl, by decide +kernel, by decide +kernel⟩
theorem where_val {d1 d2 wd : PyData} {rs es : List PyData} (h : whereOf d1 d2 rs es = some wd) : (∃ x, wd = .str x) ∨ ∃ i, wd = .int i := by
  unfold whereOf at h
  split at h
  · exact .inl ⟨_, (Option.some.inj h).symm⟩
  · split at h
    · exact .inl ⟨_, (Option.some.inj h).symm⟩
    · split at h
      · exact .inl ⟨_, (Option.some.inj h).symm⟩
      · split at h
        · exact .inr ⟨_, (Option.some.inj h).symm⟩
        · split at h
          · cases h
          · exact .inl ⟨_, (Option.some.inj h).symm⟩
theorem spl_len {K : PySem.W.Frag} {H : Hp} {vs : List V} {ds : List PyData} (h : SpL K H vs ds) : vs.length = ds.length := dpa_len (spl_dpa h)
section
variable {P : Program} {w : World} {K : PySem.W.Frag} {mg : PySem.Str → Option Value} {base : Heap}
structure MRDefs (P : Program) (w : World) (K : PySem.W.Frag) (mg : PySem.Str → Option Value) (base : Heap) : Prop where
  where_ : Got P w K mg base "_law_where" 4 ["letters", "states", "rules", "yes"] (spWhere K)
  form : Got P w K mg base "_law_some_form" 1 ["item", "k", "forms"] (spForm K)
  made : Got P w K mg base "_law_made" 8 ["letters", "states", "rules", "yes"] (spMade K)
  same : Got P w K mg base "_law_same" 6 ["told", "due"] (spSame K 4)
  due : Got P w K mg base "_law_due" 2 ["letters", "states", "rules", "yes"] (spDue K)
def spMR (K : PySem.W.Frag) : Sp := fun vs H Q _ => ∃ (v1 v2 : V) (d1 d2 : PyData) (aR aY aF : Addr) (xs us : List V) (rs es ks : List PyData) (fs : List Int), vs = [v1, v2, .ref aR, .ref aY, .ref aF] ∧ Dp K H v1 d1 ∧ Short 1000 d1 ∧ Dp K H v2 d2 ∧ SqL K H aR xs ∧ SpL K H xs rs ∧ rs.length ≤ 20001 ∧
  (∀ d ∈ rs, d ∈ ks) ∧ ks.length ≤ 1900 ∧ SqL K H aY us ∧ DpAll K H us es ∧ es.length ≤ 2001 ∧ (∀ x ∈ es, Lay 1 x) ∧ SqL K H aF (fs.map V.int) ∧ fs.length = 16 ∧ ∀ H', Same H H' → Q (.bl true) H'
theorem ok_mr {f : Addr} {fd : FuncData} (F : Fun K "_law_made_right" "_law_made_right" sMR f fd) (T : TM mg) (G : MRDefs P w K mg base) : FnOk P w K mg base CX0 9 f fd ["letters", "states", "rules", "yes", "forms"] (spMR K) := by
  refine F.ok scMR (fun vs H Q E h => ?_) (fun cdv A outer s H vs Q E hr h => ?_)
  · obtain ⟨v1, v2, d1, d2, aR, aY, aF, xs, us, rs, es, ks, fs, rfl, _⟩ := h
    rfl
  · obtain ⟨v1, v2, d1, d2, aR, aY, aF, xs, us, rs, es, ks, fs, rfl, g1, sh1, g2, hR, hX, lR, mK, lK, hY, gY, lY, yY, hF, lF, k⟩ := h
    have nd := scMR.nd
    have h1 := hr.mono (show 1 ≤ 8 by decide)
    have h2 := hr.mono (show 2 ≤ 8 by decide)
    have h4 := hr.mono (show 4 ≤ 8 by decide)
    have h6 := hr.mono (show 6 ≤ 8 by decide)
    have hu64 := hr.units
    have few10 : ∀ {m : Nat}, m ≤ 100000 → m < sizeLine := fun h => Nat.lt_of_le_of_lt h (by decide)
    have lX := spl_len hX
    refine ⟨_, (pss_cons (ps_set (i := 5) nd rfl (Or.inl rfl) (pe_got G.where_ h4 (by rfl) (pa_cons (pv 0) (pa_cons (pv 1) (pa_cons (pv 2) (pa_cons (pv 3) pa_nil))))))
      (pss_cons (ps_setLc (i := 6) (own := [("k", 9)]) (g := gName 9) (tt := tYes) (by rfl) nd rfl rfl (sw_true rfl rfl rfl (by decide +kernel)) (pi_range1 (by rfl) T.range (pa_cons (pe_callB call_len_seq (by rfl) T.len PySem.boot_len (pa_cons (pv 2) pa_nil)) pa_nil)) (blkOk_by (own := [("k", 9)]) (N := nMR) (sc := defScope sMR) (by decide +kernel)) (fun _ _ _ _ _ => pg_name (i := 9) nd rfl (Or.inl rfl)) (fun _ _ _ _ _ => pts_nil) (fun _ _ _ _ _ => (pe_got G.form h1 (by rfl) (pa_cons (pe_ix (r := rIxL K) ix_list (pv 2) (pv 9) fun _ _ => rfl) (pa_cons (pv 9) (pa_cons (pv 4) pa_nil))))))
      (pss_cons (ps_set (i := 7) nd rfl (Or.inl rfl) (pe_callTy (call_list_of) (by rfl) T.list PyProof.Rows.Boot.list (pa_cons (pv 3) pa_nil)))
      (C8.pss_cut (ps_set (i := 8) nd rfl (Or.inl rfl) (pe_got G.made hr (by rfl) (pa_cons (pv 0) (pa_cons (pv 1) (pa_cons (pv 6) (pa_cons (pv 7) pa_nil))))))
      (C8.pss_cut (ps_if (PW.pt (pw_or (pt_cmpR (op_neD hu64) (pv 6) (pe_lc (own := [("k", 9)]) (g := gName 9) (tt := tYes) (by rfl) nd (pi_range1 (by rfl) T.range (pa_cons (pe_callB call_len_seq (by rfl) T.len PySem.boot_len (pa_cons (pv 2) pa_nil)) pa_nil)) (blkOk_by (own := [("k", 9)]) (N := nMR) (sc := defScope sMR) (by decide +kernel)) (fun _ _ _ _ _ => pg_name (i := 9) nd rfl (Or.inl rfl)) (fun _ _ _ _ _ => pts_nil) (fun _ _ _ _ _ => (pe_got G.form h1 (by rfl) (pa_cons (pe_ix (r := rIxL K) ix_list (pv 2) (pv 9) fun _ _ => rfl) (pa_cons (pv 9) (pa_cons (pv 4) pa_nil)))))) (nomark _)) (pw_or1 (pt_cmpR (op_neD hu64) (pv 7) (pv 3) (nomark _)))))
        (pss_one (ps_ret pe_bl))
        pss_nil)
      (C8.pss_cut (ps_if (pt_cmp (pc_notN (pv 5)))
        (pss_one (ps_ret (pe_got G.same h6 (by rfl) (pa_cons (pv 8) (pa_cons (pe_tup (pa_cons pe_str (pa_cons (pv 5) (pa_cons pe_bl pa_nil)))) pa_nil)))))
        pss_nil)
      (pss_one (ps_ret (pe_got G.same h6 (by rfl) (pa_cons (pv 8) (pa_cons (pe_tup (pa_cons pe_str (pa_cons (pe_got G.due h2 (by rfl) (pa_cons (pv 0) (pa_cons (pv 1) (pa_cons (pe_lc (own := [("rule", 10)]) (g := gName 10) (tt := tYes) (by rfl) nd (pi_list (pv 2)) (blkOk_by (own := [("rule", 10)]) (N := nMR) (sc := defScope sMR) (by decide +kernel)) (fun _ _ _ _ _ => pg_name (i := 10) nd rfl (Or.inl rfl)) (fun _ _ _ _ _ => pts_nil) (fun _ _ _ _ _ => (pe_callTy (r := rTupOf K) (call_tuple_of) (by rfl) T.tuple PyProof.Rows.Boot.tuple (pa_cons (pv 10) pa_nil)))) (pa_cons (pv 3) pa_nil))))) pa_nil))) pa_nil))))))))))), ?_⟩
    refine ⟨_, rfl, _, rfl, _, rfl, _, rfl, v1, v2, d1, d2, aR, aY, xs, us, rs, es, rfl, g1, sh1, g2, hR, spl_dpa hX, spl_short hX, by omega, hY, gY, by omega, fun due H1 sH1 kn ks0 => ?_⟩
    refine ⟨_, rfl, aR, _, rfl, .inl (sH1.seq hR), _, rfl, by omega, by omega, fun D nD => lc_range (lo := 0) (n := ((xs.length : Nat) : Int).toNat) (fun i H' => Same H1 H' ∧ ∃ hs : List V, H' D = some (.lst hs) ∧ hs.length = i ∧ SpL K (hide D H') hs ((formsD fs 0 rs).take i))
      ⟨same_new nD, [], upd_same, rfl, trivial⟩ ?_ ?_⟩
    · rintro i Hc hi ⟨sc, hs, hD, lh, sp⟩
      have hi' : i < xs.length := by omega
      have n0 : H D = none := none_back sH1 nD
      have nm : Hc D = some (.lst hs) := hD
      refine ⟨rfl, ?_⟩
      obtain ⟨d, ed, hd⟩ := spl_get hX (List.getElem?_eq_getElem hi')
      have s0c := sH1.trans sc
      have fin : ∀ (H6 : Hp) (v : V), Same Hc H6 → SpI K (hide D H6) v (formD fs i d) → ∃ acc, H6 D = some (.lst acc) ∧ acc.length < sizeLine ∧ (Same H1 (upd H6 D (.lst (acc ++ [v]))) ∧ ∃ hs : List V, (upd H6 D (.lst (acc ++ [v]))) D = some (.lst hs) ∧ hs.length = i + 1 ∧ SpL K (hide D (upd H6 D (.lst (acc ++ [v])))) hs ((formsD fs 0 rs).take (i + 1))) := fun H6 v s6 g => by
        refine ⟨hs, s6 _ _ hD, few10 (by omega), same_mut (sc.trans s6) nD, hs ++ [v], upd_same, by rw [List.length_append, lh]; rfl, ?_⟩
        rw [hide_upd, take_at (c := formD fs i d) (by rw [formsD_get, ed, Nat.zero_add]; rfl)]
        exact spl_append (spl_mono (hide_mono s6) sp) ⟨g, trivial⟩
      refine ⟨_, rfl, _, rfl, aR, xs, 0 + (i : Int), _, rfl, rfl, s0c.seq hR, by rw [Int.zero_add]; exact atI_nat (List.getElem?_eq_getElem hi'), _, rfl, _, rfl, _, d, i, aF, fs, by rw [Int.zero_add]; rfl, dp_mono s0c _ _ hd.dp, fun ds e => ?_, s0c.seq hF, lF, fun e0 => ?_, fun e1 a p ys ev ha hp => ?_⟩
      · obtain ⟨a, ys, e1, e2, _⟩ := hd.raw ds e
        exact ⟨a, ys, e1, s0c _ _ e2⟩
      · refine fin Hc _ (Same.refl _) ?_
        unfold formD
        rw [e0]
        exact hd.mono (hide_base s0c n0)
      · refine fin _ _ (same_new hp) ?_
        obtain ⟨ds, rfl⟩ : ∃ ds, d = .tuple ds := by
          unfold formB at e1
          cases d <;> first | exact ⟨_, rfl⟩ | (simp [isTupT] at e1)
        obtain ⟨a', ys', e2, e3, e4⟩ := hd.raw ds rfl
        have ea : a' = a := by rw [e2] at ev; exact V.ref.inj ev
        subst ea
        have ey : ys' = ys := by
          have z := (s0c _ _ e3).symm.trans ha
          injection z with z
          injection z
        subst ey
        unfold formD
        rw [e1]
        have npD : p ≠ D := fun z => by rw [z, nm] at hp; cases hp
        have s6 : Same H (hide D (upd Hc p (.lst ys'))) := hide_base (s0c.trans (same_new hp)) n0
        exact ⟨.lst (SqL.of ((hide_ne npD).trans upd_same)) (dpa_mono s6 _ _ e4), fun ds' e' => hd.fine ds' e', lay_list fun x m => (hd.fine ds rfl x m).2, fun ds' e' => nomatch e'⟩
    
    rintro H2 ⟨s2, hs, hD, lh, sp⟩
    rw [List.take_of_length_le (by rw [formsD_len]; omega)] at sp
    have sp2 := spl_mono hide_le sp
    have sA := sH1.trans s2
    clear sp
    -- finals
    refine ⟨_, rfl, aY, us, rfl, .inl (sA.seq hY), fun q nq => ?_⟩
    have s3 := same_new (o := HO.lst us) nq
    have sB := sA.trans s3
    have hD3 := s3 _ _ hD
    have hq3 : (upd H2 q (.lst us)) q = some (.lst us) := upd_same
    have sp3 := spl_mono s3 sp2
    show (C8.tCut _ _ _) _ (upd H2 q (.lst us))
    generalize upd H2 q (.lst us) = H3 at s3 sB hD3 hq3 sp3 ⊢
    have whf := where_forms (d1 := d1) (d2 := d2) (es := es) fs 0 rs
    have gY3 := dpa_mono sB _ _ gY
    refine ⟨fun σ' H' => ∃ t : Addr, Same H3 H' ∧ σ' = [some v1, some v2, some (.ref aR), some (.ref aY), some (.ref aF), some due, some (.ref D), some (.ref q), some (.ref t), none, none] ∧
      ((∃ (p : Addr) (l : PySem.Str) (n : Int) (R : Hand) (ys : List Int), whereOf d1 d2 rs es = none ∧ v1 = .str l ∧ v2 = .int n ∧ Alpha l ∧ es = ys.map PyData.int ∧ us = ys.map V.int ∧ (∀ r ∈ rs, ruleD l n r = true) ∧ rs.map items = (R.map fun p => some p.2.2.data) ∧ H' t = some (.tup [.str "let", .ref p]) ∧ DueAt H' p l n (rsOf R) ys) ∨
       ∃ (wd : PyData) (wv : V), whereOf d1 d2 rs es = some wd ∧ H' t = some (.tup [.str "refused", wv, .bl true]) ∧ Dp K H' wv wd), ?_, ?_⟩
    · refine ⟨_, rfl, _, rfl, _, rfl, _, rfl, v1, v2, d1, d2, D, q, true, true, hs, us, formsD fs 0 rs, es, rfl, ⟨dp_mono sB _ _ g1, sh1, dp_mono sB _ _ g2, SqL.of hD3, spl_dpa sp3, spl_short sp3, by rw [formsD_len]; omega, SqL.of hq3, gY3, by omega⟩, fun wn => ?_, fun wd ws t wv H4 s4 ht hw => ?_⟩
      · obtain ⟨l, n, rfl, al, rfl, bn, lR2, aR2, aY2⟩ := where_none wn
        cases g1
        cases g2
        obtain ⟨R, rfl, hA, hOk, eR, hRaw⟩ := hand_of sp3 aR2
        obtain ⟨ys, rfl, rfl, bY⟩ := ints_of gY3 aY2
        rw [forms_items] at eR
        rw [formsD_len] at lR2
        have lRR : R.length = rs.length := by
          have z := congrArg List.length eR
          rw [List.length_map, List.length_map] at z
          exact z.symm
        have lys : (ys.map PyData.int).length = ys.length := List.length_map ..
        refine ⟨l, n, R, ys, rfl, rfl, ⟨⟨al, bn, SqL.of hD3, ⟨hA, hOk, by omega⟩, SqL.of hq3, bY, by omega⟩, hRaw, few_of eR mK lK, by omega, by omega⟩, fun t p H4 s4 ht due4 => ?_⟩
        refine ⟨t, s4, rfl, .inl ⟨p, l, n, R, ys, whf ▸ wn, rfl, rfl, al, rfl, rfl, fun r m => ?_, eR, ht, due4⟩⟩
        obtain ⟨i, hi⟩ := List.mem_iff_getElem?.mp m
        have z := aR2 (formD fs (0 + i) r) (List.mem_of_getElem? (by rw [formsD_get, hi]; rfl))
        rw [ruleD_items (items_form fs (0 + i) r)] at z
        exact z
      · exact ⟨t, s4, rfl, .inr ⟨wd, wv, whf ▸ ws, ht, hw⟩⟩
    rintro σ' H4 ⟨t, s4, rfl, told⟩
    have sC := sB.trans s4
    have sp4 := spl_mono s4 sp3
    have hD4 := s4 _ _ hD3
    have hq4 := s4 _ _ hq3
    have layF : Lay 4 (.list (formsD fs 0 rs)) := lay_list fun x m => (spl_all sp4 x m).1
    have layY : Lay 2 (.list es) := lay_list yY
    have sH4 := sC
    refine ⟨fun σ' H' => σ' = [some v1, some v2, some (.ref aR), some (.ref aY), some (.ref aF), some due, some (.ref D), some (.ref q), some (.ref t), none, none] ∧ Same H4 H', ?_, ?_⟩
    · skip
      refine ⟨_, rfl, _, rfl, aR, _, rfl, .inl (sH4.seq hR), _, rfl, by omega, by omega, fun D2 nD2 => lc_range (lo := 0) (n := ((xs.length : Nat) : Int).toNat) (fun i H' => Same H4 H' ∧ ∃ hs : List V, H' D2 = some (.lst hs) ∧ hs.length = i ∧ SpL K (hide D2 H') hs ((formsD fs 0 rs).take i))
        ⟨same_new nD2, [], upd_same, rfl, trivial⟩ ?_ ?_⟩
      · rintro i Hc hi ⟨sc, hs, hD, lh, sp⟩
        have hi' : i < xs.length := by omega
        have n0 : H D2 = none := none_back sH4 nD2
        have nm : Hc D2 = some (.lst hs) := hD
        refine ⟨rfl, ?_⟩
        obtain ⟨d, ed, hd⟩ := spl_get hX (List.getElem?_eq_getElem hi')
        have s0c := sH4.trans sc
        have fin : ∀ (H6 : Hp) (v : V), Same Hc H6 → SpI K (hide D2 H6) v (formD fs i d) → ∃ acc, H6 D2 = some (.lst acc) ∧ acc.length < sizeLine ∧ (Same H4 (upd H6 D2 (.lst (acc ++ [v]))) ∧ ∃ hs : List V, (upd H6 D2 (.lst (acc ++ [v]))) D2 = some (.lst hs) ∧ hs.length = i + 1 ∧ SpL K (hide D2 (upd H6 D2 (.lst (acc ++ [v])))) hs ((formsD fs 0 rs).take (i + 1))) := fun H6 v s6 g => by
          refine ⟨hs, s6 _ _ hD, few10 (by omega), same_mut (sc.trans s6) nD2, hs ++ [v], upd_same, by rw [List.length_append, lh]; rfl, ?_⟩
          rw [hide_upd, take_at (c := formD fs i d) (by rw [formsD_get, ed, Nat.zero_add]; rfl)]
          exact spl_append (spl_mono (hide_mono s6) sp) ⟨g, trivial⟩
        refine ⟨_, rfl, _, rfl, aR, xs, 0 + (i : Int), _, rfl, rfl, s0c.seq hR, by rw [Int.zero_add]; exact atI_nat (List.getElem?_eq_getElem hi'), _, rfl, _, rfl, _, d, i, aF, fs, by rw [Int.zero_add]; rfl, dp_mono s0c _ _ hd.dp, fun ds e => ?_, s0c.seq hF, lF, fun e0 => ?_, fun e1 a p ys ev ha hp => ?_⟩
        · obtain ⟨a, ys, e1, e2, _⟩ := hd.raw ds e
          exact ⟨a, ys, e1, s0c _ _ e2⟩
        · refine fin Hc _ (Same.refl _) ?_
          unfold formD
          rw [e0]
          exact hd.mono (hide_base s0c n0)
        · refine fin _ _ (same_new hp) ?_
          obtain ⟨ds, rfl⟩ : ∃ ds, d = .tuple ds := by
            unfold formB at e1
            cases d <;> first | exact ⟨_, rfl⟩ | (simp [isTupT] at e1)
          obtain ⟨a', ys', e2, e3, e4⟩ := hd.raw ds rfl
          have ea : a' = a := by rw [e2] at ev; exact V.ref.inj ev
          subst ea
          have ey : ys' = ys := by
            have z := (s0c _ _ e3).symm.trans ha
            injection z with z
            injection z
          subst ey
          unfold formD
          rw [e1]
          have npD : p ≠ D2 := fun z => by rw [z, nm] at hp; cases hp
          have s6 : Same H (hide D2 (upd Hc p (.lst ys'))) := hide_base (s0c.trans (same_new hp)) n0
          exact ⟨.lst (SqL.of ((hide_ne npD).trans upd_same)) (dpa_mono s6 _ _ e4), fun ds' e' => hd.fine ds' e', lay_list fun x m => (hd.fine ds rfl x m).2, fun ds' e' => nomatch e'⟩
      
      rintro H5 ⟨s5, hs2, hD5, lh2, sp5⟩
      rw [List.take_of_length_le (by rw [formsD_len]; omega)] at sp5
      have sp6 := spl_mono hide_le sp5
      refine ⟨_, _, .lst (SqL.of (s5 _ _ hD4)) (dpa_mono s5 _ _ (spl_dpa sp4)), .lst (SqL.of hD5) (spl_dpa sp6), layF.shaped (by decide), layF.shaped (by decide), _, rfl, ?_⟩
      rw [SeqAt.eqv_refl _ layF.1]
      refine iteF ⟨_, rfl, _, rfl, _, _, .lst (SqL.of (s5 _ _ hq4)) (dpa_mono (sC.trans s5) _ _ gY), .lst ((sC.trans s5).seq hY) (dpa_mono (sC.trans s5) _ _ gY), layY.shaped (by decide), layY.shaped (by decide), _, rfl, ?_⟩
      rw [SeqAt.eqv_refl _ layY.1]
      exact iteF ⟨rfl, s5⟩
    rintro σ' H5 ⟨rfl, s5⟩
    have sD := sC.trans s5
    rcases told with ⟨p, l, n, R, ys, wn, rfl, rfl, al, rfl, rfl, okR, eR, ht, due4⟩ | ⟨wd, wv, ws, ht, hw⟩
    · have ed := kn wn
      subst ed
      refine ⟨fun σ' H' => σ' = [some (.str l), some (.int n), some (.ref aR), some (.ref aY), some (.ref aF), some .non, some (.ref D), some (.ref q), some (.ref t), none, none] ∧ H' = H5, ⟨_, rfl, _, rfl, iteF ⟨rfl, rfl⟩⟩, ?_⟩
      rintro σ' H' ⟨rfl, eH⟩
      subst H'
      have hX5 := spl_mono sD hX
      obtain ⟨R0, ex, hA0, hOk0, eR0, hRaw0⟩ := hand_of hX5 okR
      have lR0 : R0.length = rs.length := by
        have z := congrArg List.length eR0
        rw [List.length_map, List.length_map] at z
        exact z.symm
      have eqR : rsOf R0 = rsOf R := rsOf_eq (eR0.symm.trans eR)
      have lrs : (rsOf R0).length = R0.length := by unfold rsOf; exact List.length_map ..
      have lx0 : (refsH R0).length = R0.length := List.length_map ..
      rw [ex] at hR
      refine ⟨_, rfl, _, rfl, _, rfl, _, rfl, aR, rfl, ⟨_, sD.seq hR⟩, fun D3 nD3 => lc_list (K := K) (a := aR) (xs := refsH R0) (fun i H' => Same H5 H' ∧ ∃ B : Kept, H' D3 = some (.lst (refsK B)) ∧ B.map (·.2) = (rsOf R0).take i ∧ KeptAt H' B)
        ⟨same_new nD3, [], upd_same, rfl, fun p m => absurd m List.not_mem_nil⟩ (fun i H' _ h => (sD.trans h.1).seq hR) ?_ ?_⟩
      · rintro i x H6 hi ⟨s6, B, hB, eB, kB⟩
        have hi' : i < R0.length := by
          have := (List.getElem?_eq_some_iff.mp hi).1
          omega
        have hp : R0[i]? = some R0[i] := List.getElem?_eq_getElem hi'
        have m : R0[i] ∈ R0 := List.getElem_mem hi'
        have exx : x = .ref R0[i].1 := by
          unfold refsH at hi
          rw [List.getElem?_map, hp] at hi
          exact (Option.some.inj hi).symm
        subst exx
        have fin : ∀ (H7 : Hp) (z : Addr), Same H6 H7 → H7 z = some (.tup R0[i].2.2.vs) → ∃ acc, H7 D3 = some (.lst acc) ∧ acc.length < sizeLine ∧ (Same H5 (upd H7 D3 (.lst (acc ++ [.ref z]))) ∧ ∃ B : Kept, (upd H7 D3 (.lst (acc ++ [.ref z]))) D3 = some (.lst (refsK B)) ∧ B.map (·.2) = (rsOf R0).take (i + 1) ∧ KeptAt (upd H7 D3 (.lst (acc ++ [.ref z]))) B) := fun H7 z s7 hz => by
          have lB : B.length ≤ i := by
            have z := congrArg List.length eB
            rw [List.length_map, List.length_take] at z
            omega
          have lrB : (refsK B).length = B.length := List.length_map ..
          refine ⟨_, s7 _ _ hB, few10 (by omega), same_mut (s6.trans s7) nD3, B ++ [(z, R0[i].2.2)], ?_, ?_, fun p mp => ?_⟩
          · rw [upd_same]
            unfold refsK
            rw [List.map_append] <;> rfl
          · rw [List.map_append, eB, take_at (c := R0[i].2.2) (by unfold rsOf; rw [List.getElem?_map, hp]; rfl)]
            rfl
          · have at7 : H7 p.1 = some (.tup p.2.vs) := by
              rcases List.mem_append.mp mp with mp | mp
              · exact s7 _ _ (kB p mp)
              · rw [List.mem_singleton.mp mp]; exact hz
            rw [upd_ne (ne_of at7 (s7 _ _ hB) (fun z => nomatch z))]
            exact at7
        refine ⟨rfl, ?_⟩
        refine ⟨_, rfl, R0[i].1, R0[i].2.2.vs, rfl, ?_⟩
        rcases eb : R0[i].2.1 with _ | _
        · have hz := s6 _ _ (hRaw0 _ m eb)
          exact .inr ⟨SqT.of hz, fin H6 _ (Same.refl _) hz⟩
        · have hz := (hA0 _ m).mono s6
          rw [eb] at hz
          exact .inl ⟨hz, fun z nz => fin _ z (same_new nz) upd_same⟩
      rintro H6 ⟨s6, B, hB, eB, kB⟩
      rw [lx0, List.take_of_length_le (by omega)] at eB
      have lB : B.length = R0.length := by
        have z := congrArg List.length eB
        rw [List.length_map] at z
        omega
      have sE := sD.trans s6
      have lys : (ys.map PyData.int).length = ys.length := List.length_map ..
      refine ⟨_, rfl, l, n, D3, aY, B, ys, rfl, SqL.of hB, kB, by omega, fun p mp => ?_, sE.seq hY, by omega, fun p2 H7 s7 np2 due7 => ?_⟩
      · have mr : p.2 ∈ rsOf R0 := by rw [← eB]; exact List.mem_map.mpr ⟨p, mp, rfl⟩
        unfold rsOf at mr
        obtain ⟨q0, mq, eq⟩ := List.mem_map.mp mr
        have := hOk0 q0 mq
        rw [eq] at this
        exact k3_sub (rl_ok al this)
      · refine ⟨(by show 2 ≤ sizeLine; decide), fun t3 nt3 => ?_⟩
        have s8 := same_new (o := HO.tup [V.str "let", V.ref p2]) nt3
        have s48 := ((s5.trans s6).trans s7).trans s8
        have e1 : B.map (·.2) = rsOf R := eB.trans eqR
        rw [e1] at due7
        refine ⟨_, _, .tuple [.str "let", dueD l n (rsOf R) ys], rfl, .tup (SqT.of (s48 _ _ ht)) (.cons (.str _) (.cons ((due4.mono s48).dp) .nil)), .tup (SqT.of upd_same) (.cons (.str _) (.cons ((due7.mono s8).dp) .nil)), ⟨by show 2 ≤ 100000; decide, fun d md => ?_⟩, k _ ((sE.trans s7).trans s8)⟩
        simp only [List.mem_cons, List.not_mem_nil, or_false] at md
        rcases md with rfl | rfl
        · trivial
        · refine depth_due ?_ (by omega)
          rw [← eqR, lrs]
          omega
    · have dv := ks0 wd ws
      refine ⟨fun _ _ => False, ?_, fun _ _ z => z.elim⟩
      have fin : ∀ vv : V, Dp K H5 vv wd → depthOk 3 wd → ∀ t2, H5 t2 = none → spSame K 4 [.ref t, .ref t2] (upd H5 t2 (.tup [.str "refused", vv, .bl true])) Q E := fun vv g dw t2 nt2 => by
        have s8 := same_new (o := HO.tup [V.str "refused", vv, V.bl true]) nt2
        refine ⟨_, _, .tuple [.str "refused", wd, .bool true], rfl, .tup (SqT.of (s8 _ _ (s5 _ _ ht))) (.cons (.str _) (.cons (dp_mono (s5.trans s8) _ _ hw) (.cons (.bl _) .nil))), .tup (SqT.of upd_same) (.cons (.str _) (.cons (dp_mono s8 _ _ g) (.cons (.bl _) .nil))), ⟨by show 3 ≤ 100000; decide, fun d md => ?_⟩, k _ (sD.trans s8)⟩
        simp only [List.mem_cons, List.not_mem_nil, or_false] at md
        rcases md with rfl | rfl | rfl
        · trivial
        · exact dw
        · trivial
      rcases where_val ws with ⟨x, rfl⟩ | ⟨i, rfl⟩
      · have z := dv H5
        cases z
        exact ⟨_, rfl, _, rfl, iteT ⟨_, rfl, _, rfl, (by show 3 ≤ sizeLine; decide), fun t2 nt2 => fin _ (.str _) trivial t2 nt2⟩⟩
      · have z := dv H5
        cases z
        exact ⟨_, rfl, _, rfl, iteT ⟨_, rfl, _, rfl, (by show 3 ≤ sizeLine; decide), fun t2 nt2 => fin _ (.int _) trivial t2 nt2⟩⟩
end
end Mk

set_option Elab.async false
set_option linter.unusedVariables false
set_option maxRecDepth 100000
set_option maxHeartbeats 16000000
namespace Mk
open PySem L2 Pk
abbrev sLaw : Stmt := top 81
abbrev nLaw : List PySem.Str := ["script", "head", "letters", "states", "many", "pool", "rules", "yes", "forms", "turn", "row", "odd", "spoilt", "k", "part", "at", "fill"]
theorem scLaw : FnScope nLaw ["script"] (defScope sLaw) := ⟨rfl, rfl, rfl, by decide +kernel, rfl, by decide +kernel, by decide +kernel⟩
structure LawDefs (P : Program) (w : World) (K : PySem.W.Frag) (mg : PySem.Str → Option Value) (base : Heap) : Prop where
  cell : Got P w K mg base "_law_cell" 1 ["script", "k"] (spCellA K)
  digits : Got P w K mg base "_law_digits" 1 ["cell", "sizes"] (spDigits K)
  letters : Got P w K mg base "_law_any_letters" 2 ["cell"] spAny
  pool : Got P w K mg base "_law_pool" 2 ["cell"] spPool
  rules : Got P w K mg base "_law_rules" 3 ["script", "at", "many", "letters", "states", "pool"] (spLRules K)
  yes : Got P w K mg base "_law_yes" 2 ["cell", "states"] spYes
  args : Got P w K mg base "_law_odd_arguments" 2 ["row", "letters", "states", "yes"] (spArgs K)
  spoilt : Got P w K mg base "_law_spoilt" 2 ["rule", "row", "letters", "states", "pool"] (spSpoilt K)
  right : Got P w K mg base "_law_made_right" 9 ["letters", "states", "rules", "yes", "forms"] (spMR K)
def spLaw (K : PySem.W.Frag) : Sp := fun vs H Q _ => ∃ (a : Addr) (ns : List Int), vs = [.ref a] ∧ SqL K H a (ns.map V.int) ∧ ∀ H', Q (.bl true) H'
theorem row_is5 {row : List Int} {x0 x1 x2 x3 x4 : Int} (l : row.length = 5) (e0 : row[0]? = some x0) (e1 : row[1]? = some x1) (e2 : row[2]? = some x2) (e3 : row[3]? = some x3) (e4 : row[4]? = some x4) : row = [x0, x1, x2, x3, x4] := by
  match row, l with
  | [y0, y1, y2, y3, y4], _ =>
    simp at e0 e1 e2 e3 e4
    subst e0 e1 e2 e3 e4
    rfl
theorem row_is9 {row : List Int} {x0 x1 x2 x3 x4 x5 x6 x7 x8 : Int} (l : row.length = 9) (e0 : row[0]? = some x0) (e1 : row[1]? = some x1) (e2 : row[2]? = some x2) (e3 : row[3]? = some x3) (e4 : row[4]? = some x4) (e5 : row[5]? = some x5) (e6 : row[6]? = some x6) (e7 : row[7]? = some x7) (e8 : row[8]? = some x8) : row = [x0, x1, x2, x3, x4, x5, x6, x7, x8] := by
  match row, l with
  | [y0, y1, y2, y3, y4, y5, y6, y7, y8], _ =>
    simp at e0 e1 e2 e3 e4 e5 e6 e7 e8
    subst e0 e1 e2 e3 e4 e5 e6 e7 e8
    rfl
theorem menu_n {d1 d0 : Nat} (b1 : (d1 : Int) < 2000) (b0 : (d0 : Int) < 7) : ∃ n : Int, atI [V.int 1, V.int 2, V.int 3, V.int 2000, V.int 1999, V.int (1 + (d1 : Int)), V.int 4] (d0 : Int) = some (.int n) ∧ 1 ≤ n ∧ n ≤ 2000 := by
  obtain ⟨x, mx, ex⟩ := pick_ints (xs := [1, 2, 3, 2000, 1999, 1 + (d1 : Int), 4]) (i := (d0 : Int)) (by omega) (by show _ < ((7 : Nat) : Int); omega)
  refine ⟨x, ex, ?_⟩
  simp only [List.mem_cons, List.not_mem_nil, or_false] at mx
  omega
theorem menu_m {d3 d2 : Nat} (b3 : (d3 : Int) < 13) (b2 : (d2 : Int) < 8) : ∃ m : Nat, atI [V.int 4, V.int 2, V.int 6, V.int 1, V.int 8, V.int 3, V.int (d3 : Int), V.int (d3 : Int)] (d2 : Int) = some (.int (m : Int)) ∧ m ≤ 12 := by
  obtain ⟨x, mx, ex⟩ := pick_ints (xs := [4, 2, 6, 1, 8, 3, (d3 : Int), (d3 : Int)]) (i := (d2 : Int)) (by omega) (by show _ < ((8 : Nat) : Int); omega)
  simp only [List.mem_cons, List.not_mem_nil, or_false] at mx
  refine ⟨x.toNat, ?_, by omega⟩
  rw [Int.toNat_of_nonneg (by omega)]
  exact ex
theorem menu_k {d : Nat} (b : (d : Int) < 8) : ∃ c : Nat, atI [V.int 1, V.int 1, V.int 0, V.int 2, V.int 1, V.int 3, V.int 0, V.int 1] (d : Int) = some (.int (c : Int)) ∧ c ≤ 3 := by
  obtain ⟨x, mx, ex⟩ := pick_ints (xs := [1, 1, 0, 2, 1, 3, 0, 1]) (i := (d : Int)) (by omega) (by show _ < ((8 : Nat) : Int); omega)
  simp only [List.mem_cons, List.not_mem_nil, or_false] at mx
  refine ⟨x.toNat, ?_, by omega⟩
  rw [Int.toNat_of_nonneg (by omega)]
  exact ex
theorem dpa_data {K : PySem.W.Frag} {H : Hp} (r : Rl) : DpAll K H r.vs r.data :=
  .cons (.int _) (.cons (.str _) (.cons (.str _) (.cons (.int _) (.cons (.int _) (.cons (.str _) (.cons (.str _) (.cons (.str _) .nil)))))))
theorem fine_data {l : PySem.Str} {n : Int} {r : Rl} (al : Alpha l) (h : RlOk l n r) : ∀ x ∈ r.data, Fine x := by
  have sg : SOk r.sg := sok_of (by obtain ⟨c, e, _⟩ := h.sg; rw [e]; show 1 ≤ 1000; decide) (sgn_ok al h.sg)
  have tp : SOk r.tp := sok_of (Nat.le_trans (top_len h.tp) (by decide)) (top_ok h.tp)
  have de : SOk r.de := sok_of (by rcases h.de.one with e | e | e | e <;> rw [e] <;> decide +kernel) (deed_ok h.de).1
  have sy : SOk r.sy := by
    refine sok_of ?_ (deed_ok h.de).2
    rcases h.de.one with e | e | e | e
    · rw [h.de.no (.inl e)]; decide +kernel
    · rw [h.de.no (.inr e)]; decide +kernel
    · exact Nat.le_trans (top_len (.inl (h.de.sym (.inl e)))) (by decide)
    · exact Nat.le_trans (top_len (.inl (h.de.sym (.inr e)))) (by decide)
  have sa : SOk r.sa := sok_of (Nat.le_trans h.sa.2 (by decide)) (low_ok h.sa.1)
  exact fall_cons fine_int (fall_cons (fine_str sg) (fall_cons (fine_str tp) (fall_cons fine_int (fall_cons fine_int (fall_cons (fine_str de) (fall_cons (fine_str sy) (fall_cons (fine_str sa) fall_nil)))))))
theorem spl_kept {K : PySem.W.Frag} {H : Hp} {l : PySem.Str} {n : Int} (al : Alpha l) : ∀ {B : Kept}, KeptAt H B → (∀ p ∈ B, RlOk l n p.2) → SpL K H (refsK B) (B.map fun p => PyData.tuple p.2.data)
  | [], _, _ => trivial
  | p :: B, h, o => ⟨spi_tup (h p List.mem_cons_self) (dpa_data p.2) (fine_data al (o p List.mem_cons_self)), spl_kept al (fun q m => h q (List.mem_cons_of_mem _ m)) fun q m => o q (List.mem_cons_of_mem _ m)⟩
theorem spl_set {K : PySem.W.Frag} {H : Hp} {v : V} {d : PyData} (g : SpI K H v d) : ∀ {vs : List V} {ds : List PyData} (i : Nat), SpL K H vs ds → SpL K H (vs.set i v) (ds.set i d)
  | [], [], _, _ => trivial
  | _ :: _, _ :: _, 0, h => ⟨g, h.2⟩
  | _ :: _, _ :: _, i + 1, h => ⟨h.1, spl_set g i h.2⟩
  | [], _ :: _, _, h => h.elim
  | _ :: _, [], _, h => h.elim
theorem spl_rep {K : PySem.W.Frag} {H : Hp} {v : V} {d : PyData} (g : SpI K H v d) : ∀ k : Nat, SpL K H (List.replicate k v) (List.replicate k d)
  | 0 => trivial
  | k + 1 => ⟨g, spl_rep g k⟩
theorem flat_rep (v : V) : ∀ k : Nat, (List.replicate k [v]).flatten = List.replicate k v
  | 0 => rfl
  | k + 1 => by rw [List.replicate_succ, List.flatten_cons, flat_rep v k]; rfl
section
variable {P : Program} {w : World} {K : PySem.W.Frag} {mg : PySem.Str → Option Value} {base : Heap}
theorem ok_law {f : Addr} {fd : FuncData} (F : Fun K "law" "law" sLaw f fd) (T : TM mg) (G : LawDefs P w K mg base) : FnOk P w K mg base CX0 10 f fd ["script"] (spLaw K) := by
  refine F.ok scLaw (fun vs H Q E h => ?_) (fun cdv A outer s H vs Q E hr h => ?_)
  · obtain ⟨a, ns, rfl, _⟩ := h
    rfl
  · obtain ⟨sc, ns, rfl, hS, k⟩ := h
    have nd := scLaw.nd
    have h1 := hr.mono (show 1 ≤ 9 by decide)
    have h2 := hr.mono (show 2 ≤ 9 by decide)
    have h3 := hr.mono (show 3 ≤ 9 by decide)
    refine ⟨_, (pss_cons (ps_set (i := 1) nd rfl (Or.inl rfl) (pe_got G.digits h1 (by rfl) (pa_cons (pe_got G.cell h1 (by rfl) (pa_cons (pv 0) (pa_cons pe_int pa_nil))) (pa_cons (pe_lst (pa_cons pe_int (pa_cons pe_int (pa_cons pe_int (pa_cons pe_int (pa_cons pe_int (pa_cons pe_int (pa_cons pe_int pa_nil)))))))) pa_nil))))
      (pss_cons (ps_set (i := 2) nd rfl (Or.inl rfl) (pe_got G.letters h2 (by rfl) (pa_cons (pe_got G.cell h1 (by rfl) (pa_cons (pv 0) (pa_cons pe_int pa_nil))) pa_nil)))
      (pss_cons (ps_set (i := 3) nd rfl (Or.inl rfl) (pe_ix ix_list (pe_lst (pa_cons pe_int (pa_cons pe_int (pa_cons pe_int (pa_cons pe_int (pa_cons pe_int (pa_cons (pe_op op_add pe_int (pe_ix ix_list (pv 1) pe_int fun _ _ => rfl)) (pa_cons pe_int pa_nil)))))))) (pe_ix ix_list (pv 1) pe_int fun _ _ => rfl) fun _ _ => rfl))
      (pss_cons (ps_set (i := 4) nd rfl (Or.inl rfl) (pe_ix ix_list (pe_lst (pa_cons pe_int (pa_cons pe_int (pa_cons pe_int (pa_cons pe_int (pa_cons pe_int (pa_cons pe_int (pa_cons (pe_ix ix_list (pv 1) pe_int fun _ _ => rfl) (pa_cons (pe_ix ix_list (pv 1) pe_int fun _ _ => rfl) pa_nil))))))))) (pe_ix ix_list (pv 1) pe_int fun _ _ => rfl) fun _ _ => rfl))
      (pss_cons (ps_set (i := 5) nd rfl (Or.inl rfl) (pe_got G.pool h2 (by rfl) (pa_cons (pe_got G.cell h1 (by rfl) (pa_cons (pv 0) (pa_cons pe_int pa_nil))) pa_nil)))
      (pss_cons (ps_set (i := 6) nd rfl (Or.inl rfl) (pe_got G.rules h3 (by rfl) (pa_cons (pv 0) (pa_cons pe_int (pa_cons (pv 4) (pa_cons (pv 2) (pa_cons (pv 3) (pa_cons (pv 5) pa_nil))))))))
      (pss_cons (ps_set (i := 7) nd rfl (Or.inl rfl) (pe_got G.yes h2 (by rfl) (pa_cons (pe_got G.cell h1 (by rfl) (pa_cons (pv 0) (pa_cons pe_int pa_nil))) (pa_cons (pv 3) pa_nil))))
      (pss_cons (ps_set (i := 8) nd rfl (Or.inl rfl) (pe_got G.digits h1 (by rfl) (pa_cons (pe_got G.cell h1 (by rfl) (pa_cons (pv 0) (pa_cons pe_int pa_nil))) (pa_cons (pe_op op_rep (pe_lst (pa_cons pe_int pa_nil)) pe_int) pa_nil))))
      (pss_cons (ps_for PassesOwn.never rfl (pi_range1 (by rfl) T.range (pa_cons pe_int pa_nil)) (pg_name (i := 9) nd rfl (Or.inl rfl))
        (pss_cons (ps_set (i := 10) nd rfl (Or.inl rfl) (pe_got G.digits h1 (by rfl) (pa_cons (pe_got G.cell h1 (by rfl) (pa_cons (pv 0) (pa_cons (pe_op op_add pe_int (pv 9)) pa_nil))) (pa_cons (pe_lst (pa_cons pe_int (pa_cons pe_int (pa_cons pe_int (pa_cons pe_int (pa_cons pe_int (pa_cons pe_int (pa_cons pe_int (pa_cons pe_int (pa_cons pe_int pa_nil)))))))))) pa_nil))))
        (pss_cons (ps_set (i := 11) nd rfl (Or.inl rfl) (pe_got G.args h2 (by rfl) (pa_cons (pv 10) (pa_cons (pv 2) (pa_cons (pv 3) (pa_cons (pv 7) pa_nil))))))
        (pss_cons (ps_set (i := 12) nd rfl (Or.inl rfl) (pe_callTy (call_list_of) (by rfl) T.list PyProof.Rows.Boot.list (pa_cons (pv 6) pa_nil)))
        (pss_cons (ps_for PassesOwn.never rfl (pi_range1 (by rfl) T.range (pa_cons (pe_ix ix_list (pe_lst (pa_cons pe_int (pa_cons pe_int (pa_cons pe_int (pa_cons pe_int (pa_cons pe_int (pa_cons pe_int (pa_cons pe_int (pa_cons pe_int pa_nil))))))))) (pe_ix ix_list (pv 10) pe_int fun _ _ => rfl) fun _ _ => rfl) pa_nil)) (pg_name (i := 13) nd rfl (Or.inl rfl))
          (pss_cons (ps_set (i := 14) nd rfl (Or.inl rfl) (pe_got G.digits h1 (by rfl) (pa_cons (pe_got G.cell h1 (by rfl) (pa_cons (pv 0) (pa_cons (pe_op op_add (pe_op op_add pe_int (pe_op op_mul pe_int (pv 9))) (pv 13)) pa_nil))) (pa_cons (pe_lst (pa_cons pe_int (pa_cons pe_int (pa_cons pe_int (pa_cons pe_int (pa_cons pe_int pa_nil)))))) pa_nil))))
          (pss_one (ps_if (pt_cmpR op_gt (pv 4) pe_int (nomark _))
            (pss_cons (ps_set (i := 15) nd rfl (Or.inl rfl) (pe_op op_mod (pe_callTy call_int1 (by rfl) T.int PyProof.Rows.Boot.int (pa_cons (pe_ix ix_list (pv 14) pe_int fun _ _ => rfl) pa_nil)) (pv 4)))
            (pss_one (ps_asg (pe_got G.spoilt h2 (by rfl) (pa_cons (pe_ix ix_list (pv 12) (pv 15) fun _ _ => rfl) (pa_cons (pv 14) (pa_cons (pv 2) (pa_cons (pv 3) (pa_cons (pv 5) pa_nil)))))) (pg_sub (pv 12) (pv 15) set_list))))
            pss_nil))))
        (C8.pss_cut (ps_if (PW.pt (pw_and (pt_cmpR op_eq (pv 9) pe_int (nomark _)) (pw_and1 (pt_cmpR op_eq (pe_ix ix_list (pv 1) pe_int fun _ _ => rfl) pe_int (nomark _)))))
          (pss_cons (ps_set (i := 16) nd rfl (Or.inl rfl) (pe_op op_rep (pe_lst (pa_cons (pe_tup (pa_cons pe_int (pa_cons pe_str (pa_cons pe_str (pa_cons pe_int (pa_cons pe_int (pa_cons pe_str (pa_cons pe_str (pa_cons pe_str pa_nil))))))))) pa_nil)) (pe_op op_sub (pe_op op_add pe_int (pe_ix ix_list (pv 1) pe_int fun _ _ => rfl)) (pv 4))))
          (pss_one (ps_if (pt_cmpR op_eq (pe_ix ix_list (pv 1) pe_int fun _ _ => rfl) pe_int (nomark _))
            (pss_one (ps_set (i := 12) nd rfl (Or.inl rfl) (pe_op op_cat (pv 16) (pv 12))))
            (pss_one (ps_set (i := 12) nd rfl (Or.inl rfl) (pe_op op_cat (pv 12) (pv 16)))))))
          pss_nil)
        (pss_one (ps_if (pt_not (pt_val (pe_got G.right hr (by rfl) (pa_cons (pe_ix ix_list (pv 11) pe_int fun _ _ => rfl) (pa_cons (pe_ix ix_list (pv 11) pe_int fun _ _ => rfl) (pa_cons (pv 12) (pa_cons (pe_ix ix_list (pv 11) pe_int fun _ _ => rfl) (pa_cons (pv 8) pa_nil))))))))
          (pss_one (ps_ret pe_bl))
          pss_nil))))))))
      (pss_one (ps_ret pe_bl))))))))))), ?_⟩
    -- head
    refine ⟨_, rfl, sc, ns, 0, rfl, hS, fun z0 => ⟨show 7 ≤ sizeLine by decide, fun l6 h6 => ⟨z0, l6, [7, 2000, 8, 13, 64, 2, 2], rfl, SqL.of upd_same, by decide, by decide, fun head aD H1 dg hp s1 hhead => ?_⟩⟩⟩
    have sA : Same H H1 := (same_new h6).trans s1
    clear s1 hp h6
    have digd : ∀ (j : Nat) (t : Int), ([7, 2000, 8, 13, 64, 2, 2] : List Int)[j]? = some t → ∃ d : Nat, head[j]? = some (d : Int) ∧ (d : Int) < t := fun j t e => by
      obtain ⟨d, e1, e2, e3⟩ := dg.2 j t e
      exact ⟨d.toNat, by rw [e1, Int.toNat_of_nonneg e2], by rw [Int.toNat_of_nonneg e2]; exact e3⟩
    obtain ⟨d0, ed0, bd0⟩ := digd 0 7 rfl
    obtain ⟨d1, ed1, bd1⟩ := digd 1 2000 rfl
    obtain ⟨d2, ed2, bd2⟩ := digd 2 8 rfl
    obtain ⟨d3, ed3, bd3⟩ := digd 3 13 rfl
    obtain ⟨d4, ed4, bd4⟩ := digd 4 64 rfl
    obtain ⟨d5, ed5, bd5⟩ := digd 5 2 rfl
    obtain ⟨d6, ed6, bd6⟩ := digd 6 2 rfl
    have rowAt : ∀ {j : Nat} {d : Int}, head[j]? = some d → atI (head.map V.int) (j : Int) = some (V.int d) := fun {j d} e => atI_nat (by rw [List.getElem?_map, e]; rfl)
    -- letters
    refine ⟨_, rfl, sc, ns, 1, rfl, sA.seq hS, fun z1 => ⟨z1, rfl, fun l H2 al s2 => ?_⟩⟩
    have sB := sA.trans s2
    have hh2 := s2 _ _ hhead
    -- states
    obtain ⟨n, hn, n1, n2⟩ := menu_n bd1 bd0
    refine ⟨_, rfl, aD, _, _, _, rfl, rfl, SqL.of hh2, rowAt (j := 1) ed1, _, _, rfl, rfl, show 7 ≤ sizeLine by decide, fun q3 nq3 => ?_⟩
    refine ⟨_, rfl, aD, _, _, _, rfl, rfl, SqL.of (same_new nq3 _ _ hh2), rowAt (j := 0) ed0, q3, _, _, .int n, rfl, rfl, SqL.of upd_same, hn, ?_⟩
    obtain ⟨m, hm, m12⟩ := menu_m bd3 bd2
    have s3 := same_new (o := HO.lst [V.int 1, V.int 2, V.int 3, V.int 2000, V.int 1999, V.int (1 + (d1 : Int)), V.int 4]) nq3
    have hh3 := s3 _ _ hh2
    have sC := sB.trans s3
    dsimp only [gName]
    generalize upd H2 q3 (.lst [V.int 1, V.int 2, V.int 3, V.int 2000, V.int 1999, V.int (1 + (d1 : Int)), V.int 4]) = H3 at hh3 sC ⊢
    clear s3 nq3 hn
    refine ⟨_, rfl, aD, _, _, _, rfl, rfl, SqL.of hh3, rowAt (j := 3) ed3, _, rfl, aD, _, _, _, rfl, rfl, SqL.of hh3, rowAt (j := 3) ed3, show 8 ≤ sizeLine by decide, fun q4 nq4 => ?_⟩
    refine ⟨_, rfl, aD, _, _, _, rfl, rfl, SqL.of (same_new nq4 _ _ hh3), rowAt (j := 2) ed2, q4, _, _, .int (m : Int), rfl, rfl, SqL.of upd_same, hm, ?_⟩
    have s4 := same_new (o := HO.lst [V.int 4, V.int 2, V.int 6, V.int 1, V.int 8, V.int 3, V.int (d3 : Int), V.int (d3 : Int)]) nq4
    have hh4 := s4 _ _ hh3
    have sD := sC.trans s4
    dsimp only [gName]
    generalize upd H3 q4 (.lst [V.int 4, V.int 2, V.int 6, V.int 1, V.int 8, V.int 3, V.int (d3 : Int), V.int (d3 : Int)]) = H4 at hh4 sD ⊢
    clear s4 nq4 hm
    -- pool, rules
    refine ⟨_, rfl, sc, ns, 2, rfl, sD.seq hS, fun z2 => ⟨z2, rfl, fun pp H5 xs lx okx s5 np5 hpool => ?_⟩⟩
    have sE := sD.trans s5
    refine ⟨_, rfl, _, rfl, _, rfl, _, rfl, _, rfl, sc, ns, 21, m, l, n, pp, xs, rfl, sE.seq hS, by omega, al, n1, n2, hpool, lx, okx, fun aB B H6 lB dB s6 np6 hB => ?_⟩
    have sF := sE.trans s6
    have hh6 := s6 _ _ (s5 _ _ hh4)
    -- yes
    refine ⟨_, rfl, sc, ns, 3, rfl, sF.seq hS, fun z3 => ⟨_, rfl, z3, n, rfl, n1, n2, fun aY ys H7 okY fewY s7 np7 hY => ?_⟩⟩
    have sG := sF.trans s7
    -- forms
    refine ⟨_, rfl, sc, ns, 4, rfl, sG.seq hS, fun z4 => ⟨show 1 ≤ sizeLine by decide, fun q8 nq8 => ?_⟩⟩
    refine ⟨q8, 16, _, rfl, rfl, upd_same, by decide, by decide, by decide, fun q9 nq9 => ?_⟩
    refine ⟨z4, q9, List.replicate 16 2, rfl, SqL.of upd_same, by decide, by decide, fun fs aF H8 dgF np8 s8 hF => ?_⟩
    have s78 : Same H7 H8 := ((same_new nq8).trans (same_new nq9)).trans s8
    clear s8 np8 nq9 nq8
    have lF : fs.length = 16 := dgF.1
    have sH := sG.trans s78
    have hB8 := s78 _ _ (s7 _ _ hB)
    have hY8 := s78 _ _ hY
    have dB8 := (dB.mono s7).mono s78
    have hh8 := s78 _ _ (s7 _ _ hh6)
    have hP8 := s78 _ _ (s7 _ _ (s6 _ _ hpool))
    have hS8 := sH.seq hS
    clear sA sB sC sD sE sF sG s2 s5 s6 s7 s78 sH hhead hh2 hh3 hh4 hh6 hB hY dB hpool np5 np6 np7
    have okP : ∀ x ∈ xs, SOk x := fun x mx => sok_of (Nat.le_trans (top_len (.inl (okx x mx))) (by decide)) (sym_ok (okx x mx))
    have okL : SOk l := sok_of (Nat.le_trans al.most (by decide)) (alpha_ok al)
    have lRB : (refsK B).length = B.length := List.length_map ..
    have few10 : ∀ {m : Nat}, m ≤ 100000 → m < sizeLine := fun h => Nat.lt_of_le_of_lt h (by decide)
    -- the turns
    refine ⟨4, rfl, by decide, by decide, for_range (lo := 0) (n := 4) (fun i σ H' => Same H8 H' ∧ ∃ o9 o10 o11 o12 o13 o14 o15 o16 : Option V, σ = [some (.ref sc), some (.ref aD), some (.str l), some (.int n), some (.int (m : Int)), some (.ref pp), some (.ref aB), some (.ref aY), some (.ref aF), o9, o10, o11, o12, o13, o14, o15, o16]) ⟨Same.refl _, _, _, _, _, _, _, _, _, rfl⟩ ?_ ?_⟩
    · rintro t σ H9 ht ⟨s9, o9, o10, o11, o12, o13, o14, o15, o16, rfl⟩
      -- row
      refine ⟨_, rfl, _, rfl, _, _, rfl, rfl, sc, ns, 5 + t, (by show [V.ref sc, V.int (5 + (0 + (t : Int)))] = _; rw [show (5 : Int) + (0 + (t : Int)) = ((5 + t : Nat) : Int) by omega]), s9.seq hS8, fun z5 => ?_⟩
      refine ⟨show 9 ≤ sizeLine by decide, fun q5 nq5 => ⟨z5, q5, [6, 6, 4, 15, 12, 997, 12, 8, 30], rfl, SqL.of upd_same, by decide, by decide, fun row aW H10 dgW hpW sW hrow => ?_⟩⟩
      have s10 := s9.trans ((same_new nq5).trans sW)
      clear sW nq5 hpW
      have digr : ∀ (j : Nat) (t : Int), ([6, 6, 4, 15, 12, 997, 12, 8, 30] : List Int)[j]? = some t → ∃ d : Nat, row[j]? = some (d : Int) ∧ (d : Int) < t := fun j t e => by
        obtain ⟨d, e1, e2, e3⟩ := dgW.2 j t e
        exact ⟨d.toNat, by rw [e1, Int.toNat_of_nonneg e2], by rw [Int.toNat_of_nonneg e2]; exact e3⟩
      obtain ⟨r0, er0, br0⟩ := digr 0 6 rfl
      obtain ⟨r1, er1, br1⟩ := digr 1 6 rfl
      obtain ⟨r2, er2, br2⟩ := digr 2 4 rfl
      obtain ⟨r3, er3, br3⟩ := digr 3 15 rfl
      obtain ⟨r4, er4, br4⟩ := digr 4 12 rfl
      obtain ⟨r5, er5, br5⟩ := digr 5 997 rfl
      obtain ⟨r6, er6, br6⟩ := digr 6 12 rfl
      obtain ⟨r7, er7, br7⟩ := digr 7 8 rfl
      obtain ⟨r8, er8, br8⟩ := digr 8 30 rfl
      have err : row = [((r0 : Nat) : Int), ((r1 : Nat) : Int), ((r2 : Nat) : Int), ((r3 : Nat) : Int), ((r4 : Nat) : Int), ((r5 : Nat) : Int), ((r6 : Nat) : Int), ((r7 : Nat) : Int), ((r8 : Nat) : Int)] := row_is9 dgW.1 er0 er1 er2 er3 er4 er5 er6 er7 er8
      subst err
      -- odd
      refine ⟨_, rfl, _, rfl, _, rfl, _, rfl, aW, l, n, aY, ys, r0, r1, r2, r3, r4, r5, r6, r7, r8, rfl, SqL.of hrow, by omega, by omega, by omega, by omega, Nat.le_trans al.most (by decide), s10.seq (SqL.of hY8), by omega, fun pO H11 sO npO OA => ?_⟩
      have s11 := s10.trans sO
      have hrow11 := sO _ _ hrow
      -- a new list of the rules
      refine ⟨_, rfl, aB, _, rfl, .inl (SqL.of (s11 _ _ hB8)), fun pS npS => ?_⟩
      obtain ⟨c, hc, c3⟩ := menu_k br7
      refine ⟨show 8 ≤ sizeLine by decide, fun q6 nq6 => ?_⟩
      have sQ := (same_new (o := HO.lst (refsK B)) npS).trans (same_new (o := HO.lst [V.int 1, V.int 1, V.int 0, V.int 2, V.int 1, V.int 3, V.int 0, V.int 1]) nq6)
      have hpS6 : (upd (upd H11 pS (.lst (refsK B))) q6 (.lst [V.int 1, V.int 1, V.int 0, V.int 2, V.int 1, V.int 3, V.int 0, V.int 1])) pS = some (.lst (refsK B)) := same_new nq6 _ _ upd_same
      have k6 : SpL K (hide pS (upd (upd H11 pS (.lst (refsK B))) q6 (.lst [V.int 1, V.int 1, V.int 0, V.int 2, V.int 1, V.int 3, V.int 0, V.int 1]))) (refsK B) (B.map fun p => PyData.tuple p.2.data) := spl_kept al (fun p mp => hide_base sQ npS _ _ (s11 _ _ (dB8.at_ p mp))) dB8.ok
      refine ⟨_, rfl, aW, _, _, _, rfl, rfl, sQ.seq (SqL.of hrow11), (atI_nat (j := 7) rfl : atI [V.int ((r0 : Nat) : Int), V.int ((r1 : Nat) : Int), V.int ((r2 : Nat) : Int), V.int ((r3 : Nat) : Int), V.int ((r4 : Nat) : Int), V.int ((r5 : Nat) : Int), V.int ((r6 : Nat) : Int), V.int ((r7 : Nat) : Int), V.int ((r8 : Nat) : Int)] ((7 : Nat) : Int) = _), q6, _, _, .int (c : Int), rfl, rfl, SqL.of upd_same, hc, ?_⟩
      refine ⟨(c : Int), rfl, by omega, by omega, for_range (lo := 0) (n := (c : Int).toNat) (fun i σ H' => Same H11 H' ∧ (∃ (vs : List V) (ds : List PyData), H' pS = some (.lst vs) ∧ SpL K (hide pS H') vs ds ∧ ds.length = m) ∧ ∃ o13 o14 o15 o16 : Option V, σ = [some (.ref sc), some (.ref aD), some (.str l), some (.int n), some (.int (m : Int)), some (.ref pp), some (.ref aB), some (.ref aY), some (.ref aF), some (.int (0 + (t : Int))), some (.ref aW), some (.ref pO), some (.ref pS), o13, o14, o15, o16])
        ⟨sQ, ⟨_, _, hpS6, k6, by rw [List.length_map, lB]⟩, _, _, _, _, rfl⟩ ?_ ?_⟩
      · rintro i σ H12 hi ⟨s12, ⟨vs, ds, hvs, gvs, lds⟩, o13, o14, o15, o16, rfl⟩
        have s812 := s11.trans s12
        refine ⟨_, rfl, _, rfl, _, _, rfl, rfl, .inl ⟨by decide, by decide⟩, _, _, rfl, rfl, _, rfl, _, _, rfl, rfl, sc, ns, 9 + 3 * t + i, (by show [V.ref sc, V.int (9 + 3 * (0 + (t : Int)) + (0 + (i : Int)))] = _; rw [show (9 : Int) + 3 * (0 + (t : Int)) + (0 + (i : Int)) = ((9 + 3 * t + i : Nat) : Int) by omega]), s812.seq hS8, fun z6 => ?_⟩
        refine ⟨show 5 ≤ sizeLine by decide, fun q7 nq7 => ⟨z6, q7, [997, 18, 12, 26, 30], rfl, SqL.of upd_same, by decide, by decide, fun part aPt H13 dgP hpP sP hpart => ?_⟩⟩
        have s13 := (same_new (o := HO.lst [V.int 997, V.int 18, V.int 12, V.int 26, V.int 30]) nq7).trans sP
        have digp : ∀ (j : Nat) (t : Int), ([997, 18, 12, 26, 30] : List Int)[j]? = some t → ∃ d : Nat, part[j]? = some (d : Int) ∧ (d : Int) < t := fun j t e => by
          obtain ⟨d, e1, e2, e3⟩ := dgP.2 j t e
          exact ⟨d.toNat, by rw [e1, Int.toNat_of_nonneg e2], by rw [Int.toNat_of_nonneg e2]; exact e3⟩
        obtain ⟨p0, ep0, bp0⟩ := digp 0 997 rfl
        obtain ⟨p1, ep1, bp1⟩ := digp 1 18 rfl
        obtain ⟨p2, ep2, bp2⟩ := digp 2 12 rfl
        obtain ⟨p3, ep3, bp3⟩ := digp 3 26 rfl
        obtain ⟨p4, ep4, bp4⟩ := digp 4 30 rfl
        have erp : part = [((p0 : Nat) : Int), ((p1 : Nat) : Int), ((p2 : Nat) : Int), ((p3 : Nat) : Int), ((p4 : Nat) : Int)] := row_is5 dgP.1 ep0 ep1 ep2 ep3 ep4
        subst erp
        have hvs13 := s13 _ _ hvs
        have gvs13 := spl_mono (hide_mono s13) gvs
        have lvs := spl_len gvs
        refine ⟨_, rfl, _, _, rfl, rfl, _, rfl, ite2 (fun cm => ?_) (fun _ => ⟨s12.trans s13, ⟨vs, ds, hvs13, gvs13, lds⟩, _, _, _, _, rfl⟩)⟩
        have m0 : 0 < m := by have := of_decide_eq_true cm; omega
        refine ⟨_, rfl, aPt, _, _, _, rfl, rfl, SqL.of hpart, (atI_nat (j := 0) rfl : atI [V.int ((p0 : Nat) : Int), V.int ((p1 : Nat) : Int), V.int ((p2 : Nat) : Int), V.int ((p3 : Nat) : Int), V.int ((p4 : Nat) : Int)] ((0 : Nat) : Int) = _), .inl ⟨_, rfl, _, rfl, _, _, rfl, rfl, (by show (0 : Int) < (m : Int); omega), ?_⟩⟩
        have em : ((p0 : Nat) : Int) % (m : Int) = ((p0 % m : Nat) : Int) := (Int.natCast_emod p0 m).symm
        have lt : p0 % m < vs.length := by rw [lvs, lds]; exact Nat.mod_lt _ m0
        obtain ⟨d, ed, gd⟩ := spl_get gvs13 (List.getElem?_eq_getElem lt)
        refine ⟨_, rfl, _, rfl, pS, vs, _, _, rfl, rfl, SqL.of hvs13, (by rw [em]; exact atI_nat (List.getElem?_eq_getElem lt)), _, rfl, _, rfl, _, rfl, _, rfl, hide pS H13, _, d, aPt, l, n, pp, xs, p0, p1, p2, p3, p4, rfl, hide_le, gd, SqL.of hpart, by omega, by omega, by omega, by omega, okL, (s812.trans s13).seq (SqL.of hP8), lx, okP, fun v' d' H14 s14 g14 => ?_⟩
        have hvs14 := s14 _ _ hvs13
        refine ⟨_, rfl, _, rfl, pS, vs, _, p0 % m, rfl, rfl, hvs14, (by rw [em]; exact ixN_natP lt), same_mut ((s12.trans s13).trans s14) npS, ⟨_, ds.set (p0 % m) d', upd_same, ?_, by rw [List.length_set]; exact lds⟩, _, _, _, _, rfl⟩
        rw [hide_upd]
        exact spl_set (g14.mono (over_hide hvs13 s14)) _ (spl_mono (hide_mono s14) gvs13)
      rintro σ H12 ⟨s12, ⟨vs, ds, hvs, gvs0, lds⟩, o13, o14, o15, o16, rfl⟩
      have gvs := spl_mono hide_le gvs0
      have lvs := spl_len gvs
      have s812 := s11.trans s12
      clear gvs0
      -- many rules
      refine ⟨fun σ' H' => Same H12 H' ∧ (∃ (pT : Addr) (o13 o14 o15 o16 : Option V) (us : List V) (es ks : List PyData), H' pT = some (.lst us) ∧ SpL K H' us es ∧ es.length ≤ 20001 ∧ (∀ d ∈ es, d ∈ ks) ∧ ks.length ≤ 1900 ∧ σ' = [some (.ref sc), some (.ref aD), some (.str l), some (.int n), some (.int (m : Int)), some (.ref pp), some (.ref aB), some (.ref aY), some (.ref aF), some (.int (0 + (t : Int))), some (.ref aW), some (.ref pO), some (.ref pT), o13, o14, o15, o16]), ?_, ?_⟩
      · have small : ∀ {H' : Hp}, Same H12 H' → Same H12 H' ∧ (∃ (pT : Addr) (p13 p14 p15 p16 : Option V) (us : List V) (es ks : List PyData), H' pT = some (.lst us) ∧ SpL K H' us es ∧ es.length ≤ 20001 ∧ (∀ d ∈ es, d ∈ ks) ∧ ks.length ≤ 1900 ∧ [some (.ref sc), some (.ref aD), some (.str l), some (.int n), some (.int (m : Int)), some (.ref pp), some (.ref aB), some (.ref aY), some (.ref aF), some (.int (0 + (t : Int))), some (.ref aW), some (.ref pO), some (.ref pS), o13, o14, o15, o16] = [some (.ref sc), some (.ref aD), some (.str l), some (.int n), some (.int (m : Int)), some (.ref pp), some (.ref aB), some (.ref aY), some (.ref aF), some (.int (0 + (t : Int))), some (.ref aW), some (.ref pO), some (.ref pT), p13, p14, p15, p16]) := fun s => ⟨s, pS, _, _, _, _, vs, ds, ds, s _ _ hvs, spl_mono s gvs, by omega, fun d m => m, by omega, rfl⟩
        refine ⟨_, rfl, rfl, _, rfl, ite2 (fun _ => ?_) (fun _ => iteF (small (Same.refl _)))⟩
        refine ⟨_, rfl, aD, _, _, _, rfl, rfl, SqL.of (s812 _ _ hh8), rowAt (j := 4) ed4, rfl, _, rfl, ite2 (fun _ => ?_) (fun _ => small (Same.refl _))⟩
        refine ⟨(by show 8 ≤ sizeLine; decide), fun tF nF => ?_⟩
        refine ⟨(by show 1 ≤ sizeLine; decide), fun qF nqF => ?_⟩
        have sF1 := (same_new (o := HO.tup [V.int 0, V.str "<", V.str "", V.int 0, V.int 0, V.str "keep", V.str "", V.str ""]) nF).trans (same_new (o := HO.lst [V.ref tF]) nqF)
        refine ⟨_, rfl, aD, _, _, _, rfl, rfl, SqL.of (sF1 _ _ (s812 _ _ hh8)), rowAt (j := 5) ed5, _, _, rfl, rfl, _, rfl, _, _, rfl, rfl, qF, _, [.ref tF], rfl, rfl, upd_same, by omega, by omega, ?_, fun pF npF => ?_⟩
        · exact Nat.le_trans (show _ ≤ 100000 by show 1 * (20000 + (d5 : Int) - (m : Int)).toNat ≤ 100000; omega) (by decide)
        rw [flat_rep]
        obtain ⟨kk, ek⟩ : ∃ kk : Nat, (20000 + (d5 : Int) - (m : Int)).toNat = kk := ⟨_, rfl⟩
        have lk : kk + m ≤ 20001 := by omega
        rw [ek]
        have sF2 := sF1.trans (same_new (o := HO.lst (List.replicate kk (V.ref tF))) npF)
        have hT : (upd (upd (upd H12 tF (.tup [V.int 0, V.str "<", V.str "", V.int 0, V.int 0, V.str "keep", V.str "", V.str ""])) qF (.lst [V.ref tF])) pF (.lst (List.replicate kk (V.ref tF)))) tF = some (.tup [V.int 0, V.str "<", V.str "", V.int 0, V.int 0, V.str "keep", V.str "", V.str ""]) := same_new npF _ _ (same_new nqF _ _ upd_same)
        have gF : SpI K (upd (upd (upd H12 tF (.tup [V.int 0, V.str "<", V.str "", V.int 0, V.int 0, V.str "keep", V.str "", V.str ""])) qF (.lst [V.ref tF])) pF (.lst (List.replicate kk (V.ref tF)))) (.ref tF) (PyData.tuple [.int 0, .str "<", .str "", .int 0, .int 0, .str "keep", .str "", .str ""]) := spi_tup hT (.cons (.int _) (.cons (.str _) (.cons (.str _) (.cons (.int _) (.cons (.int _) (.cons (.str _) (.cons (.str _) (.cons (.str _) .nil))))))))
          (fall_cons fine_int (fall_cons (fine_lit (by decide +kernel)) (fall_cons (fine_lit (by decide +kernel)) (fall_cons fine_int (fall_cons fine_int (fall_cons (fine_lit (by decide +kernel)) (fall_cons (fine_lit (by decide +kernel)) (fall_cons (fine_lit (by decide +kernel)) fall_nil))))))))
        have hpF : (upd (upd (upd H12 tF (.tup [V.int 0, V.str "<", V.str "", V.int 0, V.int 0, V.str "keep", V.str "", V.str ""])) qF (.lst [V.ref tF])) pF (.lst (List.replicate kk (V.ref tF)))) pF = some (.lst (List.replicate kk (V.ref tF))) := upd_same
        have hpS := sF2 _ _ hvs
        have gS := spl_mono sF2 gvs
        have gR := spl_rep gF kk
        have lrep : (List.replicate kk (V.ref tF)).length = kk := List.length_replicate ..
        have lrepD : (List.replicate kk (PyData.tuple [.int 0, .str "<", .str "", .int 0, .int 0, .str "keep", .str "", .str ""])).length = kk := List.length_replicate ..
        dsimp only [gName]
        generalize (upd (upd (upd H12 tF (.tup [V.int 0, V.str "<", V.str "", V.int 0, V.int 0, V.str "keep", V.str "", V.str ""])) qF (.lst [V.ref tF])) pF (.lst (List.replicate kk (V.ref tF)))) = H13 at sF2 hpF hpS gS gR hT ⊢
        refine ⟨_, rfl, aD, _, _, _, rfl, rfl, SqL.of (sF2 _ _ (s812 _ _ hh8)), rowAt (j := 6) ed6, rfl, _, rfl, ite2 (fun _ => ?_) (fun _ => ?_)⟩
        · refine ⟨_, rfl, _, rfl, pF, pS, _, _, rfl, rfl, hpF, hpS, by rw [lrep]; exact Nat.le_of_lt (few10 (by omega)), fun r nr => ?_⟩
          have sR := same_new (o := HO.lst (List.replicate kk (V.ref tF) ++ vs)) nr
          refine ⟨sF2.trans sR, r, _, _, _, _, _, _, (PyData.tuple [.int 0, .str "<", .str "", .int 0, .int 0, .str "keep", .str "", .str ""]) :: ds, upd_same, spl_mono sR (spl_append gR gS), by rw [List.length_append, lrepD]; omega, fun d md => ?_, by rw [List.length_cons]; omega, rfl⟩
          rcases List.mem_append.mp md with md | md
          · rw [(List.mem_replicate.mp md).2]; exact List.mem_cons_self
          · exact List.mem_cons_of_mem _ md
        · refine ⟨_, rfl, _, rfl, pS, pF, _, _, rfl, rfl, hpS, hpF, by rw [lrep]; exact Nat.le_of_lt (few10 (by omega)), fun r nr => ?_⟩
          have sR := same_new (o := HO.lst (vs ++ List.replicate kk (V.ref tF))) nr
          refine ⟨sF2.trans sR, r, _, _, _, _, _, _, (PyData.tuple [.int 0, .str "<", .str "", .int 0, .int 0, .str "keep", .str "", .str ""]) :: ds, upd_same, spl_mono sR (spl_append gS gR), by rw [List.length_append, lrepD]; omega, fun d md => ?_, by rw [List.length_cons]; omega, rfl⟩
          rcases List.mem_append.mp md with md | md
          · exact List.mem_cons_of_mem _ md
          · rw [(List.mem_replicate.mp md).2]; exact List.mem_cons_self
      rintro σ' H13 ⟨s13, pT, o13, o14, o15, o16, us, es, ks, hT, gT, lT, mT, lK, rfl⟩
      have s1113 := s12.trans s13
      have s813 := s11.trans s1113
      obtain ⟨v1, v2, qY, dd1, dd2, yus, yes, z1, z2, z3, z4, z5, z6, z7, z8, z9⟩ := (OA.mono s1113).ex
      refine ⟨_, rfl, pO, _, _, _, rfl, rfl, SqL.of z1, (atI_nat (j := 0) rfl : atI [v1, v2, V.ref qY] ((0 : Nat) : Int) = _), _, rfl, pO, _, _, _, rfl, rfl, SqL.of z1, (atI_nat (j := 1) rfl : atI [v1, v2, V.ref qY] ((1 : Nat) : Int) = _), _, rfl, _, rfl, pO, _, _, _, rfl, rfl, SqL.of z1, (atI_nat (j := 2) rfl : atI [v1, v2, V.ref qY] ((2 : Nat) : Int) = _), _, rfl,
        v1, v2, dd1, dd2, pT, qY, aF, us, yus, es, yes, ks, fs, rfl, dp_mono hide_le _ _ z2, z3, dp_mono hide_le _ _ z4, SqL.of hT, gT, lT, mT, lK, SqL.of (hide_le _ _ z5), dpa_mono hide_le _ _ z6, z7, z9, SqL.of (s813 _ _ hF), lF, fun H14 s14 => ⟨_, rfl, ?_⟩⟩
      exact iteF ⟨s813.trans s14, _, _, _, _, _, _, _, _, rfl⟩
    · rintro σ H9 ⟨s9, o9, o10, o11, o12, o13, o14, o15, o16, rfl⟩
      exact k _
end
end Mk

set_option Elab.async false
set_option maxRecDepth 100000
set_option maxHeartbeats 8000000
namespace Mk
open PySem L2 Pk
theorem kit_no {K : PySem.W.Frag} {C x : Addr} {r : List Value} (c : PySem.W.subIn K (.ref C) (.ref C) = some true) (i : PySem.W.isClsIn K x = true) (t : PySem.W.typeIn K (.ref x) = some (.type "type")) (s : PySem.W.subIn K (.ref C) (.ref x) = some false)
    (h : PySem.W.kitAny K (.ref C) r = some false) : PySem.W.kitAny K (.ref C) (.ref x :: r) = some false := by
  have n : (Value.ref C == Value.ref x) = false := Bool.eq_false_iff.mpr fun q => by
    have e : C = x := Value.ref.inj (beq_iff_eq.mp q)
    rw [← e, c] at s
    cases s
  have two : ((PySem.W.clsIn K x).isSome && PySem.W.typeIn K (.ref x) == some (.type "type")) = true := by
    have i' : (PySem.W.clsIn K x).isSome = true := i
    rw [i', t]
    rfl
  have one : PySem.W.kitOne K (.ref C) (.ref x) = some false := by
    unfold PySem.W.kitOne PySem.W.kitCls
    rw [n, if_neg Bool.false_ne_true]
    show (if ((PySem.W.clsIn K x).isSome && PySem.W.typeIn K (.ref x) == some (.type "type")) = true then PySem.W.subIn K (.ref C) (.ref x) else none) = some false
    rw [if_pos two, s]
  unfold PySem.W.kitAny
  rw [one]
  exact h
theorem kit_self {K : PySem.W.Frag} {C : Addr} : PySem.W.kitOne K (.ref C) (.ref C) = some true := by
  have n : (Value.ref C == Value.ref C) = true := beq_iff_eq.mpr rfl
  unfold PySem.W.kitOne
  rw [if_pos n]
theorem kit_VE {K : PySem.W.Frag} {C : Addr} (s : PySem.W.subIn K (.ref C) (.type "ValueError") = some true) : PySem.W.kitOne K (.ref C) (.type "ValueError") = some true := by
  have n : (Value.ref C == Value.type "ValueError") = false := rfl
  unfold PySem.W.kitOne PySem.W.kitCls
  rw [n, if_neg Bool.false_ne_true]
  have k : PySem.W.kitMeta "ValueError" = true := by decide +kernel
  show (if PySem.W.kitMeta "ValueError" = true then PySem.W.subIn K (.ref C) (.type "ValueError") else none) = some true
  rw [if_pos k, s]
theorem exm_yes {K : PySem.W.Frag} {C R : Addr} (b : PySem.W.subIn K (.ref R) (.type "BaseException") = some true) (i : PySem.W.isClsIn K R = true) (t : PySem.W.typeIn K (.ref R) = some (.type "type")) (s : PySem.W.subIn K (.ref C) (.ref R) = some true) :
    PySem.W.exmOne K (.ref C) (.ref R) = some true := by
  have two : ((PySem.W.clsIn K R).isSome && PySem.W.typeIn K (.ref R) == some (.type "type")) = true := by
    have i' : (PySem.W.clsIn K R).isSome = true := i
    rw [i', t]
    rfl
  have e1 : (PySem.W.subIn K (.ref R) (.type "BaseException") == some true) = true := by
    rw [b]
    rfl
  unfold PySem.W.exmOne PySem.W.kitCls
  rw [if_pos e1]
  show (if ((PySem.W.clsIn K R).isSome && PySem.W.typeIn K (.ref R) == some (.type "type")) = true then PySem.W.subIn K (.ref C) (.ref R) else none) = some true
  rw [if_pos two, s]
theorem kit_yes {K : PySem.W.Frag} {C R : Addr} (i : PySem.W.isClsIn K R = true) (t : PySem.W.typeIn K (.ref R) = some (.type "type")) (s : PySem.W.subIn K (.ref C) (.ref R) = some true) : PySem.W.kitOne K (.ref C) (.ref R) = some true := by
  have two : ((PySem.W.clsIn K R).isSome && PySem.W.typeIn K (.ref R) == some (.type "type")) = true := by
    have i' : (PySem.W.clsIn K R).isSome = true := i
    rw [i', t]
    rfl
  unfold PySem.W.kitOne PySem.W.kitCls
  split
  · rfl
  · show (if ((PySem.W.clsIn K R).isSome && PySem.W.typeIn K (.ref R) == some (.type "type")) = true then PySem.W.subIn K (.ref C) (.ref R) else none) = some true
    rw [if_pos two, s]
end Mk

set_option Elab.async false
set_option maxRecDepth 100000
set_option maxHeartbeats 8000000
namespace Mk
open PySem L2 Pk
theorem all_mk {l : PySem.W.OpenLaw} {w : World} {K : PySem.W.Frag} {h : Heap} {mg : Str → Option Value} {fa : Addr} (X : K.In h) (G : h.Ns mainGlobals mg) (hfa : mg "law" = some (.ref fa))
    {f1 : Addr} {fd1 : FuncData}
    {f2 : Addr} {fd2 : FuncData}
    {f3 : Addr} {fd3 : FuncData}
    {f4 : Addr} {fd4 : FuncData}
    {f5 : Addr} {fd5 : FuncData}
    {f6 : Addr} {fd6 : FuncData}
    {f7 : Addr} {fd7 : FuncData}
    {f8 : Addr} {fd8 : FuncData}
    {f9 : Addr} {fd9 : FuncData}
    {f10 : Addr} {fd10 : FuncData}
    {f11 : Addr} {fd11 : FuncData}
    {f12 : Addr} {fd12 : FuncData}
    {f13 : Addr} {fd13 : FuncData}
    {f14 : Addr} {fd14 : FuncData}
    {f15 : Addr} {fd15 : FuncData}
    {f16 : Addr} {fd16 : FuncData}
    {f17 : Addr} {fd17 : FuncData}
    {f18 : Addr} {fd18 : FuncData}
    {f19 : Addr} {fd19 : FuncData}
    {f20 : Addr} {fd20 : FuncData}
    {f21 : Addr} {fd21 : FuncData}
    {f22 : Addr} {fd22 : FuncData}
    {f23 : Addr} {fd23 : FuncData}
    {f24 : Addr} {fd24 : FuncData}
    {f25 : Addr} {fd25 : FuncData}
    {f26 : Addr} {fd26 : FuncData}
    {f27 : Addr} {fd27 : FuncData}
    {f28 : Addr} {fd28 : FuncData}
    {f29 : Addr} {fd29 : FuncData}
    {f30 : Addr} {fd30 : FuncData}
    {f31 : Addr} {fd31 : FuncData}
    {f32 : Addr} {fd32 : FuncData}
    {f33 : Addr} {fd33 : FuncData}
    {f34 : Addr} {fd34 : FuncData}
    {f35 : Addr} {fd35 : FuncData}
    {f36 : Addr} {fd36 : FuncData}
    {f37 : Addr} {fd37 : FuncData}
    {f38 : Addr} {fd38 : FuncData}
    {f39 : Addr} {fd39 : FuncData}
    {f40 : Addr} {fd40 : FuncData}
    {f41 : Addr} {fd41 : FuncData}
    {f42 : Addr} {fd42 : FuncData}
    {f43 : Addr} {fd43 : FuncData}
    {fL : Addr} {fdL : FuncData}
    {C fI e0 aDD : Addr} {fdI : FuncData}
    {B fB R a1 a2 a3 a4 a5 a6 a7 a8 a9 w1 w2 w3 w4 w5 w6 w7 w8 w9 : Addr}
    {fdfB : FuncData}
    (na1 : PySem.W.nsIn K mainGlobals "is_integer" = some (some (.ref f1)))
    (F1 : Fun K "is_integer" "is_integer" sInteger f1 fd1)
    (na2 : PySem.W.nsIn K mainGlobals "is_between" = some (some (.ref f2)))
    (F2 : Fun K "is_between" "is_between" sBetween f2 fd2)
    (na3 : PySem.W.nsIn K mainGlobals "is_sequence" = some (some (.ref f3)))
    (F3 : Fun K "is_sequence" "is_sequence" sSequence f3 fd3)
    (na4 : PySem.W.nsIn K mainGlobals "is_row" = some (some (.ref f4)))
    (F4 : Fun K "is_row" "is_row" sRow f4 fd4)
    (na5 : PySem.W.nsIn K mainGlobals "are_letters" = some (some (.ref f5)))
    (F5 : Fun K "are_letters" "are_letters" sLetters f5 fd5)
    (na6 : PySem.W.nsIn K mainGlobals "is_alphabet" = some (some (.ref f6)))
    (F6 : Fun K "is_alphabet" "is_alphabet" sAlphabet f6 fd6)
    (na7 : PySem.W.nsIn K mainGlobals "is_symbol_mark" = some (some (.ref f7)))
    (F7 : Fun K "is_symbol_mark" "is_symbol_mark" sMark f7 fd7)
    (na8 : PySem.W.nsIn K mainGlobals "is_symbol" = some (some (.ref f8)))
    (F8 : Fun K "is_symbol" "is_symbol" sSymbol f8 fd8)
    (na9 : PySem.W.nsIn K mainGlobals "is_sign" = some (some (.ref f9)))
    (F9 : Fun K "is_sign" "is_sign" sSign f9 fd9)
    (na10 : PySem.W.nsIn K mainGlobals "is_top" = some (some (.ref f10)))
    (F10 : Fun K "is_top" "is_top" sTop f10 fd10)
    (na11 : PySem.W.nsIn K mainGlobals "is_move" = some (some (.ref f11)))
    (F11 : Fun K "is_move" "is_move" sMove f11 fd11)
    (na12 : PySem.W.nsIn K mainGlobals "is_deed" = some (some (.ref f12)))
    (F12 : Fun K "is_deed" "is_deed" sDeed f12 fd12)
    (na13 : PySem.W.nsIn K mainGlobals "is_state" = some (some (.ref f13)))
    (F13 : Fun K "is_state" "is_state" sState f13 fd13)
    (na14 : PySem.W.nsIn K mainGlobals "is_rule" = some (some (.ref f14)))
    (F14 : Fun K "is_rule" "is_rule" sRule f14 fd14)
    (na15 : PySem.W.nsIn K mainGlobals "check_arguments" = some (some (.ref f15)))
    (F15 : Fun K "check_arguments" "check_arguments" sCheck f15 fd15)
    (na16 : PySem.W.nsIn K mainGlobals "symbols_of" = some (some (.ref f16)))
    (F16 : Fun K "symbols_of" "symbols_of" sSymbols f16 fd16)
    (na17 : PySem.W.nsIn K mainGlobals "acts_by_key" = some (some (.ref f17)))
    (F17 : Fun K "acts_by_key" "acts_by_key" sActs f17 fd17)
    (na18 : PySem.W.nsIn K mainGlobals "first_guess" = some (some (.ref f18)))
    (F18 : Fun K "first_guess" "first_guess" sGuess f18 fd18)
    (na19 : PySem.W.nsIn K mainGlobals "_law_whole" = some (some (.ref f19)))
    (F19 : Fun K "_law_whole" "_law_whole" sWhole f19 fd19)
    (na20 : PySem.W.nsIn K mainGlobals "_law_same" = some (some (.ref f20)))
    (F20 : Fun K "_law_same" "_law_same" sSame f20 fd20)
    (na21 : PySem.W.nsIn K mainGlobals "_law_cell" = some (some (.ref f21)))
    (F21 : Fun K "_law_cell" "_law_cell" sCell f21 fd21)
    (na22 : PySem.W.nsIn K mainGlobals "_law_digits" = some (some (.ref f22)))
    (F22 : Fun K "_law_digits" "_law_digits" sDigits f22 fd22)
    (na23 : PySem.W.nsIn K mainGlobals "_law_any_letters" = some (some (.ref f23)))
    (F23 : Fun K "_law_any_letters" "_law_any_letters" sAny f23 fd23)
    (na24 : PySem.W.nsIn K mainGlobals "_law_symbol" = some (some (.ref f24)))
    (F24 : Fun K "_law_symbol" "_law_symbol" sSym f24 fd24)
    (na25 : PySem.W.nsIn K mainGlobals "_law_pool" = some (some (.ref f25)))
    (F25 : Fun K "_law_pool" "_law_pool" sPool f25 fd25)
    (na26 : PySem.W.nsIn K mainGlobals "_law_rule" = some (some (.ref f26)))
    (F26 : Fun K "_law_rule" "_law_rule" sLRule f26 fd26)
    (na27 : PySem.W.nsIn K mainGlobals "_law_rules" = some (some (.ref f27)))
    (F27 : Fun K "_law_rules" "_law_rules" sLRules f27 fd27)
    (na28 : PySem.W.nsIn K mainGlobals "_law_yes" = some (some (.ref f28)))
    (F28 : Fun K "_law_yes" "_law_yes" sYes f28 fd28)
    (na29 : PySem.W.nsIn K mainGlobals "_law_each_once" = some (some (.ref f29)))
    (F29 : Fun K "_law_each_once" "_law_each_once" sOnce f29 fd29)
    (na30 : PySem.W.nsIn K mainGlobals "_law_due" = some (some (.ref f30)))
    (F30 : Fun K "_law_due" "_law_due" sDue f30 fd30)
    (na31 : PySem.W.nsIn K mainGlobals "_law_fields" = some (some (.ref f31)))
    (F31 : Fun K "_law_fields" "_law_fields" sFields f31 fd31)
    (na32 : PySem.W.nsIn K mainGlobals "_law_symbol_right" = some (some (.ref f32)))
    (F32 : Fun K "_law_symbol_right" "_law_symbol_right" sSymR f32 fd32)
    (na33 : PySem.W.nsIn K mainGlobals "_law_state_right" = some (some (.ref f33)))
    (F33 : Fun K "_law_state_right" "_law_state_right" sStR f33 fd33)
    (na34 : PySem.W.nsIn K mainGlobals "_law_letters_right" = some (some (.ref f34)))
    (F34 : Fun K "_law_letters_right" "_law_letters_right" sLetR f34 fd34)
    (na35 : PySem.W.nsIn K mainGlobals "_law_rule_right" = some (some (.ref f35)))
    (F35 : Fun K "_law_rule_right" "_law_rule_right" sRuleR f35 fd35)
    (na36 : PySem.W.nsIn K mainGlobals "_law_where" = some (some (.ref f36)))
    (F36 : Fun K "_law_where" "_law_where" sWhere f36 fd36)
    (na37 : PySem.W.nsIn K mainGlobals "_law_odd_part" = some (some (.ref f37)))
    (F37 : Fun K "_law_odd_part" "_law_odd_part" sOdd f37 fd37)
    (na38 : PySem.W.nsIn K mainGlobals "_law_strange" = some (some (.ref f38)))
    (F38 : Fun K "_law_strange" "_law_strange" sStrange f38 fd38)
    (na39 : PySem.W.nsIn K mainGlobals "_law_spoilt" = some (some (.ref f39)))
    (F39 : Fun K "_law_spoilt" "_law_spoilt" sSpoilt f39 fd39)
    (na40 : PySem.W.nsIn K mainGlobals "_law_some_form" = some (some (.ref f40)))
    (F40 : Fun K "_law_some_form" "_law_some_form" sForm f40 fd40)
    (na41 : PySem.W.nsIn K mainGlobals "_law_made" = some (some (.ref f41)))
    (F41 : Fun K "_law_made" "_law_made" sMade f41 fd41)
    (na42 : PySem.W.nsIn K mainGlobals "_law_made_right" = some (some (.ref f42)))
    (F42 : Fun K "_law_made_right" "_law_made_right" sMR f42 fd42)
    (na43 : PySem.W.nsIn K mainGlobals "_law_odd_arguments" = some (some (.ref f43)))
    (F43 : Fun K "_law_odd_arguments" "_law_odd_arguments" sArgs f43 fd43)
    (naL : PySem.W.nsIn K mainGlobals "law" = some (some (.ref fL)))
    (FL : Fun K "law" "law" sLaw fL fdL)
    (nC : PySem.W.nsIn K mainGlobals "Machine" = some (some (.ref C)))
    (c1 : PySem.W.plainGet K C Str.empty = true)
    (c2 : PySem.W.hasDictIn K C = true)
    (c3 : PySem.W.plainOver K C = true)
    (c4 : PySem.W.findIn K (.ref C) "__setattr__" = some (some (.builtin "object.__setattr__")))
    (no0 : PySem.W.findIn K (.ref C) "letters" = some none)
    (no1 : PySem.W.findIn K (.ref C) "states" = some none)
    (no2 : PySem.W.findIn K (.ref C) "rules" = some none)
    (no3 : PySem.W.findIn K (.ref C) "yes" = some none)
    (no4 : PySem.W.findIn K (.ref C) "symbols" = some none)
    (no5 : PySem.W.findIn K (.ref C) "_acts" = some none)
    (no6 : PySem.W.findIn K (.ref C) "guess" = some none)
    (mk1 : PySem.W.makesIn K C = true)
    (mk2 : PySem.W.findIn K (.ref C) "__init__" = some (some (.ref fI)))
    (mk3 : PySem.W.isFn K (.ref fI) = true)
    (mk4 : PySem.W.keepIn K (.ref C) = true)
    (FI : FunD K "__init__" "Machine.__init__" (defArgs sInit) (defBody sInit) (defScope sInit) [.ref e0] [] fI fdI)
    (sE : ∀ H : Hp, SqT K H e0 [])
    (nDD : PySem.W.nsIn K mainGlobals "DEEDS" = some (some (.ref aDD)))
    (sD : ∀ H : Hp, SqT K H aDD [.str "keep", .str "pop", .str "push", .str "swap"])
    (mS : ∃ t, mg "MOST_STATES" = some (.int 2000 t))
    (mR : ∃ t, mg "MOST_RULES" = some (.int 20000 t))
    (z_isinstance : PySem.W.nsIn K mainGlobals "isinstance" = some none)
    (z_int : PySem.W.nsIn K mainGlobals "int" = some none)
    (z_bool : PySem.W.nsIn K mainGlobals "bool" = some none)
    (z_str : PySem.W.nsIn K mainGlobals "str" = some none)
    (z_tuple : PySem.W.nsIn K mainGlobals "tuple" = some none)
    (z_list : PySem.W.nsIn K mainGlobals "list" = some none)
    (z_len : PySem.W.nsIn K mainGlobals "len" = some none)
    (z_range : PySem.W.nsIn K mainGlobals "range" = some none)
    (z_all : PySem.W.nsIn K mainGlobals "all" = some none)
    (z_sorted : PySem.W.nsIn K mainGlobals "sorted" = some none)
    (z_set : PySem.W.nsIn K mainGlobals "set" = some none)
    (z_abs : PySem.W.nsIn K mainGlobals "abs" = some none)
    (z_ValueError : PySem.W.nsIn K mainGlobals "ValueError" = some none)
    (nB : PySem.W.nsIn K mainGlobals "BadMachine" = some (some (.ref B)))
    (nR : PySem.W.nsIn K mainGlobals "RecallError" = some (some (.ref R)))
    (ga1 : PySem.W.nsIn K mainGlobals "BadLine" = some (some (.ref a1)))
    (ga2 : PySem.W.nsIn K mainGlobals "BadText" = some (some (.ref a2)))
    (ga3 : PySem.W.nsIn K mainGlobals "Guesses" = some (some (.ref a3)))
    (ga4 : PySem.W.nsIn K mainGlobals "BadStanding" = some (some (.ref a4)))
    (ga5 : PySem.W.nsIn K mainGlobals "BadSurface" = some (some (.ref a5)))
    (ga6 : PySem.W.nsIn K mainGlobals "TooLong" = some (some (.ref a6)))
    (ga7 : PySem.W.nsIn K mainGlobals "BadSplice" = some (some (.ref a7)))
    (ga8 : PySem.W.nsIn K mainGlobals "NothingToUndo" = some (some (.ref a8)))
    (ga9 : PySem.W.nsIn K mainGlobals "BadDeed" = some (some (.ref a9)))
    (gw1 : PySem.W.nsIn K mainGlobals "BadTree" = some (some (.ref w1)))
    (gw2 : PySem.W.nsIn K mainGlobals "DoubleName" = some (some (.ref w2)))
    (gw3 : PySem.W.nsIn K mainGlobals "NoSuchProcedure" = some (some (.ref w3)))
    (gw4 : PySem.W.nsIn K mainGlobals "BadToken" = some (some (.ref w4)))
    (gw5 : PySem.W.nsIn K mainGlobals "UnlikeLetters" = some (some (.ref w5)))
    (gw6 : PySem.W.nsIn K mainGlobals "BadCode" = some (some (.ref w6)))
    (gw7 : PySem.W.nsIn K mainGlobals "BadPaper" = some (some (.ref w7)))
    (gw8 : PySem.W.nsIn K mainGlobals "BadGrammar" = some (some (.ref w8)))
    (gw9 : PySem.W.nsIn K mainGlobals "NoSuchProgram" = some (some (.ref w9)))
    (FB : Fun K "__init__" "BadMachine.__init__" sBadInit fB fdfB)
    (sB : PySem.W.findIn K (.ref B) "__setattr__" = some (some (.builtin "object.__setattr__")))
    (eB : PySem.W.subIn K (.ref B) (.type "BaseException") = some true)
    (tB : PySem.W.typeIn K (.ref B) = some (.type "type"))
    (kB : PySem.W.keepIn K (.ref B) = true)
    (iB : PySem.W.findIn K (.ref B) "__init__" = some (some (.ref fB)))
    (tfB : PySem.W.typeIn K (.ref fB) = some (.type "function"))
    (noB : PySem.W.findIn K (.ref B) "where" = some none)
    (yc : PySem.W.isClsIn K B = true)
    (yg : PySem.W.findIn K (.ref B) "__getattribute__" = some (some (.builtin "BaseException.__getattribute__")))
    (yh : PySem.W.findIn K (.ref B) "__getattr__" = some none)
    (yd : PySem.W.hasDictIn K B = true)
    (ya : PySem.W.findIn K (.ref B) "__class__" = some (some (.builtin "object.__class__")))
    (yn : PySem.W.specialIn K (.builtin "object.__class__") "__get__" = some (some (.builtin "getset_descriptor.__get__")))
    (yt : PySem.W.takesIn K (.builtin "object.__class__") = some true)
    (ym : PySem.W.mroIn K B (.type "object") = some true)
    (ic_a1 : PySem.W.isClsIn K a1 = true)
    (ty_a1 : PySem.W.typeIn K (.ref a1) = some (.type "type"))
    (sb_a1 : PySem.W.subIn K (.ref B) (.ref a1) = some false)
    (ic_a2 : PySem.W.isClsIn K a2 = true)
    (ty_a2 : PySem.W.typeIn K (.ref a2) = some (.type "type"))
    (sb_a2 : PySem.W.subIn K (.ref B) (.ref a2) = some false)
    (ic_a3 : PySem.W.isClsIn K a3 = true)
    (ty_a3 : PySem.W.typeIn K (.ref a3) = some (.type "type"))
    (sb_a3 : PySem.W.subIn K (.ref B) (.ref a3) = some false)
    (ic_a4 : PySem.W.isClsIn K a4 = true)
    (ty_a4 : PySem.W.typeIn K (.ref a4) = some (.type "type"))
    (sb_a4 : PySem.W.subIn K (.ref B) (.ref a4) = some false)
    (ic_a5 : PySem.W.isClsIn K a5 = true)
    (ty_a5 : PySem.W.typeIn K (.ref a5) = some (.type "type"))
    (sb_a5 : PySem.W.subIn K (.ref B) (.ref a5) = some false)
    (ic_a6 : PySem.W.isClsIn K a6 = true)
    (ty_a6 : PySem.W.typeIn K (.ref a6) = some (.type "type"))
    (sb_a6 : PySem.W.subIn K (.ref B) (.ref a6) = some false)
    (ic_a7 : PySem.W.isClsIn K a7 = true)
    (ty_a7 : PySem.W.typeIn K (.ref a7) = some (.type "type"))
    (sb_a7 : PySem.W.subIn K (.ref B) (.ref a7) = some false)
    (ic_a8 : PySem.W.isClsIn K a8 = true)
    (ty_a8 : PySem.W.typeIn K (.ref a8) = some (.type "type"))
    (sb_a8 : PySem.W.subIn K (.ref B) (.ref a8) = some false)
    (ic_a9 : PySem.W.isClsIn K a9 = true)
    (ty_a9 : PySem.W.typeIn K (.ref a9) = some (.type "type"))
    (sb_a9 : PySem.W.subIn K (.ref B) (.ref a9) = some false)
    (ic_w1 : PySem.W.isClsIn K w1 = true)
    (ty_w1 : PySem.W.typeIn K (.ref w1) = some (.type "type"))
    (sb_w1 : PySem.W.subIn K (.ref B) (.ref w1) = some false)
    (ic_w2 : PySem.W.isClsIn K w2 = true)
    (ty_w2 : PySem.W.typeIn K (.ref w2) = some (.type "type"))
    (sb_w2 : PySem.W.subIn K (.ref B) (.ref w2) = some false)
    (ic_w3 : PySem.W.isClsIn K w3 = true)
    (ty_w3 : PySem.W.typeIn K (.ref w3) = some (.type "type"))
    (sb_w3 : PySem.W.subIn K (.ref B) (.ref w3) = some false)
    (ic_w4 : PySem.W.isClsIn K w4 = true)
    (ty_w4 : PySem.W.typeIn K (.ref w4) = some (.type "type"))
    (sb_w4 : PySem.W.subIn K (.ref B) (.ref w4) = some false)
    (ic_w5 : PySem.W.isClsIn K w5 = true)
    (ty_w5 : PySem.W.typeIn K (.ref w5) = some (.type "type"))
    (sb_w5 : PySem.W.subIn K (.ref B) (.ref w5) = some false)
    (ic_w6 : PySem.W.isClsIn K w6 = true)
    (ty_w6 : PySem.W.typeIn K (.ref w6) = some (.type "type"))
    (sb_w6 : PySem.W.subIn K (.ref B) (.ref w6) = some false)
    (ic_w7 : PySem.W.isClsIn K w7 = true)
    (ty_w7 : PySem.W.typeIn K (.ref w7) = some (.type "type"))
    (sb_w7 : PySem.W.subIn K (.ref B) (.ref w7) = some false)
    (ic_w8 : PySem.W.isClsIn K w8 = true)
    (ty_w8 : PySem.W.typeIn K (.ref w8) = some (.type "type"))
    (sb_w8 : PySem.W.subIn K (.ref B) (.ref w8) = some false)
    (ic_w9 : PySem.W.isClsIn K w9 = true)
    (ty_w9 : PySem.W.typeIn K (.ref w9) = some (.type "type"))
    (sb_w9 : PySem.W.subIn K (.ref B) (.ref w9) = some false)
    (sBB : PySem.W.subIn K (.ref B) (.ref B) = some true)
    (sBV : PySem.W.subIn K (.ref B) (.type "ValueError") = some true)
    (iR : PySem.W.isClsIn K R = true)
    (tR : PySem.W.typeIn K (.ref R) = some (.type "type"))
    (sBR : PySem.W.subIn K (.ref B) (.ref R) = some true)
    (xB : ∃ nm q N bs bm sn sub ab col dd k0 k1 k2 k3 k5, K.lookup B = some (excClassObj nm q B N bs bm true sn sub ab col dd k0 k1 k2 k3 k5 "ValueError.__new__") ∧ PySem.HandSPX.refsVE bm = true) :
    ∃ fd : FuncData, (∀ (s : Shared) (v : Value), BindsTo s fd ⟨[v], []⟩ [("script", v)]) ∧ ∀ base : Heap, K.In base → base.Ns mainGlobals mg → FnOk l.prog w K mg base CX0 10 fa fd ["script"] (spLaw K) := by
  have e := hfa.symm.trans (PySem.W.mg_of X G naL)
  cases e
  have T : TM mg := ⟨PySem.W.mg_none_of X G z_isinstance, PySem.W.mg_none_of X G z_int, PySem.W.mg_none_of X G z_bool, PySem.W.mg_none_of X G z_str, PySem.W.mg_none_of X G z_tuple, PySem.W.mg_none_of X G z_list, PySem.W.mg_none_of X G z_len, PySem.W.mg_none_of X G z_range, PySem.W.mg_none_of X G z_all, PySem.W.mg_none_of X G z_sorted, PySem.W.mg_none_of X G z_set, PySem.W.mg_none_of X G z_abs⟩
  have m : ∀ {x : Str} {v : Value}, PySem.W.nsIn K mainGlobals x = some (some v) → mg x = some v := fun q => PySem.W.mg_of X G q
  have D : Deeds K mg := ⟨aDD, m nDD, sD⟩
  have MC : MCls K C := ⟨⟨c1, c2, c3, c4⟩, no0, no1, no2, no3, no4, no5, no6⟩
  have MM : L2.Mk K C fI := ⟨mk1, mk2, mk3, mk4⟩
  obtain ⟨ds4, v4, b4⟩ := FI.binds1 (ps := ["self", "letters", "states", "rules", "yes"]) 5 1 (List.cons_ne_nil _ _) rfl fun T kV doc pm an cdv ct us its h1 h2 => match us, its, h1, h2 with | [_, _, _, _, _], [_], _, _ => ⟨_, rfl, rfl⟩
  have e4 : ds4 = [] := by cases v4; rfl
  subst e4
  obtain ⟨ds3, v3, b3⟩ := FI.binds1 (ps := ["self", "letters", "states", "rules", "yes"]) 4 0 (List.cons_ne_nil _ _) rfl fun T kV doc pm an cdv ct us its h1 h2 => match us, its, h1, h2 with | [_, _, _, _], [_], _, _ => ⟨_, rfl, rfl⟩
  obtain ⟨its, kb⟩ := FI.kbindsD (ps := ["self", "letters", "states", "rules", "yes"]) 4 ["yes"] (fun vs _ zs => vs ++ zs) (List.cons_ne_nil _ _) (fun a _ c => a.append c) fun T kV doc pm an cdv ct us its ws h1 h2 h3 => match us, its, ws, h1, h2, h3 with | [_, _, _, _], [_], [_], _, _, _ => ⟨_, rfl, rfl⟩
  have b_1 := F1.binds (ps := ["value"]) fun _ _ _ _ _ _ us hl => match us, hl with | [_], _ => rfl
  have b_2 := F2.binds (ps := ["value", "least", "most"]) fun _ _ _ _ _ _ us hl => match us, hl with | [_, _, _], _ => rfl
  have b_3 := F3.binds (ps := ["value"]) fun _ _ _ _ _ _ us hl => match us, hl with | [_], _ => rfl
  have b_4 := F4.binds (ps := ["value", "length"]) fun _ _ _ _ _ _ us hl => match us, hl with | [_, _], _ => rfl
  have b_5 := F5.binds (ps := ["value", "most"]) fun _ _ _ _ _ _ us hl => match us, hl with | [_, _], _ => rfl
  have b_6 := F6.binds (ps := ["value"]) fun _ _ _ _ _ _ us hl => match us, hl with | [_], _ => rfl
  have b_7 := F7.binds (ps := ["mark"]) fun _ _ _ _ _ _ us hl => match us, hl with | [_], _ => rfl
  have b_8 := F8.binds (ps := ["value"]) fun _ _ _ _ _ _ us hl => match us, hl with | [_], _ => rfl
  have b_9 := F9.binds (ps := ["letters", "value"]) fun _ _ _ _ _ _ us hl => match us, hl with | [_, _], _ => rfl
  have b_10 := F10.binds (ps := ["value"]) fun _ _ _ _ _ _ us hl => match us, hl with | [_], _ => rfl
  have b_11 := F11.binds (ps := ["sign", "value"]) fun _ _ _ _ _ _ us hl => match us, hl with | [_, _], _ => rfl
  have b_12 := F12.binds (ps := ["top", "deed", "symbol"]) fun _ _ _ _ _ _ us hl => match us, hl with | [_, _, _], _ => rfl
  have b_13 := F13.binds (ps := ["states", "value"]) fun _ _ _ _ _ _ us hl => match us, hl with | [_, _], _ => rfl
  have b_14 := F14.binds (ps := ["letters", "states", "value"]) fun _ _ _ _ _ _ us hl => match us, hl with | [_, _, _], _ => rfl
  have b_15 := F15.binds (ps := ["letters", "states", "rules", "yes"]) fun _ _ _ _ _ _ us hl => match us, hl with | [_, _, _, _], _ => rfl
  have b_16 := F16.binds (ps := ["rules"]) fun _ _ _ _ _ _ us hl => match us, hl with | [_], _ => rfl
  have b_17 := F17.binds (ps := ["rules"]) fun _ _ _ _ _ _ us hl => match us, hl with | [_], _ => rfl
  have b_18 := F18.binds (ps := ["acts"]) fun _ _ _ _ _ _ us hl => match us, hl with | [_], _ => rfl
  have b_19 := F19.binds (ps := ["value"]) fun _ _ _ _ _ _ us hl => match us, hl with | [_], _ => rfl
  have b_20 := F20.binds (ps := ["told", "due"]) fun _ _ _ _ _ _ us hl => match us, hl with | [_, _], _ => rfl
  have b_21 := F21.binds (ps := ["script", "k"]) fun _ _ _ _ _ _ us hl => match us, hl with | [_, _], _ => rfl
  have b_22 := F22.binds (ps := ["cell", "sizes"]) fun _ _ _ _ _ _ us hl => match us, hl with | [_, _], _ => rfl
  have b_23 := F23.binds (ps := ["cell"]) fun _ _ _ _ _ _ us hl => match us, hl with | [_], _ => rfl
  have b_24 := F24.binds (ps := ["row"]) fun _ _ _ _ _ _ us hl => match us, hl with | [_], _ => rfl
  have b_25 := F25.binds (ps := ["cell"]) fun _ _ _ _ _ _ us hl => match us, hl with | [_], _ => rfl
  have b_26 := F26.binds (ps := ["cell", "letters", "states", "pool", "before"]) fun _ _ _ _ _ _ us hl => match us, hl with | [_, _, _, _, _], _ => rfl
  have b_27 := F27.binds (ps := ["script", "at", "many", "letters", "states", "pool"]) fun _ _ _ _ _ _ us hl => match us, hl with | [_, _, _, _, _, _], _ => rfl
  have b_28 := F28.binds (ps := ["cell", "states"]) fun _ _ _ _ _ _ us hl => match us, hl with | [_, _], _ => rfl
  have b_29 := F29.binds (ps := ["values"]) fun _ _ _ _ _ _ us hl => match us, hl with | [_], _ => rfl
  have b_30 := F30.binds (ps := ["letters", "states", "rules", "yes"]) fun _ _ _ _ _ _ us hl => match us, hl with | [_, _, _, _], _ => rfl
  have b_31 := F31.binds (ps := ["machine"]) fun _ _ _ _ _ _ us hl => match us, hl with | [_], _ => rfl
  have b_32 := F32.binds (ps := ["value"]) fun _ _ _ _ _ _ us hl => match us, hl with | [_], _ => rfl
  have b_33 := F33.binds (ps := ["states", "value"]) fun _ _ _ _ _ _ us hl => match us, hl with | [_, _], _ => rfl
  have b_34 := F34.binds (ps := ["value"]) fun _ _ _ _ _ _ us hl => match us, hl with | [_], _ => rfl
  have b_35 := F35.binds (ps := ["letters", "states", "rule"]) fun _ _ _ _ _ _ us hl => match us, hl with | [_, _, _], _ => rfl
  have b_36 := F36.binds (ps := ["letters", "states", "rules", "yes"]) fun _ _ _ _ _ _ us hl => match us, hl with | [_, _, _, _], _ => rfl
  have b_37 := F37.binds (ps := ["part", "pick", "letters", "states", "pool", "letter"]) fun _ _ _ _ _ _ us hl => match us, hl with | [_, _, _, _, _, _], _ => rfl
  have b_38 := F38.binds (ps := ["digit"]) fun _ _ _ _ _ _ us hl => match us, hl with | [_], _ => rfl
  have b_39 := F39.binds (ps := ["rule", "row", "letters", "states", "pool"]) fun _ _ _ _ _ _ us hl => match us, hl with | [_, _, _, _, _], _ => rfl
  have b_40 := F40.binds (ps := ["item", "k", "forms"]) fun _ _ _ _ _ _ us hl => match us, hl with | [_, _, _], _ => rfl
  have b_41 := F41.binds (ps := ["letters", "states", "rules", "yes"]) fun _ _ _ _ _ _ us hl => match us, hl with | [_, _, _, _], _ => rfl
  have b_42 := F42.binds (ps := ["letters", "states", "rules", "yes", "forms"]) fun _ _ _ _ _ _ us hl => match us, hl with | [_, _, _, _, _], _ => rfl
  have b_43 := F43.binds (ps := ["row", "letters", "states", "yes"]) fun _ _ _ _ _ _ us hl => match us, hl with | [_, _, _, _], _ => rfl
  have hbL : ∀ (s : Shared) (v : Value), BindsTo s fdL ⟨[v], []⟩ [("script", v)] := by
    obtain ⟨oc, od, kV, doc, pm, an, cdv, ct, osl, hfd, _, _⟩ := FL.ex
    subst hfd
    exact fun s v => .of_eq rfl
  refine ⟨fdL, hbL, fun base _ _ => ?_⟩
  have g_is_integer : Got l.prog w K mg base "is_integer" 1 ["value"] (spIntegerD K) := ⟨_, _, okD_integer F1 T, F1.kp, b_1, m na1⟩
  have g_is_between : Got l.prog w K mg base "is_between" 2 ["value", "least", "most"] (spBetweenD K) := ⟨_, _, okD_between F2 g_is_integer, F2.kp, b_2, m na2⟩
  have g_is_sequence : Got l.prog w K mg base "is_sequence" 1 ["value"] (spSequenceD K) := ⟨_, _, okD_sequence F3 T, F3.kp, b_3, m na3⟩
  have g_is_row : Got l.prog w K mg base "is_row" 2 ["value", "length"] (spRowD K) := ⟨_, _, okD_row F4 T g_is_sequence, F4.kp, b_4, m na4⟩
  have g_are_letters : Got l.prog w K mg base "are_letters" 1 ["value", "most"] (spLettersD K) := ⟨_, _, okD_letters F5 T, F5.kp, b_5, m na5⟩
  have g_is_alphabet : Got l.prog w K mg base "is_alphabet" 2 ["value"] (spAlphabetD K) := ⟨_, _, okD_alphabet F6 T g_are_letters, F6.kp, b_6, m na6⟩
  have g_is_symbol_mark : Got l.prog w K mg base "is_symbol_mark" 1 ["mark"] spMark := ⟨_, _, ok_mark F7, F7.kp, b_7, m na7⟩
  have g_is_symbol : Got l.prog w K mg base "is_symbol" 2 ["value"] (spSymbolD K) := ⟨_, _, okD_symbol F8 T g_is_symbol_mark, F8.kp, b_8, m na8⟩
  have g_is_sign : Got l.prog w K mg base "is_sign" 1 ["letters", "value"] (spSignD K) := ⟨_, _, okD_sign F9 T, F9.kp, b_9, m na9⟩
  have g_is_top : Got l.prog w K mg base "is_top" 3 ["value"] (spTopD K) := ⟨_, _, okD_top F10 T g_is_symbol, F10.kp, b_10, m na10⟩
  have g_is_move : Got l.prog w K mg base "is_move" 3 ["sign", "value"] (spMoveD K) := ⟨_, _, okD_move F11 g_is_between, F11.kp, b_11, m na11⟩
  have g_is_deed : Got l.prog w K mg base "is_deed" 3 ["top", "deed", "symbol"] (spDeedD K) := ⟨_, _, okD_deed F12 T D g_is_symbol, F12.kp, b_12, m na12⟩
  have g_is_state : Got l.prog w K mg base "is_state" 3 ["states", "value"] (spStateD K) := ⟨_, _, okD_state F13 g_is_between, F13.kp, b_13, m na13⟩
  have g_is_rule : Got l.prog w K mg base "is_rule" 4 ["letters", "states", "value"] (spRuleD K) := ⟨_, _, okD_rule F14 ⟨g_is_row, g_is_state, g_is_sign, g_is_top, g_is_move, g_is_deed, g_are_letters⟩, F14.kp, b_14, m na14⟩
  have g_symbols_of : Got l.prog w K mg base "symbols_of" 1 ["rules"] (spSymbols K) := ⟨_, _, ok_symbols F16 T, F16.kp, b_16, m na16⟩
  have g_acts_by_key : Got l.prog w K mg base "acts_by_key" 1 ["rules"] (spActs K) := ⟨_, _, ok_acts F17 T, F17.kp, b_17, m na17⟩
  have g_first_guess : Got l.prog w K mg base "first_guess" 1 ["acts"] spGuess := ⟨_, _, ok_guess F18 T, F18.kp, b_18, m na18⟩
  have bB := FB.binds (ps := ["self", "where"]) fun _ _ _ _ _ _ us hl => match us, hl with | [_, _], _ => rfl
  have oxB : OexC K B := ⟨xB, sB, eB, tB, kB⟩
  have BT : BadT K mg B fB := ⟨m nB, oxB, iB, tfB, noB⟩
  have ET : ErrT K B := ⟨yc, yg, yh, eB, yd, ya, yn, yt, ym⟩
  have X5 : ErrsM K mg B R a1 a2 a3 a4 a5 a6 a7 a8 a9 w1 w2 w3 w4 w5 w6 w7 w8 w9 := ⟨m nB, m nR, m ga1, m ga2, m ga3, m ga4, m ga5, m ga6, m ga7, m ga8, m ga9, m gw1, m gw2, m gw3, m gw4, m gw5, m gw6, m gw7, m gw8, m gw9, PySem.W.mg_none_of X G z_ValueError, (kit_no sBB ic_a1 ty_a1 sb_a1 (kit_no sBB ic_a2 ty_a2 sb_a2 (kit_no sBB ic_a3 ty_a3 sb_a3 (kit_no sBB ic_a4 ty_a4 sb_a4 (kit_no sBB ic_a5 ty_a5 sb_a5 (kit_no sBB ic_a6 ty_a6 sb_a6 (kit_no sBB ic_a7 ty_a7 sb_a7 (kit_no sBB ic_a8 ty_a8 sb_a8 (kit_no sBB ic_a9 ty_a9 sb_a9 rfl))))))))), (kit_no sBB ic_w1 ty_w1 sb_w1 (kit_no sBB ic_w2 ty_w2 sb_w2 (kit_no sBB ic_w3 ty_w3 sb_w3 (kit_no sBB ic_w4 ty_w4 sb_w4 (kit_no sBB ic_w5 ty_w5 sb_w5 (kit_no sBB ic_w6 ty_w6 sb_w6 (kit_no sBB ic_w7 ty_w7 sb_w7 (kit_no sBB ic_w8 ty_w8 sb_w8 (kit_no sBB ic_w9 ty_w9 sb_w9 rfl))))))))), kit_yes iR tR sBR, kit_VE sBV, exm_yes eB yc tB sBB, noB⟩
  have g_check : GotE l.prog w K mg base "check_arguments" 5 ["letters", "states", "rules", "yes"] (spCheckD K B) := ⟨_, _, okD_check F15 T ⟨g_is_alphabet, g_is_between, g_is_sequence, g_is_rule, g_is_state, mS, mR⟩ BT FB bB, F15.kp, b_15, m na15⟩
  have MD : MDefD l.prog w K mg base C B fI _ := ⟨MC, MM, m nC, okD_init FI T ⟨g_check, g_symbols_of, g_acts_by_key, g_first_guess⟩ MC, b4⟩
  have g_whole : Got l.prog w K mg base "_law_whole" 1 ["value"] (spIntegerD K) := ⟨_, _, okD_whole F19 T, F19.kp, b_19, m na19⟩
  have g_same : Got l.prog w K mg base "_law_same" 6 ["told", "due"] (spSame K 4) := ⟨_, _, ok_same F20 T F19 b_19 (m na19) b_20 (m na20) 4, F20.kp, b_20, m na20⟩
  have g_cell : Got l.prog w K mg base "_law_cell" 1 ["script", "k"] (spCellA K) := ⟨_, _, ok_cell F21 T, F21.kp, b_21, m na21⟩
  have g_digits : Got l.prog w K mg base "_law_digits" 1 ["cell", "sizes"] (spDigits K) := ⟨_, _, ok_digits F22 T, F22.kp, b_22, m na22⟩
  have g_any : Got l.prog w K mg base "_law_any_letters" 2 ["cell"] spAny := ⟨_, _, ok_any F23 T g_digits, F23.kp, b_23, m na23⟩
  have g_sym : Got l.prog w K mg base "_law_symbol" 1 ["row"] (spSym K) := ⟨_, _, ok_sym F24, F24.kp, b_24, m na24⟩
  have g_pool : Got l.prog w K mg base "_law_pool" 2 ["cell"] spPool := ⟨_, _, ok_pool F25 T g_digits g_sym, F25.kp, b_25, m na25⟩
  have g_lrule : Got l.prog w K mg base "_law_rule" 2 ["cell", "letters", "states", "pool", "before"] spLRule := ⟨_, _, ok_lrule F26 T g_digits g_sym, F26.kp, b_26, m na26⟩
  have g_lrules : Got l.prog w K mg base "_law_rules" 3 ["script", "at", "many", "letters", "states", "pool"] (spLRules K) := ⟨_, _, ok_lrules F27 T g_cell g_lrule, F27.kp, b_27, m na27⟩
  have g_yes : Got l.prog w K mg base "_law_yes" 2 ["cell", "states"] spYes := ⟨_, _, ok_yes F28 T g_digits, F28.kp, b_28, m na28⟩
  have g_onceT : Got l.prog w K mg base "_law_each_once" 1 ["values"] (spOnceT K) := ⟨_, _, ok_onceT F29 T, F29.kp, b_29, m na29⟩
  have g_onceS : Got l.prog w K mg base "_law_each_once" 1 ["values"] (spOnceS K) := ⟨_, _, ok_onceS F29 T, F29.kp, b_29, m na29⟩
  have g_onceI : Got l.prog w K mg base "_law_each_once" 1 ["values"] (spOnceI K) := ⟨_, _, ok_onceI F29 T, F29.kp, b_29, m na29⟩
  have g_due : Got l.prog w K mg base "_law_due" 2 ["letters", "states", "rules", "yes"] (spDue K) := ⟨_, _, ok_due F30 T g_onceT g_onceS g_onceI, F30.kp, b_30, m na30⟩
  have g_fields : Got l.prog w K mg base "_law_fields" 1 ["machine"] (spFields K) := ⟨_, _, ok_fields F31, F31.kp, b_31, m na31⟩
  have g_symr : Got l.prog w K mg base "_law_symbol_right" 1 ["value"] (spSymbolD K) := ⟨_, _, okD_symR F32 T, F32.kp, b_32, m na32⟩
  have g_str : Got l.prog w K mg base "_law_state_right" 2 ["states", "value"] (spStateD K) := ⟨_, _, okD_stR F33 g_whole, F33.kp, b_33, m na33⟩
  have g_letr : Got l.prog w K mg base "_law_letters_right" 1 ["value"] (spAlphabetD K) := ⟨_, _, okD_letR F34 T, F34.kp, b_34, m na34⟩
  have g_ruler : Got l.prog w K mg base "_law_rule_right" 3 ["letters", "states", "rule"] (spRuleR K) := ⟨_, _, okD_ruleR F35 T ⟨g_str, g_symr, g_whole⟩, F35.kp, b_35, m na35⟩
  have g_where : Got l.prog w K mg base "_law_where" 4 ["letters", "states", "rules", "yes"] (spWhere K) := ⟨_, _, okD_where F36 T ⟨g_letr, g_str, g_whole, g_ruler⟩, F36.kp, b_36, m na36⟩
  have g_odd : Got l.prog w K mg base "_law_odd_part" 1 ["part", "pick", "letters", "states", "pool", "letter"] (spOdd K) := ⟨_, _, ok_odd F37 T, F37.kp, b_37, m na37⟩
  have g_strange : Got l.prog w K mg base "_law_strange" 1 ["digit"] spStrange := ⟨_, _, ok_strange F38 T, F38.kp, b_38, m na38⟩
  have g_spoilt : Got l.prog w K mg base "_law_spoilt" 2 ["rule", "row", "letters", "states", "pool"] (spSpoilt K) := ⟨_, _, ok_spoilt F39 T ⟨g_odd, g_strange⟩, F39.kp, b_39, m na39⟩
  have g_form : Got l.prog w K mg base "_law_some_form" 1 ["item", "k", "forms"] (spForm K) := ⟨_, _, ok_form F40 T, F40.kp, b_40, m na40⟩
  have g_made : Got l.prog w K mg base "_law_made" 8 ["letters", "states", "rules", "yes"] (spMade K) := ⟨_, _, ok_made F41 T MD ET X5 g_fields, F41.kp, b_41, m na41⟩
  have g_right : Got l.prog w K mg base "_law_made_right" 9 ["letters", "states", "rules", "yes", "forms"] (spMR K) := ⟨_, _, ok_mr F42 T ⟨g_where, g_form, g_made, g_same, g_due⟩, F42.kp, b_42, m na42⟩
  have g_args : Got l.prog w K mg base "_law_odd_arguments" 2 ["row", "letters", "states", "yes"] (spArgs K) := ⟨_, _, ok_args F43 T g_strange, F43.kp, b_43, m na43⟩
  exact ok_law FL T ⟨g_cell, g_digits, g_any, g_pool, g_lrules, g_yes, g_args, g_spoilt, g_right⟩
end Mk

set_option Elab.async false
set_option maxRecDepth 100000
set_option maxHeartbeats 0
namespace Mk
open PySem L2 Pk
theorem glo_na {K : PySem.W.Frag} {x : Str} (c : (He.Fa.glo x).ok K = true) : PySem.W.nsIn K mainGlobals x = some (some (.ref (He.ga K x))) := He.eqO_ok c
theorem fun_of {K : PySem.W.Frag} {x qual : Str} {st : Stmt} {f : Addr} {fd : FuncData} (F : FunD K x qual (defArgs st) (defBody st) (defScope st) [] [] f fd) : Fun K x qual st f fd := by
  obtain ⟨⟨oc, od, dV, kV, doc, pm, an, cdv, ct, osl, hfd, lk, co, hd, _⟩, kp⟩ := F
  have e : dV = .none := by
    rcases hd with ⟨_, e⟩ | ⟨n, _⟩
    · exact e
    · exact absurd rfl n
  subst e
  exact ⟨⟨oc, od, kV, doc, pm, an, cdv, ct, osl, hfd, lk, co⟩, kp⟩
/-- a tuple in the head's part -/
def tupA (K : PySem.W.Frag) (a : Addr) (vs : List V) : Bool := match K.lookup a with
  | some ⟨.type c, _, .seq its _, _⟩ => decide (c = "tuple") && (decide (its.size ≤ sizeLine) && He.relAll vs its.toList)
  | _ => false
theorem tupA_ok {K : PySem.W.Frag} {a : Addr} {vs : List V} (h : tupA K a vs = true) (H : Hp) : SqT K H a vs := by
  unfold tupA at h
  cases q : K.lookup a with
  | none =>
    rw [q] at h
    cases h
  | some o =>
    obtain ⟨oc, od, dt, osl⟩ := o
    rw [q] at h
    cases oc with
    | type c =>
      cases dt with
      | seq its n =>
        obtain ⟨h1, h2⟩ := He.ba (show (decide (c = "tuple") && (decide (its.size ≤ sizeLine) && He.relAll vs its.toList)) = true from h)
        obtain ⟨h3, h4⟩ := He.ba h2
        exact .inr ⟨_, its, n, q, congrArg Value.type (of_decide_eq_true h1), rfl, of_decide_eq_true h3, He.relAll_ok h4⟩
      | _ => cases h
    | _ => cases dt <;> cases h
/-! what the facts look at: the names' objects, what they name; the ways of the classes -/
def kidsQ (g : Addr → Option Obj) (a : Addr) : List Addr := match g a with
  | some o => He.refsD o
  | none => []
def asQ (names cs : List Str) (g : Addr → Option Obj) : List Addr :=
  (fun K0 : PySem.W.Frag => (fun A1 B1 : List Addr => (fun B2 : List Addr => (fun B3 : List Addr => mainGlobals :: (A1 ++ (A1.flatMap (kidsQ g) ++ (B2 ++ (B3 ++ B3.flatMap (kidsQ g)))))) (B2.flatMap (kidsQ g))) (B1.flatMap (kidsQ g)))
    (names.map (He.ga K0)) ((cs.map (He.ga K0)).flatMap (kidsQ g))) (He.frG g [mainGlobals])
abbrev AlQ : Type := He.AlD × Bool
def obsQ (fa : List He.Fa) (fn : List He.DefD) (ex : PySem.W.Frag → Bool) (names cs : List Str) (g : Addr → Option Obj) : AlQ := (fun K : PySem.W.Frag => ((He.obsD fa fn K, ex K) : AlQ)) (He.frG g (asQ names cs g))
def SaysQ (fa : List He.Fa) (fn : List He.DefD) (ex : PySem.W.Frag → Bool) (K : PySem.W.Frag) : Prop := He.SaysD fa fn K ∧ ex K = true
def hookQ (fa : List He.Fa) (fn : List He.DefD) (ex : PySem.W.Frag → Bool) (names cs : List Str) : PySem.W.Hook where
  α := AlQ
  obs := fun s => obsQ fa fn ex names cs s.heap.get?
  val := fun _ => (He.valD fn, true)
  says := fun _ h => ∃ K : PySem.W.Frag, K.In h ∧ SaysQ fa fn ex K
  of := fun _ _ e => ⟨_, He.frG_in, congrArg (fun z : AlQ => z.1) e, congrArg (fun z : AlQ => z.2) e⟩
  keeps := fun _ _ _ ⟨K, hK, c⟩ k => ⟨K, PySem.W.Frag.In.keeps hK k, c⟩
theorem obsQ_eq {fa : List He.Fa} {fn : List He.DefD} {ex : PySem.W.Frag → Bool} {names cs : List Str} {g : Addr → Option Obj} {s : Shared} (h : ∀ a, g a = s.heap.get? a) : obsQ fa fn ex names cs g = (hookQ fa fn ex names cs).obs s := by
  have e : g = s.heap.get? := funext h
  rw [e] <;> rfl
/-- an own error class in the head's part -/
def oexB (K : PySem.W.Frag) (C : Addr) : Bool := match K.lookup C with
  | some ⟨.type "type", _, .cls cd, sl⟩ => (match cd.mro, sl.toList with
    | .ref C' :: bm, [_, _, _, _, some (.builtin n), _] => C' == C && n == "ValueError.__new__" && !cd.hasDel && cd.hasDict && PySem.HandSPX.refsVE bm
    | _, _ => false)
  | _ => false
theorem oexB_ok {K : PySem.W.Frag} {C : Addr} (q : oexB K C = true) : ∃ nm q N bs bm sn sub ab col dd k0 k1 k2 k3 k5, K.lookup C = some (excClassObj nm q C N bs bm true sn sub ab col dd k0 k1 k2 k3 k5 "ValueError.__new__") ∧ PySem.HandSPX.refsVE bm = true := by
  unfold oexB at q
  split at q
  · rename_i dd cd sl ho
    split at q
    · rename_i C' bm k0 k1 k2 k3 n k5 hm hs
      simp only [Bool.and_eq_true, beq_iff_eq, Bool.not_eq_true'] at q
      obtain ⟨⟨⟨⟨rfl, rfl⟩, hdel⟩, ht⟩, hok⟩ := q
      obtain ⟨nm, bs, mro, ns, qn, hd, sn, sub, ab, col, del⟩ := cd
      dsimp only at hm hdel ht hok
      subst hm hdel ht
      have hsl : sl = #[k0, k1, k2, k3, some (.builtin "ValueError.__new__"), k5] := by
        obtain ⟨l⟩ := sl
        simp only at hs
        rw [hs]
      subst hsl
      exact ⟨nm, qn, ns, bs, bm, sn, sub, ab, col, dd, k0, k1, k2, k3, k5, ho, hok⟩
    · cases q
  · cases q
def hfa : List He.Fa := [.glo "is_integer", .glo "is_between", .glo "is_sequence", .glo "is_row", .glo "are_letters", .glo "is_alphabet", .glo "is_symbol_mark", .glo "is_symbol", .glo "is_sign", .glo "is_top", .glo "is_move", .glo "is_deed", .glo "is_state", .glo "is_rule", .glo "check_arguments", .glo "symbols_of", .glo "acts_by_key", .glo "first_guess", .glo "_law_whole", .glo "_law_same", .glo "_law_cell", .glo "_law_digits", .glo "_law_any_letters", .glo "_law_symbol", .glo "_law_pool", .glo "_law_rule", .glo "_law_rules", .glo "_law_yes", .glo "_law_each_once", .glo "_law_due", .glo "_law_fields", .glo "_law_symbol_right", .glo "_law_state_right", .glo "_law_letters_right", .glo "_law_rule_right", .glo "_law_where", .glo "_law_odd_part", .glo "_law_strange", .glo "_law_spoilt", .glo "_law_some_form", .glo "_law_made", .glo "_law_made_right", .glo "_law_odd_arguments", .glo "law", .glo "Machine", .glo "DEEDS", .int "MOST_STATES" 2000, .int "MOST_RULES" 20000, .free "isinstance", .free "int", .free "bool", .free "str", .free "tuple", .free "list", .free "len", .free "range", .free "all", .free "sorted", .free "set", .free "abs", .free "ValueError", .glo "BadMachine", .glo "RecallError", .glo "BadLine", .glo "BadText", .glo "Guesses", .glo "BadStanding", .glo "BadSurface", .glo "TooLong", .glo "BadSplice", .glo "NothingToUndo", .glo "BadDeed", .glo "BadTree", .glo "DoubleName", .glo "NoSuchProcedure", .glo "BadToken", .glo "UnlikeLetters", .glo "BadCode", .glo "BadPaper", .glo "BadGrammar", .glo "NoSuchProgram"]
def hfn0 : He.DefD := ⟨("is_integer", none), "is_integer", "is_integer", defArgs sInteger, defBody sInteger, defScope sInteger, [], []⟩
def hfn1 : He.DefD := ⟨("is_between", none), "is_between", "is_between", defArgs sBetween, defBody sBetween, defScope sBetween, [], []⟩
def hfn2 : He.DefD := ⟨("is_sequence", none), "is_sequence", "is_sequence", defArgs sSequence, defBody sSequence, defScope sSequence, [], []⟩
def hfn3 : He.DefD := ⟨("is_row", none), "is_row", "is_row", defArgs sRow, defBody sRow, defScope sRow, [], []⟩
def hfn4 : He.DefD := ⟨("are_letters", none), "are_letters", "are_letters", defArgs sLetters, defBody sLetters, defScope sLetters, [], []⟩
def hfn5 : He.DefD := ⟨("is_alphabet", none), "is_alphabet", "is_alphabet", defArgs sAlphabet, defBody sAlphabet, defScope sAlphabet, [], []⟩
def hfn6 : He.DefD := ⟨("is_symbol_mark", none), "is_symbol_mark", "is_symbol_mark", defArgs sMark, defBody sMark, defScope sMark, [], []⟩
def hfn7 : He.DefD := ⟨("is_symbol", none), "is_symbol", "is_symbol", defArgs sSymbol, defBody sSymbol, defScope sSymbol, [], []⟩
def hfn8 : He.DefD := ⟨("is_sign", none), "is_sign", "is_sign", defArgs sSign, defBody sSign, defScope sSign, [], []⟩
def hfn9 : He.DefD := ⟨("is_top", none), "is_top", "is_top", defArgs sTop, defBody sTop, defScope sTop, [], []⟩
def hfn10 : He.DefD := ⟨("is_move", none), "is_move", "is_move", defArgs sMove, defBody sMove, defScope sMove, [], []⟩
def hfn11 : He.DefD := ⟨("is_deed", none), "is_deed", "is_deed", defArgs sDeed, defBody sDeed, defScope sDeed, [], []⟩
def hfn12 : He.DefD := ⟨("is_state", none), "is_state", "is_state", defArgs sState, defBody sState, defScope sState, [], []⟩
def hfn13 : He.DefD := ⟨("is_rule", none), "is_rule", "is_rule", defArgs sRule, defBody sRule, defScope sRule, [], []⟩
def hfn14 : He.DefD := ⟨("check_arguments", none), "check_arguments", "check_arguments", defArgs sCheck, defBody sCheck, defScope sCheck, [], []⟩
def hfn15 : He.DefD := ⟨("symbols_of", none), "symbols_of", "symbols_of", defArgs sSymbols, defBody sSymbols, defScope sSymbols, [], []⟩
def hfn16 : He.DefD := ⟨("acts_by_key", none), "acts_by_key", "acts_by_key", defArgs sActs, defBody sActs, defScope sActs, [], []⟩
def hfn17 : He.DefD := ⟨("first_guess", none), "first_guess", "first_guess", defArgs sGuess, defBody sGuess, defScope sGuess, [], []⟩
def hfn18 : He.DefD := ⟨("_law_whole", none), "_law_whole", "_law_whole", defArgs sWhole, defBody sWhole, defScope sWhole, [], []⟩
def hfn19 : He.DefD := ⟨("_law_same", none), "_law_same", "_law_same", defArgs sSame, defBody sSame, defScope sSame, [], []⟩
def hfn20 : He.DefD := ⟨("_law_cell", none), "_law_cell", "_law_cell", defArgs sCell, defBody sCell, defScope sCell, [], []⟩
def hfn21 : He.DefD := ⟨("_law_digits", none), "_law_digits", "_law_digits", defArgs sDigits, defBody sDigits, defScope sDigits, [], []⟩
def hfn22 : He.DefD := ⟨("_law_any_letters", none), "_law_any_letters", "_law_any_letters", defArgs sAny, defBody sAny, defScope sAny, [], []⟩
def hfn23 : He.DefD := ⟨("_law_symbol", none), "_law_symbol", "_law_symbol", defArgs sSym, defBody sSym, defScope sSym, [], []⟩
def hfn24 : He.DefD := ⟨("_law_pool", none), "_law_pool", "_law_pool", defArgs sPool, defBody sPool, defScope sPool, [], []⟩
def hfn25 : He.DefD := ⟨("_law_rule", none), "_law_rule", "_law_rule", defArgs sLRule, defBody sLRule, defScope sLRule, [], []⟩
def hfn26 : He.DefD := ⟨("_law_rules", none), "_law_rules", "_law_rules", defArgs sLRules, defBody sLRules, defScope sLRules, [], []⟩
def hfn27 : He.DefD := ⟨("_law_yes", none), "_law_yes", "_law_yes", defArgs sYes, defBody sYes, defScope sYes, [], []⟩
def hfn28 : He.DefD := ⟨("_law_each_once", none), "_law_each_once", "_law_each_once", defArgs sOnce, defBody sOnce, defScope sOnce, [], []⟩
def hfn29 : He.DefD := ⟨("_law_due", none), "_law_due", "_law_due", defArgs sDue, defBody sDue, defScope sDue, [], []⟩
def hfn30 : He.DefD := ⟨("_law_fields", none), "_law_fields", "_law_fields", defArgs sFields, defBody sFields, defScope sFields, [], []⟩
def hfn31 : He.DefD := ⟨("_law_symbol_right", none), "_law_symbol_right", "_law_symbol_right", defArgs sSymR, defBody sSymR, defScope sSymR, [], []⟩
def hfn32 : He.DefD := ⟨("_law_state_right", none), "_law_state_right", "_law_state_right", defArgs sStR, defBody sStR, defScope sStR, [], []⟩
def hfn33 : He.DefD := ⟨("_law_letters_right", none), "_law_letters_right", "_law_letters_right", defArgs sLetR, defBody sLetR, defScope sLetR, [], []⟩
def hfn34 : He.DefD := ⟨("_law_rule_right", none), "_law_rule_right", "_law_rule_right", defArgs sRuleR, defBody sRuleR, defScope sRuleR, [], []⟩
def hfn35 : He.DefD := ⟨("_law_where", none), "_law_where", "_law_where", defArgs sWhere, defBody sWhere, defScope sWhere, [], []⟩
def hfn36 : He.DefD := ⟨("_law_odd_part", none), "_law_odd_part", "_law_odd_part", defArgs sOdd, defBody sOdd, defScope sOdd, [], []⟩
def hfn37 : He.DefD := ⟨("_law_strange", none), "_law_strange", "_law_strange", defArgs sStrange, defBody sStrange, defScope sStrange, [], []⟩
def hfn38 : He.DefD := ⟨("_law_spoilt", none), "_law_spoilt", "_law_spoilt", defArgs sSpoilt, defBody sSpoilt, defScope sSpoilt, [], []⟩
def hfn39 : He.DefD := ⟨("_law_some_form", none), "_law_some_form", "_law_some_form", defArgs sForm, defBody sForm, defScope sForm, [], []⟩
def hfn40 : He.DefD := ⟨("_law_made", none), "_law_made", "_law_made", defArgs sMade, defBody sMade, defScope sMade, [], []⟩
def hfn41 : He.DefD := ⟨("_law_made_right", none), "_law_made_right", "_law_made_right", defArgs sMR, defBody sMR, defScope sMR, [], []⟩
def hfn42 : He.DefD := ⟨("_law_odd_arguments", none), "_law_odd_arguments", "_law_odd_arguments", defArgs sArgs, defBody sArgs, defScope sArgs, [], []⟩
def hfn43 : He.DefD := ⟨("law", none), "law", "law", defArgs sLaw, defBody sLaw, defScope sLaw, [], []⟩
def hfn44 : He.DefD := ⟨("Machine", some "__init__"), "__init__", "Machine.__init__", defArgs sInit, defBody sInit, defScope sInit, [.adr (He.dflAt ("Machine", some "__init__") 0)], []⟩
def hfn45 : He.DefD := ⟨("BadMachine", some "__init__"), "__init__", "BadMachine.__init__", defArgs sBadInit, defBody sBadInit, defScope sBadInit, [], []⟩
def hfn : List He.DefD := [hfn0, hfn1, hfn2, hfn3, hfn4, hfn5, hfn6, hfn7, hfn8, hfn9, hfn10, hfn11, hfn12, hfn13, hfn14, hfn15, hfn16, hfn17, hfn18, hfn19, hfn20, hfn21, hfn22, hfn23, hfn24, hfn25, hfn26, hfn27, hfn28, hfn29, hfn30, hfn31, hfn32, hfn33, hfn34, hfn35, hfn36, hfn37, hfn38, hfn39, hfn40, hfn41, hfn42, hfn43, hfn44, hfn45]
def hexL (K : PySem.W.Frag) : List Bool := [decide (PySem.W.plainGet K (He.ga K "Machine") Str.empty = true),
  decide (PySem.W.hasDictIn K (He.ga K "Machine") = true),
  decide (PySem.W.plainOver K (He.ga K "Machine") = true),
  decide (PySem.W.findIn K (.ref (He.ga K "Machine")) "__setattr__" = some (some (.builtin "object.__setattr__"))),
  decide (PySem.W.findIn K (.ref (He.ga K "Machine")) "letters" = some none),
  decide (PySem.W.findIn K (.ref (He.ga K "Machine")) "states" = some none),
  decide (PySem.W.findIn K (.ref (He.ga K "Machine")) "rules" = some none),
  decide (PySem.W.findIn K (.ref (He.ga K "Machine")) "yes" = some none),
  decide (PySem.W.findIn K (.ref (He.ga K "Machine")) "symbols" = some none),
  decide (PySem.W.findIn K (.ref (He.ga K "Machine")) "_acts" = some none),
  decide (PySem.W.findIn K (.ref (He.ga K "Machine")) "guess" = some none),
  decide (PySem.W.makesIn K (He.ga K "Machine") = true),
  decide (PySem.W.findIn K (.ref (He.ga K "Machine")) "__init__" = some (some (.ref (He.ma K (He.ga K "Machine") "__init__")))),
  decide (PySem.W.isFn K (.ref (He.ma K (He.ga K "Machine") "__init__")) = true),
  decide (PySem.W.keepIn K (.ref (He.ga K "Machine")) = true),
  tupA K (He.dflAt ("Machine", some "__init__") 0 K) [],
  tupA K (He.ga K "DEEDS") [.str "keep", .str "pop", .str "push", .str "swap"],
  decide (PySem.W.findIn K (.ref (He.ga K "BadMachine")) "__setattr__" = some (some (.builtin "object.__setattr__"))),
  decide (PySem.W.subIn K (.ref (He.ga K "BadMachine")) (.type "BaseException") = some true),
  decide (PySem.W.typeIn K (.ref (He.ga K "BadMachine")) = some (.type "type")),
  decide (PySem.W.keepIn K (.ref (He.ga K "BadMachine")) = true),
  decide (PySem.W.findIn K (.ref (He.ga K "BadMachine")) "__init__" = some (some (.ref (He.ma K (He.ga K "BadMachine") "__init__")))),
  decide (PySem.W.typeIn K (.ref (He.ma K (He.ga K "BadMachine") "__init__")) = some (.type "function")),
  decide (PySem.W.findIn K (.ref (He.ga K "BadMachine")) "where" = some none),
  decide (PySem.W.isClsIn K (He.ga K "BadMachine") = true),
  decide (PySem.W.findIn K (.ref (He.ga K "BadMachine")) "__getattribute__" = some (some (.builtin "BaseException.__getattribute__"))),
  decide (PySem.W.findIn K (.ref (He.ga K "BadMachine")) "__getattr__" = some none),
  decide (PySem.W.hasDictIn K (He.ga K "BadMachine") = true),
  decide (PySem.W.findIn K (.ref (He.ga K "BadMachine")) "__class__" = some (some (.builtin "object.__class__"))),
  decide (PySem.W.specialIn K (.builtin "object.__class__") "__get__" = some (some (.builtin "getset_descriptor.__get__"))),
  decide (PySem.W.takesIn K (.builtin "object.__class__") = some true),
  decide (PySem.W.mroIn K (He.ga K "BadMachine") (.type "object") = some true),
  decide (PySem.W.isClsIn K (He.ga K "BadLine") = true),
  decide (PySem.W.typeIn K (.ref (He.ga K "BadLine")) = some (.type "type")),
  decide (PySem.W.subIn K (.ref (He.ga K "BadMachine")) (.ref (He.ga K "BadLine")) = some false),
  decide (PySem.W.isClsIn K (He.ga K "BadText") = true),
  decide (PySem.W.typeIn K (.ref (He.ga K "BadText")) = some (.type "type")),
  decide (PySem.W.subIn K (.ref (He.ga K "BadMachine")) (.ref (He.ga K "BadText")) = some false),
  decide (PySem.W.isClsIn K (He.ga K "Guesses") = true),
  decide (PySem.W.typeIn K (.ref (He.ga K "Guesses")) = some (.type "type")),
  decide (PySem.W.subIn K (.ref (He.ga K "BadMachine")) (.ref (He.ga K "Guesses")) = some false),
  decide (PySem.W.isClsIn K (He.ga K "BadStanding") = true),
  decide (PySem.W.typeIn K (.ref (He.ga K "BadStanding")) = some (.type "type")),
  decide (PySem.W.subIn K (.ref (He.ga K "BadMachine")) (.ref (He.ga K "BadStanding")) = some false),
  decide (PySem.W.isClsIn K (He.ga K "BadSurface") = true),
  decide (PySem.W.typeIn K (.ref (He.ga K "BadSurface")) = some (.type "type")),
  decide (PySem.W.subIn K (.ref (He.ga K "BadMachine")) (.ref (He.ga K "BadSurface")) = some false),
  decide (PySem.W.isClsIn K (He.ga K "TooLong") = true),
  decide (PySem.W.typeIn K (.ref (He.ga K "TooLong")) = some (.type "type")),
  decide (PySem.W.subIn K (.ref (He.ga K "BadMachine")) (.ref (He.ga K "TooLong")) = some false),
  decide (PySem.W.isClsIn K (He.ga K "BadSplice") = true),
  decide (PySem.W.typeIn K (.ref (He.ga K "BadSplice")) = some (.type "type")),
  decide (PySem.W.subIn K (.ref (He.ga K "BadMachine")) (.ref (He.ga K "BadSplice")) = some false),
  decide (PySem.W.isClsIn K (He.ga K "NothingToUndo") = true),
  decide (PySem.W.typeIn K (.ref (He.ga K "NothingToUndo")) = some (.type "type")),
  decide (PySem.W.subIn K (.ref (He.ga K "BadMachine")) (.ref (He.ga K "NothingToUndo")) = some false),
  decide (PySem.W.isClsIn K (He.ga K "BadDeed") = true),
  decide (PySem.W.typeIn K (.ref (He.ga K "BadDeed")) = some (.type "type")),
  decide (PySem.W.subIn K (.ref (He.ga K "BadMachine")) (.ref (He.ga K "BadDeed")) = some false),
  decide (PySem.W.isClsIn K (He.ga K "BadTree") = true),
  decide (PySem.W.typeIn K (.ref (He.ga K "BadTree")) = some (.type "type")),
  decide (PySem.W.subIn K (.ref (He.ga K "BadMachine")) (.ref (He.ga K "BadTree")) = some false),
  decide (PySem.W.isClsIn K (He.ga K "DoubleName") = true),
  decide (PySem.W.typeIn K (.ref (He.ga K "DoubleName")) = some (.type "type")),
  decide (PySem.W.subIn K (.ref (He.ga K "BadMachine")) (.ref (He.ga K "DoubleName")) = some false),
  decide (PySem.W.isClsIn K (He.ga K "NoSuchProcedure") = true),
  decide (PySem.W.typeIn K (.ref (He.ga K "NoSuchProcedure")) = some (.type "type")),
  decide (PySem.W.subIn K (.ref (He.ga K "BadMachine")) (.ref (He.ga K "NoSuchProcedure")) = some false),
  decide (PySem.W.isClsIn K (He.ga K "BadToken") = true),
  decide (PySem.W.typeIn K (.ref (He.ga K "BadToken")) = some (.type "type")),
  decide (PySem.W.subIn K (.ref (He.ga K "BadMachine")) (.ref (He.ga K "BadToken")) = some false),
  decide (PySem.W.isClsIn K (He.ga K "UnlikeLetters") = true),
  decide (PySem.W.typeIn K (.ref (He.ga K "UnlikeLetters")) = some (.type "type")),
  decide (PySem.W.subIn K (.ref (He.ga K "BadMachine")) (.ref (He.ga K "UnlikeLetters")) = some false),
  decide (PySem.W.isClsIn K (He.ga K "BadCode") = true),
  decide (PySem.W.typeIn K (.ref (He.ga K "BadCode")) = some (.type "type")),
  decide (PySem.W.subIn K (.ref (He.ga K "BadMachine")) (.ref (He.ga K "BadCode")) = some false),
  decide (PySem.W.isClsIn K (He.ga K "BadPaper") = true),
  decide (PySem.W.typeIn K (.ref (He.ga K "BadPaper")) = some (.type "type")),
  decide (PySem.W.subIn K (.ref (He.ga K "BadMachine")) (.ref (He.ga K "BadPaper")) = some false),
  decide (PySem.W.isClsIn K (He.ga K "BadGrammar") = true),
  decide (PySem.W.typeIn K (.ref (He.ga K "BadGrammar")) = some (.type "type")),
  decide (PySem.W.subIn K (.ref (He.ga K "BadMachine")) (.ref (He.ga K "BadGrammar")) = some false),
  decide (PySem.W.isClsIn K (He.ga K "NoSuchProgram") = true),
  decide (PySem.W.typeIn K (.ref (He.ga K "NoSuchProgram")) = some (.type "type")),
  decide (PySem.W.subIn K (.ref (He.ga K "BadMachine")) (.ref (He.ga K "NoSuchProgram")) = some false),
  decide (PySem.W.subIn K (.ref (He.ga K "BadMachine")) (.ref (He.ga K "BadMachine")) = some true),
  decide (PySem.W.subIn K (.ref (He.ga K "BadMachine")) (.type "ValueError") = some true),
  decide (PySem.W.isClsIn K (He.ga K "RecallError") = true),
  decide (PySem.W.typeIn K (.ref (He.ga K "RecallError")) = some (.type "type")),
  decide (PySem.W.subIn K (.ref (He.ga K "BadMachine")) (.ref (He.ga K "RecallError")) = some true),
  oexB K (He.ga K "BadMachine")]
def hex_ (K : PySem.W.Frag) : Bool := (hexL K).all id
abbrev hR : PySem.W.OpenRow := PySem.W.OpenLaw.row PySem.Challenge.rw_pilerecall_k01_bad_machines
def hnd0 : List Str := ["is_integer", "is_between", "is_sequence", "is_row", "are_letters", "is_alphabet", "is_symbol_mark", "is_symbol", "is_sign", "is_top", "is_move", "is_deed", "is_state", "is_rule", "check_arguments", "symbols_of", "acts_by_key", "first_guess", "_law_whole", "_law_same", "_law_cell", "_law_digits", "_law_any_letters", "_law_symbol", "_law_pool", "_law_rule", "_law_rules", "_law_yes", "_law_each_once", "_law_due"]
def hnd1 : List Str := ["_law_fields", "_law_symbol_right", "_law_state_right", "_law_letters_right", "_law_rule_right", "_law_where", "_law_odd_part", "_law_strange", "_law_spoilt", "_law_some_form", "_law_made", "_law_made_right", "_law_odd_arguments", "law", "Machine", "DEEDS", "BadMachine", "RecallError", "BadLine", "BadText", "Guesses", "BadStanding", "BadSurface", "TooLong", "BadSplice", "NothingToUndo", "BadDeed", "BadTree", "DoubleName", "NoSuchProcedure"]
def hnd2 : List Str := ["BadToken", "UnlikeLetters", "BadCode", "BadPaper", "BadGrammar", "NoSuchProgram"]
def hnd : List Str := hnd0 ++ hnd1 ++ hnd2
def hcs : List Str := ["Machine", "BadMachine"]
abbrev hk : PySem.W.Hook := hookQ hfa hfn hex_ hnd hcs
def hob (s : PySem.W.SharedT) : AlQ := obsQ hfa hfn hex_ hnd hcs (HandSHeadRun.getT s)
theorem hob_eq (s : PySem.W.SharedT) : hob s = hk.obs s.abs := obsQ_eq (HandSHeadRun.getT_eq s)
def hnm0 : List Str := ["RecallError", "BadMachine", "BadLine", "BadText", "Guesses", "BadStanding", "BadSurface", "TooLong", "BadSplice", "NothingToUndo", "BadDeed", "BadTree", "DoubleName", "NoSuchProcedure", "BadToken", "UnlikeLetters", "BadCode", "BadPaper", "BadGrammar", "NoSuchProgram", "MOST_STATES", "MOST_RULES", "DEEDS", "is_integer", "is_between", "is_sequence", "is_row", "are_letters", "is_alphabet", "is_symbol_mark"]
def hnm1 : List Str := ["is_symbol", "is_sign", "is_top", "is_move", "is_deed", "is_state", "is_rule", "signs_of", "other_states", "shifted_states", "joined_size", "entering_rules", "rewinding_rules", "shifted_rules", "joined_rules", "check_arguments", "symbols_of", "acts_by_key", "first_guess", "Machine", "_law_whole", "_law_same", "_law_cell", "_law_digits", "_law_any_letters", "_law_symbol", "_law_pool", "_law_rule", "_law_rules", "_law_yes"]
def hnm2 : List Str := ["_law_each_once", "_law_due", "_law_fields", "_law_symbol_right", "_law_state_right", "_law_letters_right", "_law_rule_right", "_law_where", "_law_odd_part", "_law_strange", "_law_spoilt", "_law_some_form", "_law_made", "_law_made_right", "_law_odd_arguments"]
def hnm : List Str := hnm0 ++ hnm1 ++ hnm2
theorem hrun (w : World) : HandSHeadRun.RunEq hR (PySem.W.view hR.prog [81]) hk hob 9000 hnm w := by
  intro os
  kernel_rfl
theorem hfacts {w : World} {K : PySem.W.Frag} {h : Heap} {mg : Str → Option Value} {fa : Addr} (X : K.In h) (G : h.Ns mainGlobals mg) (hf : mg ("law" : Str) = some (.ref fa)) (cx : SaysQ hfa hfn hex_ K) :
    ∃ fd : FuncData, (∀ (s : Shared) (v : Value), BindsTo s fd ⟨[v], []⟩ [("script", v)]) ∧ ∀ base : Heap, K.In base → base.Ns mainGlobals mg → FnOk (PySem.Challenge.rw_pilerecall_k01_bad_machines).prog w K mg base CX0 10 fa fd ["script"] (spLaw K) := by
  have c : He.SaysD hfa hfn K := cx.1
  have b : ∀ (i : Nat) {x : Bool}, (hexL K)[i]? = some x → x = true := fun i x hx => List.all_eq_true.mp (show (hexL K).all id = true from cx.2) x (List.mem_of_getElem? hx)
  have d0 : ∃ fd, FunD K hfn0.name hfn0.qual hfn0.params hfn0.body hfn0.scope (hfn0.dvs K) (hfn0.kws K) (He.fAd K hfn0.at_) fd := c.def_ 0 (d := hfn0) rfl
  have d1 : ∃ fd, FunD K hfn1.name hfn1.qual hfn1.params hfn1.body hfn1.scope (hfn1.dvs K) (hfn1.kws K) (He.fAd K hfn1.at_) fd := c.def_ 1 (d := hfn1) rfl
  have d2 : ∃ fd, FunD K hfn2.name hfn2.qual hfn2.params hfn2.body hfn2.scope (hfn2.dvs K) (hfn2.kws K) (He.fAd K hfn2.at_) fd := c.def_ 2 (d := hfn2) rfl
  have d3 : ∃ fd, FunD K hfn3.name hfn3.qual hfn3.params hfn3.body hfn3.scope (hfn3.dvs K) (hfn3.kws K) (He.fAd K hfn3.at_) fd := c.def_ 3 (d := hfn3) rfl
  have d4 : ∃ fd, FunD K hfn4.name hfn4.qual hfn4.params hfn4.body hfn4.scope (hfn4.dvs K) (hfn4.kws K) (He.fAd K hfn4.at_) fd := c.def_ 4 (d := hfn4) rfl
  have d5 : ∃ fd, FunD K hfn5.name hfn5.qual hfn5.params hfn5.body hfn5.scope (hfn5.dvs K) (hfn5.kws K) (He.fAd K hfn5.at_) fd := c.def_ 5 (d := hfn5) rfl
  have d6 : ∃ fd, FunD K hfn6.name hfn6.qual hfn6.params hfn6.body hfn6.scope (hfn6.dvs K) (hfn6.kws K) (He.fAd K hfn6.at_) fd := c.def_ 6 (d := hfn6) rfl
  have d7 : ∃ fd, FunD K hfn7.name hfn7.qual hfn7.params hfn7.body hfn7.scope (hfn7.dvs K) (hfn7.kws K) (He.fAd K hfn7.at_) fd := c.def_ 7 (d := hfn7) rfl
  have d8 : ∃ fd, FunD K hfn8.name hfn8.qual hfn8.params hfn8.body hfn8.scope (hfn8.dvs K) (hfn8.kws K) (He.fAd K hfn8.at_) fd := c.def_ 8 (d := hfn8) rfl
  have d9 : ∃ fd, FunD K hfn9.name hfn9.qual hfn9.params hfn9.body hfn9.scope (hfn9.dvs K) (hfn9.kws K) (He.fAd K hfn9.at_) fd := c.def_ 9 (d := hfn9) rfl
  have d10 : ∃ fd, FunD K hfn10.name hfn10.qual hfn10.params hfn10.body hfn10.scope (hfn10.dvs K) (hfn10.kws K) (He.fAd K hfn10.at_) fd := c.def_ 10 (d := hfn10) rfl
  have d11 : ∃ fd, FunD K hfn11.name hfn11.qual hfn11.params hfn11.body hfn11.scope (hfn11.dvs K) (hfn11.kws K) (He.fAd K hfn11.at_) fd := c.def_ 11 (d := hfn11) rfl
  have d12 : ∃ fd, FunD K hfn12.name hfn12.qual hfn12.params hfn12.body hfn12.scope (hfn12.dvs K) (hfn12.kws K) (He.fAd K hfn12.at_) fd := c.def_ 12 (d := hfn12) rfl
  have d13 : ∃ fd, FunD K hfn13.name hfn13.qual hfn13.params hfn13.body hfn13.scope (hfn13.dvs K) (hfn13.kws K) (He.fAd K hfn13.at_) fd := c.def_ 13 (d := hfn13) rfl
  have d14 : ∃ fd, FunD K hfn14.name hfn14.qual hfn14.params hfn14.body hfn14.scope (hfn14.dvs K) (hfn14.kws K) (He.fAd K hfn14.at_) fd := c.def_ 14 (d := hfn14) rfl
  have d15 : ∃ fd, FunD K hfn15.name hfn15.qual hfn15.params hfn15.body hfn15.scope (hfn15.dvs K) (hfn15.kws K) (He.fAd K hfn15.at_) fd := c.def_ 15 (d := hfn15) rfl
  have d16 : ∃ fd, FunD K hfn16.name hfn16.qual hfn16.params hfn16.body hfn16.scope (hfn16.dvs K) (hfn16.kws K) (He.fAd K hfn16.at_) fd := c.def_ 16 (d := hfn16) rfl
  have d17 : ∃ fd, FunD K hfn17.name hfn17.qual hfn17.params hfn17.body hfn17.scope (hfn17.dvs K) (hfn17.kws K) (He.fAd K hfn17.at_) fd := c.def_ 17 (d := hfn17) rfl
  have d18 : ∃ fd, FunD K hfn18.name hfn18.qual hfn18.params hfn18.body hfn18.scope (hfn18.dvs K) (hfn18.kws K) (He.fAd K hfn18.at_) fd := c.def_ 18 (d := hfn18) rfl
  have d19 : ∃ fd, FunD K hfn19.name hfn19.qual hfn19.params hfn19.body hfn19.scope (hfn19.dvs K) (hfn19.kws K) (He.fAd K hfn19.at_) fd := c.def_ 19 (d := hfn19) rfl
  have d20 : ∃ fd, FunD K hfn20.name hfn20.qual hfn20.params hfn20.body hfn20.scope (hfn20.dvs K) (hfn20.kws K) (He.fAd K hfn20.at_) fd := c.def_ 20 (d := hfn20) rfl
  have d21 : ∃ fd, FunD K hfn21.name hfn21.qual hfn21.params hfn21.body hfn21.scope (hfn21.dvs K) (hfn21.kws K) (He.fAd K hfn21.at_) fd := c.def_ 21 (d := hfn21) rfl
  have d22 : ∃ fd, FunD K hfn22.name hfn22.qual hfn22.params hfn22.body hfn22.scope (hfn22.dvs K) (hfn22.kws K) (He.fAd K hfn22.at_) fd := c.def_ 22 (d := hfn22) rfl
  have d23 : ∃ fd, FunD K hfn23.name hfn23.qual hfn23.params hfn23.body hfn23.scope (hfn23.dvs K) (hfn23.kws K) (He.fAd K hfn23.at_) fd := c.def_ 23 (d := hfn23) rfl
  have d24 : ∃ fd, FunD K hfn24.name hfn24.qual hfn24.params hfn24.body hfn24.scope (hfn24.dvs K) (hfn24.kws K) (He.fAd K hfn24.at_) fd := c.def_ 24 (d := hfn24) rfl
  have d25 : ∃ fd, FunD K hfn25.name hfn25.qual hfn25.params hfn25.body hfn25.scope (hfn25.dvs K) (hfn25.kws K) (He.fAd K hfn25.at_) fd := c.def_ 25 (d := hfn25) rfl
  have d26 : ∃ fd, FunD K hfn26.name hfn26.qual hfn26.params hfn26.body hfn26.scope (hfn26.dvs K) (hfn26.kws K) (He.fAd K hfn26.at_) fd := c.def_ 26 (d := hfn26) rfl
  have d27 : ∃ fd, FunD K hfn27.name hfn27.qual hfn27.params hfn27.body hfn27.scope (hfn27.dvs K) (hfn27.kws K) (He.fAd K hfn27.at_) fd := c.def_ 27 (d := hfn27) rfl
  have d28 : ∃ fd, FunD K hfn28.name hfn28.qual hfn28.params hfn28.body hfn28.scope (hfn28.dvs K) (hfn28.kws K) (He.fAd K hfn28.at_) fd := c.def_ 28 (d := hfn28) rfl
  have d29 : ∃ fd, FunD K hfn29.name hfn29.qual hfn29.params hfn29.body hfn29.scope (hfn29.dvs K) (hfn29.kws K) (He.fAd K hfn29.at_) fd := c.def_ 29 (d := hfn29) rfl
  have d30 : ∃ fd, FunD K hfn30.name hfn30.qual hfn30.params hfn30.body hfn30.scope (hfn30.dvs K) (hfn30.kws K) (He.fAd K hfn30.at_) fd := c.def_ 30 (d := hfn30) rfl
  have d31 : ∃ fd, FunD K hfn31.name hfn31.qual hfn31.params hfn31.body hfn31.scope (hfn31.dvs K) (hfn31.kws K) (He.fAd K hfn31.at_) fd := c.def_ 31 (d := hfn31) rfl
  have d32 : ∃ fd, FunD K hfn32.name hfn32.qual hfn32.params hfn32.body hfn32.scope (hfn32.dvs K) (hfn32.kws K) (He.fAd K hfn32.at_) fd := c.def_ 32 (d := hfn32) rfl
  have d33 : ∃ fd, FunD K hfn33.name hfn33.qual hfn33.params hfn33.body hfn33.scope (hfn33.dvs K) (hfn33.kws K) (He.fAd K hfn33.at_) fd := c.def_ 33 (d := hfn33) rfl
  have d34 : ∃ fd, FunD K hfn34.name hfn34.qual hfn34.params hfn34.body hfn34.scope (hfn34.dvs K) (hfn34.kws K) (He.fAd K hfn34.at_) fd := c.def_ 34 (d := hfn34) rfl
  have d35 : ∃ fd, FunD K hfn35.name hfn35.qual hfn35.params hfn35.body hfn35.scope (hfn35.dvs K) (hfn35.kws K) (He.fAd K hfn35.at_) fd := c.def_ 35 (d := hfn35) rfl
  have d36 : ∃ fd, FunD K hfn36.name hfn36.qual hfn36.params hfn36.body hfn36.scope (hfn36.dvs K) (hfn36.kws K) (He.fAd K hfn36.at_) fd := c.def_ 36 (d := hfn36) rfl
  have d37 : ∃ fd, FunD K hfn37.name hfn37.qual hfn37.params hfn37.body hfn37.scope (hfn37.dvs K) (hfn37.kws K) (He.fAd K hfn37.at_) fd := c.def_ 37 (d := hfn37) rfl
  have d38 : ∃ fd, FunD K hfn38.name hfn38.qual hfn38.params hfn38.body hfn38.scope (hfn38.dvs K) (hfn38.kws K) (He.fAd K hfn38.at_) fd := c.def_ 38 (d := hfn38) rfl
  have d39 : ∃ fd, FunD K hfn39.name hfn39.qual hfn39.params hfn39.body hfn39.scope (hfn39.dvs K) (hfn39.kws K) (He.fAd K hfn39.at_) fd := c.def_ 39 (d := hfn39) rfl
  have d40 : ∃ fd, FunD K hfn40.name hfn40.qual hfn40.params hfn40.body hfn40.scope (hfn40.dvs K) (hfn40.kws K) (He.fAd K hfn40.at_) fd := c.def_ 40 (d := hfn40) rfl
  have d41 : ∃ fd, FunD K hfn41.name hfn41.qual hfn41.params hfn41.body hfn41.scope (hfn41.dvs K) (hfn41.kws K) (He.fAd K hfn41.at_) fd := c.def_ 41 (d := hfn41) rfl
  have d42 : ∃ fd, FunD K hfn42.name hfn42.qual hfn42.params hfn42.body hfn42.scope (hfn42.dvs K) (hfn42.kws K) (He.fAd K hfn42.at_) fd := c.def_ 42 (d := hfn42) rfl
  have d43 : ∃ fd, FunD K hfn43.name hfn43.qual hfn43.params hfn43.body hfn43.scope (hfn43.dvs K) (hfn43.kws K) (He.fAd K hfn43.at_) fd := c.def_ 43 (d := hfn43) rfl
  have d44 : ∃ fd, FunD K hfn44.name hfn44.qual hfn44.params hfn44.body hfn44.scope (hfn44.dvs K) (hfn44.kws K) (He.fAd K hfn44.at_) fd := c.def_ 44 (d := hfn44) rfl
  have d45 : ∃ fd, FunD K hfn45.name hfn45.qual hfn45.params hfn45.body hfn45.scope (hfn45.dvs K) (hfn45.kws K) (He.fAd K hfn45.at_) fd := c.def_ 45 (d := hfn45) rfl
  obtain ⟨fd0, d0⟩ := d0
  obtain ⟨fd1, d1⟩ := d1
  obtain ⟨fd2, d2⟩ := d2
  obtain ⟨fd3, d3⟩ := d3
  obtain ⟨fd4, d4⟩ := d4
  obtain ⟨fd5, d5⟩ := d5
  obtain ⟨fd6, d6⟩ := d6
  obtain ⟨fd7, d7⟩ := d7
  obtain ⟨fd8, d8⟩ := d8
  obtain ⟨fd9, d9⟩ := d9
  obtain ⟨fd10, d10⟩ := d10
  obtain ⟨fd11, d11⟩ := d11
  obtain ⟨fd12, d12⟩ := d12
  obtain ⟨fd13, d13⟩ := d13
  obtain ⟨fd14, d14⟩ := d14
  obtain ⟨fd15, d15⟩ := d15
  obtain ⟨fd16, d16⟩ := d16
  obtain ⟨fd17, d17⟩ := d17
  obtain ⟨fd18, d18⟩ := d18
  obtain ⟨fd19, d19⟩ := d19
  obtain ⟨fd20, d20⟩ := d20
  obtain ⟨fd21, d21⟩ := d21
  obtain ⟨fd22, d22⟩ := d22
  obtain ⟨fd23, d23⟩ := d23
  obtain ⟨fd24, d24⟩ := d24
  obtain ⟨fd25, d25⟩ := d25
  obtain ⟨fd26, d26⟩ := d26
  obtain ⟨fd27, d27⟩ := d27
  obtain ⟨fd28, d28⟩ := d28
  obtain ⟨fd29, d29⟩ := d29
  obtain ⟨fd30, d30⟩ := d30
  obtain ⟨fd31, d31⟩ := d31
  obtain ⟨fd32, d32⟩ := d32
  obtain ⟨fd33, d33⟩ := d33
  obtain ⟨fd34, d34⟩ := d34
  obtain ⟨fd35, d35⟩ := d35
  obtain ⟨fd36, d36⟩ := d36
  obtain ⟨fd37, d37⟩ := d37
  obtain ⟨fd38, d38⟩ := d38
  obtain ⟨fd39, d39⟩ := d39
  obtain ⟨fd40, d40⟩ := d40
  obtain ⟨fd41, d41⟩ := d41
  obtain ⟨fd42, d42⟩ := d42
  obtain ⟨fd43, d43⟩ := d43
  obtain ⟨fd44, d44⟩ := d44
  obtain ⟨fd45, d45⟩ := d45
  exact all_mk (l := PySem.Challenge.rw_pilerecall_k01_bad_machines) X G hf
    (glo_na (c.fact 0 rfl))
    (fun_of d0)
    (glo_na (c.fact 1 rfl))
    (fun_of d1)
    (glo_na (c.fact 2 rfl))
    (fun_of d2)
    (glo_na (c.fact 3 rfl))
    (fun_of d3)
    (glo_na (c.fact 4 rfl))
    (fun_of d4)
    (glo_na (c.fact 5 rfl))
    (fun_of d5)
    (glo_na (c.fact 6 rfl))
    (fun_of d6)
    (glo_na (c.fact 7 rfl))
    (fun_of d7)
    (glo_na (c.fact 8 rfl))
    (fun_of d8)
    (glo_na (c.fact 9 rfl))
    (fun_of d9)
    (glo_na (c.fact 10 rfl))
    (fun_of d10)
    (glo_na (c.fact 11 rfl))
    (fun_of d11)
    (glo_na (c.fact 12 rfl))
    (fun_of d12)
    (glo_na (c.fact 13 rfl))
    (fun_of d13)
    (glo_na (c.fact 14 rfl))
    (fun_of d14)
    (glo_na (c.fact 15 rfl))
    (fun_of d15)
    (glo_na (c.fact 16 rfl))
    (fun_of d16)
    (glo_na (c.fact 17 rfl))
    (fun_of d17)
    (glo_na (c.fact 18 rfl))
    (fun_of d18)
    (glo_na (c.fact 19 rfl))
    (fun_of d19)
    (glo_na (c.fact 20 rfl))
    (fun_of d20)
    (glo_na (c.fact 21 rfl))
    (fun_of d21)
    (glo_na (c.fact 22 rfl))
    (fun_of d22)
    (glo_na (c.fact 23 rfl))
    (fun_of d23)
    (glo_na (c.fact 24 rfl))
    (fun_of d24)
    (glo_na (c.fact 25 rfl))
    (fun_of d25)
    (glo_na (c.fact 26 rfl))
    (fun_of d26)
    (glo_na (c.fact 27 rfl))
    (fun_of d27)
    (glo_na (c.fact 28 rfl))
    (fun_of d28)
    (glo_na (c.fact 29 rfl))
    (fun_of d29)
    (glo_na (c.fact 30 rfl))
    (fun_of d30)
    (glo_na (c.fact 31 rfl))
    (fun_of d31)
    (glo_na (c.fact 32 rfl))
    (fun_of d32)
    (glo_na (c.fact 33 rfl))
    (fun_of d33)
    (glo_na (c.fact 34 rfl))
    (fun_of d34)
    (glo_na (c.fact 35 rfl))
    (fun_of d35)
    (glo_na (c.fact 36 rfl))
    (fun_of d36)
    (glo_na (c.fact 37 rfl))
    (fun_of d37)
    (glo_na (c.fact 38 rfl))
    (fun_of d38)
    (glo_na (c.fact 39 rfl))
    (fun_of d39)
    (glo_na (c.fact 40 rfl))
    (fun_of d40)
    (glo_na (c.fact 41 rfl))
    (fun_of d41)
    (glo_na (c.fact 42 rfl))
    (fun_of d42)
    (glo_na (c.fact 43 rfl))
    (fun_of d43)
    (glo_na (c.fact 44 rfl))
    (of_decide_eq_true (b 0 rfl))
    (of_decide_eq_true (b 1 rfl))
    (of_decide_eq_true (b 2 rfl))
    (of_decide_eq_true (b 3 rfl))
    (of_decide_eq_true (b 4 rfl))
    (of_decide_eq_true (b 5 rfl))
    (of_decide_eq_true (b 6 rfl))
    (of_decide_eq_true (b 7 rfl))
    (of_decide_eq_true (b 8 rfl))
    (of_decide_eq_true (b 9 rfl))
    (of_decide_eq_true (b 10 rfl))
    (of_decide_eq_true (b 11 rfl))
    (of_decide_eq_true (b 12 rfl))
    (of_decide_eq_true (b 13 rfl))
    (of_decide_eq_true (b 14 rfl))
    d44
    (tupA_ok (b 15 rfl))
    (glo_na (c.fact 45 rfl))
    (tupA_ok (b 16 rfl))
    (He.int_ok X G (c.fact 46 rfl))
    (He.int_ok X G (c.fact 47 rfl))
    (He.eqO_ok (c.fact 48 rfl))
    (He.eqO_ok (c.fact 49 rfl))
    (He.eqO_ok (c.fact 50 rfl))
    (He.eqO_ok (c.fact 51 rfl))
    (He.eqO_ok (c.fact 52 rfl))
    (He.eqO_ok (c.fact 53 rfl))
    (He.eqO_ok (c.fact 54 rfl))
    (He.eqO_ok (c.fact 55 rfl))
    (He.eqO_ok (c.fact 56 rfl))
    (He.eqO_ok (c.fact 57 rfl))
    (He.eqO_ok (c.fact 58 rfl))
    (He.eqO_ok (c.fact 59 rfl))
    (He.eqO_ok (c.fact 60 rfl))
    (glo_na (c.fact 61 rfl))
    (glo_na (c.fact 62 rfl))
    (glo_na (c.fact 63 rfl))
    (glo_na (c.fact 64 rfl))
    (glo_na (c.fact 65 rfl))
    (glo_na (c.fact 66 rfl))
    (glo_na (c.fact 67 rfl))
    (glo_na (c.fact 68 rfl))
    (glo_na (c.fact 69 rfl))
    (glo_na (c.fact 70 rfl))
    (glo_na (c.fact 71 rfl))
    (glo_na (c.fact 72 rfl))
    (glo_na (c.fact 73 rfl))
    (glo_na (c.fact 74 rfl))
    (glo_na (c.fact 75 rfl))
    (glo_na (c.fact 76 rfl))
    (glo_na (c.fact 77 rfl))
    (glo_na (c.fact 78 rfl))
    (glo_na (c.fact 79 rfl))
    (glo_na (c.fact 80 rfl))
    (fun_of d45)
    (of_decide_eq_true (b 17 rfl))
    (of_decide_eq_true (b 18 rfl))
    (of_decide_eq_true (b 19 rfl))
    (of_decide_eq_true (b 20 rfl))
    (of_decide_eq_true (b 21 rfl))
    (of_decide_eq_true (b 22 rfl))
    (of_decide_eq_true (b 23 rfl))
    (of_decide_eq_true (b 24 rfl))
    (of_decide_eq_true (b 25 rfl))
    (of_decide_eq_true (b 26 rfl))
    (of_decide_eq_true (b 27 rfl))
    (of_decide_eq_true (b 28 rfl))
    (of_decide_eq_true (b 29 rfl))
    (of_decide_eq_true (b 30 rfl))
    (of_decide_eq_true (b 31 rfl))
    (of_decide_eq_true (b 32 rfl))
    (of_decide_eq_true (b 33 rfl))
    (of_decide_eq_true (b 34 rfl))
    (of_decide_eq_true (b 35 rfl))
    (of_decide_eq_true (b 36 rfl))
    (of_decide_eq_true (b 37 rfl))
    (of_decide_eq_true (b 38 rfl))
    (of_decide_eq_true (b 39 rfl))
    (of_decide_eq_true (b 40 rfl))
    (of_decide_eq_true (b 41 rfl))
    (of_decide_eq_true (b 42 rfl))
    (of_decide_eq_true (b 43 rfl))
    (of_decide_eq_true (b 44 rfl))
    (of_decide_eq_true (b 45 rfl))
    (of_decide_eq_true (b 46 rfl))
    (of_decide_eq_true (b 47 rfl))
    (of_decide_eq_true (b 48 rfl))
    (of_decide_eq_true (b 49 rfl))
    (of_decide_eq_true (b 50 rfl))
    (of_decide_eq_true (b 51 rfl))
    (of_decide_eq_true (b 52 rfl))
    (of_decide_eq_true (b 53 rfl))
    (of_decide_eq_true (b 54 rfl))
    (of_decide_eq_true (b 55 rfl))
    (of_decide_eq_true (b 56 rfl))
    (of_decide_eq_true (b 57 rfl))
    (of_decide_eq_true (b 58 rfl))
    (of_decide_eq_true (b 59 rfl))
    (of_decide_eq_true (b 60 rfl))
    (of_decide_eq_true (b 61 rfl))
    (of_decide_eq_true (b 62 rfl))
    (of_decide_eq_true (b 63 rfl))
    (of_decide_eq_true (b 64 rfl))
    (of_decide_eq_true (b 65 rfl))
    (of_decide_eq_true (b 66 rfl))
    (of_decide_eq_true (b 67 rfl))
    (of_decide_eq_true (b 68 rfl))
    (of_decide_eq_true (b 69 rfl))
    (of_decide_eq_true (b 70 rfl))
    (of_decide_eq_true (b 71 rfl))
    (of_decide_eq_true (b 72 rfl))
    (of_decide_eq_true (b 73 rfl))
    (of_decide_eq_true (b 74 rfl))
    (of_decide_eq_true (b 75 rfl))
    (of_decide_eq_true (b 76 rfl))
    (of_decide_eq_true (b 77 rfl))
    (of_decide_eq_true (b 78 rfl))
    (of_decide_eq_true (b 79 rfl))
    (of_decide_eq_true (b 80 rfl))
    (of_decide_eq_true (b 81 rfl))
    (of_decide_eq_true (b 82 rfl))
    (of_decide_eq_true (b 83 rfl))
    (of_decide_eq_true (b 84 rfl))
    (of_decide_eq_true (b 85 rfl))
    (of_decide_eq_true (b 86 rfl))
    (of_decide_eq_true (b 87 rfl))
    (of_decide_eq_true (b 88 rfl))
    (of_decide_eq_true (b 89 rfl))
    (of_decide_eq_true (b 90 rfl))
    (oexB_ok (b 91 rfl))
end Mk
open PySem PySem.W PySem.Calls PyProof.Rows
theorem PySem.Challenge.cw_pilerecall_k01_bad_machines_holds : PySem.Challenge.rw_pilerecall_k01_bad_machines.Holds := by
  w_on; o_law
  refine HandSHeadRun.head_any (r := OpenLaw.row PySem.Challenge.rw_pilerecall_k01_bad_machines) (q := view (OpenLaw.row PySem.Challenge.rw_pilerecall_k01_bad_machines).prog [81]) (H := Mk.hk) (ob := Mk.hob) (M := 9000) (loose := Mk.hnm) (d := HandSHeadRun.topDef (OpenLaw.row PySem.Challenge.rw_pilerecall_k01_bad_machines).prog 81) (kwd := []) Mk.hob_eq
    (by kernel_rfl) (fun s => by kernel_rfl) Mk.hrun (by kernel_rfl) (by kernel_rfl) (by kernel_rfl) (by rfl) (by first | assumption | decide +kernel) (by decide +kernel) ⟨rfl, rfl, rfl, rfl, rfl, by decide +kernel⟩ ?hw ?hc
  case hw => w_witness2
  case hc =>
    refine L2.walk_ofE (l := PySem.Challenge.rw_pilerecall_k01_bad_machines) (n := 63) (k := 10) (x := "script") (CX := L2.CX0) rfl (by decide) (by kernel_rfl) ⟨rfl, by decide, by decide⟩ ?F (fun _ _ _ _ z => z)
    intro w mg fa h Y G hmg0
    obtain ⟨K, KX, c⟩ := Y
    have hmg : mg ("law" : PySem.Str) = some (.ref fa) := by
      have e : (HandSHeadRun.topDef (OpenLaw.row PySem.Challenge.rw_pilerecall_k01_bad_machines).prog 81).name = ("law" : PySem.Str) := by kernel_rfl
      rw [← e]
      exact hmg0
    obtain ⟨fd, hb, hF⟩ := Mk.hfacts (w := w) KX G hmg c
    exact ⟨K, fd, Mk.spLaw K, KX, hb, fun H a ns hl _ hS => ⟨a, ns, rfl, hS, fun _ => rfl⟩, hF⟩

