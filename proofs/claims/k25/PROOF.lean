import PyProof.Rows.All
import Wide.All
import OpenK.AllK
import Wide.FinOn
import HandS.ForMost
import HandS.Wide
import HandS.EndBits
import HandS.IsInst
import HandS.Conv
import HandS.Defaults
import HandS.Codes
import HandS.ForExc
import HandS.ExcInit
import HandS.HotCalls
import HandS.ExcInitHot
import HandS.ExcField
import KE.KExcIs
import HandS.TupAny
import PySem.Challenge.RW_pilerecall_k25_pieces
set_option Elab.async false
set_option maxRecDepth 100000
set_option maxHeartbeats 4000000
namespace Pk
open PySem L2

/-! deep data in the heap -/
theorem Same.tup {K : PySem.W.Frag} {H H' : Hp} {a : Addr} {xs : List V} (e : Same H H') (h : SqT K H a xs) : SqT K H' a xs := by
  rcases h with (h | ⟨o, h⟩) | h
  · exact .inl (.inl (e _ _ h))
  · exact .inl (.inr ⟨o, e _ _ h⟩)
  · exact .inr h
mutual
theorem dp_mono {K : PySem.W.Frag} {H H' : Hp} (e : Same H H') : ∀ (d : PyData) (v : V), Dp K H v d → Dp K H' v d
  | .none, _, h => by cases h; exact .non
  | .bool _, _, h => by cases h; exact .bl _
  | .int _, _, h => by cases h; exact .int _
  | .str _, _, h => by cases h; exact .str _
  | .list ds, _, h => by
    cases h with
    | lst hs ha => exact .lst (e.seq hs) (dpa_mono e ds _ ha)
  | .tuple ds, _, h => by
    cases h with
    | tup hs ha => exact .tup (Same.tup e hs) (dpa_mono e ds _ ha)
  | .dict _, _, h => by cases h
theorem dpa_mono {K : PySem.W.Frag} {H H' : Hp} (e : Same H H') : ∀ (ds : List PyData) (vs : List V), DpAll K H vs ds → DpAll K H' vs ds
  | [], _, h => by cases h; exact .nil
  | d :: ds, _, h => by
    cases h with
    | cons h1 h2 => exact .cons (dp_mono e d _ h1) (dpa_mono e ds _ h2)
end
theorem dpa_len {K : PySem.W.Frag} {H : Hp} : ∀ {ds : List PyData} {vs : List V}, DpAll K H vs ds → vs.length = ds.length
  | [], _, h => by cases h; rfl
  | _ :: _, _, h => by
    cases h with
    | cons _ h2 => rw [List.length_cons, List.length_cons, dpa_len h2]
theorem dpa_get {K : PySem.W.Frag} {H : Hp} : ∀ {ds : List PyData} {vs : List V} {i : Nat} {v : V}, DpAll K H vs ds → vs[i]? = some v → ∃ d, ds[i]? = some d ∧ Dp K H v d
  | [], _, i, v, h, e => by cases h; simp at e
  | d :: ds, _, 0, v, h, e => by
    cases h with
    | cons h1 h2 => simp at e; subst e; exact ⟨d, rfl, h1⟩
  | d :: ds, _, i + 1, v, h, e => by
    cases h with
    | cons h1 h2 =>
      obtain ⟨x, e1, e2⟩ := dpa_get (i := i) (v := v) h2 (by simpa using e)
      exact ⟨x, by simpa using e1, e2⟩
theorem dpa_append {K : PySem.W.Frag} {H : Hp} : ∀ {ds es : List PyData} {vs us : List V}, DpAll K H vs ds → DpAll K H us es → DpAll K H (vs ++ us) (ds ++ es)
  | [], _, _, _, h, g => by cases h; exact g
  | _ :: _, _, _, _, h, g => by
    cases h with
    | cons h1 h2 => exact .cons h1 (dpa_append h2 g)
theorem same_new {H : Hp} {p : Addr} {o : HO} (h : H p = none) : Same H (upd H p o) := fun b u e => by
  rw [upd_ne (ne_of_none e h)]
  exact e
/-- what H0 did not know may change -/
theorem same_mut {H0 H : Hp} {p : Addr} {o : HO} (e : Same H0 H) (h : H0 p = none) : Same H0 (upd H p o) := fun b u q => by
  rw [upd_ne (ne_of_none q h)]
  exact e b u q
/-- the heap without what stands at q -/
def hide (q : Addr) (H : Hp) : Hp := fun b => if b = q then none else H b
theorem hide_ne {q b : Addr} {H : Hp} (h : b ≠ q) : hide q H b = H b := if_neg h
theorem hide_same {q : Addr} {H : Hp} : hide q H q = none := if_pos rfl
theorem hide_le {q : Addr} {H : Hp} : Same (hide q H) H := fun b o e => by
  by_cases h : b = q
  · rw [h, hide_same] at e
    cases e
  · rw [hide_ne h] at e
    exact e
theorem hide_upd {q : Addr} {H : Hp} {o : HO} : hide q (upd H q o) = hide q H := by
  funext b
  by_cases h : b = q
  · rw [h, hide_same, hide_same]
  · rw [hide_ne h, hide_ne h, upd_ne h]
theorem hide_new {q r : Addr} {H : Hp} {o : HO} (h : r ≠ q) : hide q (upd H r o) = upd (hide q H) r o := by
  funext b
  by_cases e : b = q
  · rw [e, hide_same, upd_ne h.symm, hide_same]
  · rw [hide_ne e]
    by_cases e2 : b = r
    · rw [e2, upd_same, upd_same]
    · rw [upd_ne e2, upd_ne e2, hide_ne e]
theorem hide_base {q : Addr} {H0 H : Hp} (e : Same H0 H) (h : H0 q = none) : Same H0 (hide q H) := fun b o z => by
  rw [hide_ne (ne_of_none z h)]
  exact e b o z
theorem hide_mono {q : Addr} {H H' : Hp} (e : Same H H') : Same (hide q H) (hide q H') := fun b o z => by
  by_cases h : b = q
  · rw [h, hide_same] at z
    cases z
  · rw [hide_ne h] at z ⊢
    exact e b o z
theorem hide_none {q r : Addr} {H : Hp} (h : H r = none) : hide q H r = none := by
  by_cases e : r = q
  · rw [e, hide_same]
  · rw [hide_ne e, h]
/-- of H' what H did not know -/
def newOnly (H H' : Hp) : Hp := fun b => match H b with
  | none => H' b
  | some _ => none
theorem newOnly_at {H H' : Hp} {a : Addr} {o : HO} (h : H a = none) (e : H' a = some o) : newOnly H H' a = some o := by
  unfold newOnly
  rw [h]
  exact e
theorem newOnly_hide {H H' : Hp} {q : Addr} {o : HO} (h : H q = some o) : Same (newOnly H H') (hide q H') := fun b u e => by
  unfold newOnly at e
  cases z : H b with
  | none =>
    rw [z] at e
    rw [hide_ne (ne_of_none h z).symm]
    exact e
  | some y =>
    rw [z] at e
    cases e
theorem mapInt {ns : List Int} {i : Nat} {v : V} (h : (ns.map V.int)[i]? = some v) : ∃ z, ns[i]? = some z ∧ v = V.int z := by
  rw [List.getElem?_map] at h
  cases e : ns[i]? with
  | none => rw [e] at h; cases h
  | some z => rw [e] at h; exact ⟨z, rfl, (Option.some.inj h).symm⟩

/-- the built-in names that are used -/
structure TB (mg : Str → Option Value) : Prop where
  isi : mg "isinstance" = none
  int : mg "int" = none
  bool : mg "bool" = none
  str : mg "str" = none
  tuple : mg "tuple" = none
  list : mg "list" = none
  len : mg "len" = none
  range : mg "range" = none
  sum : mg "sum" = none
  abs : mg "abs" = none

theorem lt_pow_natAbs {i : Int} {n : Nat} (h : i.natAbs < 2 ^ n) : -(2 ^ n : Int) < i ∧ i < (2 ^ n : Int) := by
  have e : ((2 ^ n : Nat) : Int) = (2 : Int) ^ n := by simp
  omega
end Pk
set_option Elab.async false
set_option maxRecDepth 100000
set_option maxHeartbeats 4000000
namespace Pk
open PySem L2
def top (i : Nat) : Stmt := PySem.Challenge.pw_pilerecall_k25_pieces.main.body.getD i (.Pass ⟨0, 0, 0, 0⟩)
abbrev sWhole : Stmt := top 26
abbrev sSame : Stmt := top 27
abbrev sCell : Stmt := top 28
abbrev sDigits : Stmt := top 29

section
variable {P : Program} {w : World} {K : PySem.W.Frag} {mg : Str → Option Value} {base : Heap}
/-! _law_whole -/
def spWhole : Sp := fun vs H Q _ => ∃ n : Int, vs = [.int n] ∧ Q (.bl true) H
theorem scWhole : FnScope ["value"] ["value"] (defScope sWhole) := ⟨rfl, rfl, rfl, by decide +kernel, rfl, by decide +kernel, by decide +kernel⟩
theorem ok_whole {f : Addr} {fd : FuncData} (F : Fun K "_law_whole" "_law_whole" sWhole f fd) (T : TB mg) : FnOk P w K mg base CX0 1 f fd ["value"] spWhole := by
  refine F.ok scWhole (fun vs H Q E h => ?_) (fun cdv A outer s H vs Q E hr h => ?_)
  · obtain ⟨n, rfl, _⟩ := h
    rfl
  · obtain ⟨n, rfl, k⟩ := h
    refine ⟨_, pss_one (ps_ret (pe_and (pe_callB call_isi (by rfl) T.isi (by decide +kernel) (pa_cons (pv 0) (pa_cons (pe_bltn (v := .ty "int") (by rfl) T.int PyProof.Rows.Boot.int rfl) pa_nil)))
      (pe_one (pe_not (pe_callB call_isi (by rfl) T.isi (by decide +kernel) (pa_cons (pv 0) (pa_cons (pe_bltn (v := .ty "bool") (by rfl) T.bool PyProof.Rows.Boot.bool rfl) pa_nil))))))), ?_⟩
    refine ⟨_, rfl, _, _, _, _, true, rfl, .ty _, .base (.int _), kit_ty (by decide +kernel), _, rfl, ?_⟩
    refine iteT ?_
    refine ⟨_, rfl, _, _, _, _, false, rfl, .ty _, .base (.int _), kit_ty (by decide +kernel), _, rfl, k⟩
/-! _law_same -/
def depthOk : Nat → PyData → Prop
  | _, .none => True
  | _, .bool _ => True
  | _, .int _ => True
  | _, .str _ => True
  | 0, .tuple _ => False
  | n + 1, .tuple ds => ds.length ≤ 100000 ∧ ∀ d ∈ ds, depthOk n d
  | _, .list _ => False
  | _, .dict _ => False
def spSame (K : PySem.W.Frag) (n : Nat) : Sp := fun vs H Q _ => ∃ (x y : V) (d : PyData), vs = [x, y] ∧ Dp K H x d ∧ Dp K H y d ∧ depthOk n d ∧ Q (.bl true) H
theorem scSame : FnScope ["told", "due", "k"] ["told", "due"] (defScope sSame) := ⟨rfl, rfl, rfl, by decide +kernel, rfl, by decide +kernel, by decide +kernel⟩
theorem tyx_tup {H : Hp} {a : Addr} {xs : List V} (h : SqT K H a xs) : TyX K H (.ref a) (.type "tuple") := by
  rcases h with (h | ⟨o, h⟩) | ⟨o, its, n, h, hc, _⟩
  · exact .base (.tup h)
  · exact .fTuple h
  · exact .kTuple h hc
theorem depthOk_list {n : Nat} {ds : List PyData} (h : depthOk n (.list ds)) : False := by cases n <;> exact h
theorem depthOk_dict {n : Nat} {ds : List (PyData × PyData)} (h : depthOk n (.dict ds)) : False := by cases n <;> exact h
def ifThen (s : Stmt) : List Stmt := match s with
  | .If _ b _ _ => b
  | _ => []
theorem same_of {f fW : Addr} {fd fdW : FuncData} (F : Fun K "_law_same" "_law_same" sSame f fd) (T : TB mg) (GW : FnOk P w K mg base CX0 1 fW fdW ["value"] spWhole) (kW : PySem.W.keepIn K (.ref fW) = true) (bW : Binds K fdW ["value"] []) (gW : mg "_law_whole" = some (.ref fW)) (n : Nat)
    (loop : ∀ (cdv : Value) (A : Around) (outer : List Env) (s : Shared) (H : Hp) (E : XK), Room (n + 1) (A.deeper (PyProof.Rows.envOfC "_law_same" (defScope sSame) s.heap.objs.size f cdv)) →
      ∃ tb : TS, PSs (cxOf CX0 P w K mg base ["told", "due", "k"] "_law_same" (defScope sSame) f cdv A outer s H E).nox (ifThen ((defBody sSame).getD 0 (.Pass ⟨0, 0, 0, 0⟩))) tb ∧
        ∀ (ds : List PyData) (D : Ends), depthOk n (.tuple ds) → ∀ (x y : V), Dp K H x (.tuple ds) → Dp K H y (.tuple ds) → D.rt (.bl true) H → tb D [some x, some y, none] H) :
    FnOk P w K mg base CX0 (n + 2) f fd ["told", "due"] (spSame K n) := by
  refine F.ok scSame (fun vs H Q E h => ?_) (fun cdv A outer s H vs Q E hr h => ?_)
  · obtain ⟨x, y, d, rfl, _⟩ := h
    rfl
  · obtain ⟨x, y, d, rfl, hx, hy, hd, k⟩ := h
    have hr1 : Room 1 _ := hr.mono (by omega)
    obtain ⟨tb, hb, hbt⟩ := loop cdv A outer s H E hr
    refine ⟨_, pss_cons (ps_if (pt_val (pe_callB call_isi (by rfl) T.isi (by decide +kernel) (pa_cons (pv 1) (pa_cons (pe_bltn (v := .ty "tuple") (by rfl) T.tuple PyProof.Rows.Boot.tuple rfl) pa_nil)))) hb pss_nil)
      (pss_cons (ps_if (pt_cmp (pc_isN (pv 1))) (pss_one (ps_ret (pe_cmp (pc_isN (pv 0)) rfl))) pss_nil)
      (pss_cons (ps_if (pt_val (pe_callB call_isi (by rfl) T.isi (by decide +kernel) (pa_cons (pv 1) (pa_cons (pe_bltn (v := .ty "bool") (by rfl) T.bool PyProof.Rows.Boot.bool rfl) pa_nil))))
        (pss_one (ps_ret (pe_and (pe_callB call_isi (by rfl) T.isi (by decide +kernel) (pa_cons (pv 0) (pa_cons (pe_bltn (v := .ty "bool") (by rfl) T.bool PyProof.Rows.Boot.bool rfl) pa_nil))) (pe_one (pe_cmpR op_eq (pv 0) (pv 1) (nomark _)))))) pss_nil)
      (pss_cons (ps_if (pt_val (pe_callB call_isi (by rfl) T.isi (by decide +kernel) (pa_cons (pv 1) (pa_cons (pe_bltn (v := .ty "int") (by rfl) T.int PyProof.Rows.Boot.int rfl) pa_nil))))
        (pss_one (ps_ret (pe_and (pe_call GW hr1 (by rfl) gW kW bW .nil pass0 (pa_cons (pv 0) pa_nil)) (pe_one (pe_cmpR op_eq (pv 0) (pv 1) (nomark _)))))) pss_nil)
      (pss_one (ps_ret (pe_and (pe_callB call_isi (by rfl) T.isi (by decide +kernel) (pa_cons (pv 0) (pa_cons (pe_bltn (v := .ty "str") (by rfl) T.str PyProof.Rows.Boot.str rfl) pa_nil))) (pe_one (pe_cmpR op_eq (pv 0) (pv 1) (nomark _))))))))), ?_⟩
    cases d with
    | none =>
      cases hx
      cases hy
      refine ⟨_, rfl, _, _, _, _, false, rfl, .ty _, .base .non, kit_ty (by decide +kernel), _, rfl, ?_⟩
      refine iteF ?_
      refine ⟨_, rfl, _, rfl, ?_⟩
      refine iteT ?_
      exact ⟨_, rfl, k⟩
    | bool b =>
      cases hx
      cases hy
      refine ⟨_, rfl, _, _, _, _, false, rfl, .ty _, .base (.bl _), kit_ty (by decide +kernel), _, rfl, ?_⟩
      refine iteF ?_
      refine ⟨_, rfl, _, rfl, ?_⟩
      refine iteF ?_
      refine ⟨_, rfl, _, _, _, _, true, rfl, .ty _, .base (.bl _), kit_ty (by decide +kernel), _, rfl, ?_⟩
      refine iteT ?_
      refine ⟨_, rfl, _, _, _, _, true, rfl, .ty _, .base (.bl _), kit_ty (by decide +kernel), _, rfl, ?_⟩
      refine iteT ?_
      refine ⟨_, rfl, _, rfl, rfl, ?_⟩
      rw [decide_eq_true rfl]
      exact k
    | int i =>
      cases hx
      cases hy
      refine ⟨_, rfl, _, _, _, _, false, rfl, .ty _, .base (.int _), kit_ty (by decide +kernel), _, rfl, ?_⟩
      refine iteF ?_
      refine ⟨_, rfl, _, rfl, ?_⟩
      refine iteF ?_
      refine ⟨_, rfl, _, _, _, _, false, rfl, .ty _, .base (.int _), kit_ty (by decide +kernel), _, rfl, ?_⟩
      refine iteF ?_
      refine ⟨_, rfl, _, _, _, _, true, rfl, .ty _, .base (.int _), kit_ty (by decide +kernel), _, rfl, ?_⟩
      refine iteT ?_
      refine ⟨_, rfl, _, rfl, _, rfl, ?_⟩
      refine iteT ?_
      refine ⟨_, rfl, _, rfl, rfl, ?_⟩
      rw [decide_eq_true rfl]
      exact k
    | str z =>
      cases hx
      cases hy
      refine ⟨_, rfl, _, _, _, _, false, rfl, .ty _, .base (.str _), kit_ty (by decide +kernel), _, rfl, ?_⟩
      refine iteF ?_
      refine ⟨_, rfl, _, rfl, ?_⟩
      refine iteF ?_
      refine ⟨_, rfl, _, _, _, _, false, rfl, .ty _, .base (.str _), kit_ty (by decide +kernel), _, rfl, ?_⟩
      refine iteF ?_
      refine ⟨_, rfl, _, _, _, _, false, rfl, .ty _, .base (.str _), kit_ty (by decide +kernel), _, rfl, ?_⟩
      refine iteF ?_
      refine ⟨_, rfl, _, _, _, _, true, rfl, .ty _, .base (.str _), kit_ty (by decide +kernel), _, rfl, ?_⟩
      refine iteT ?_
      refine ⟨_, rfl, _, rfl, rfl, ?_⟩
      rw [decide_eq_true rfl]
      exact k
    | list ds => exact (depthOk_list hd).elim
    | tuple ds =>
      have hx' := hx
      have hy' := hy
      cases hx with
      | tup hsx hax =>
        cases hy with
        | tup hsy hay =>
          refine ⟨_, rfl, _, _, _, _, true, rfl, .ty _, tyx_tup hsy, kit_ty (by decide +kernel), _, rfl, ?_⟩
          refine iteT ?_
          exact hbt ds _ hd _ _ hx' hy' k
    | dict ds => exact (depthOk_dict hd).elim
theorem ok_same {f fW : Addr} {fd fdW : FuncData} (F : Fun K "_law_same" "_law_same" sSame f fd) (T : TB mg) (FW : Fun K "_law_whole" "_law_whole" sWhole fW fdW) (bW : Binds K fdW ["value"] []) (gW : mg "_law_whole" = some (.ref fW))
    (bS : Binds K fd ["told", "due"] []) (gS : mg "_law_same" = some (.ref f)) : ∀ n : Nat, FnOk P w K mg base CX0 (n + 2) f fd ["told", "due"] (spSame K n) := by
  have GW : FnOk P w K mg base CX0 1 fW fdW ["value"] spWhole := ok_whole FW T
  intro n
  induction n with
  | zero => exact same_of F T GW FW.kp bW gW 0 fun cdv A outer s H E hr => ⟨_, pss_never, fun ds D hd => hd.elim⟩
  | succ n ih =>
    refine same_of F T GW FW.kp bW gW (n + 1) fun cdv A outer s H E hr => ?_
    refine ⟨_, pss_cons (ps_if (PW.pt (pw_or (pt_not (pt_val (pe_callB call_isi (by rfl) T.isi (by decide +kernel) (pa_cons (pv 0) (pa_cons (pe_bltn (v := .ty "tuple") (by rfl) T.tuple PyProof.Rows.Boot.tuple rfl) pa_nil)))))
        (pw_or1 (pt_cmpR op_ne (pe_callB call_len_seq (by rfl) T.len PySem.boot_len (pa_cons (pv 0) pa_nil)) (pe_callB call_len_seq (by rfl) T.len PySem.boot_len (pa_cons (pv 1) pa_nil)) (nomark _))))) (pss_one (ps_ret pe_bl)) pss_nil)
      (pss_cons (ps_for PassesOwn.never rfl (pi_range1 (by rfl) T.range (pa_cons (pe_callB call_len_seq (by rfl) T.len PySem.boot_len (pa_cons (pv 1) pa_nil)) pa_nil)) (pg_name (i := 2) scSame.nd rfl (Or.inl rfl))
        (pss_one (ps_if (pt_not (pt_val (pe_call ih hr (by rfl) gS F.kp bS .nil pass0 (pa_cons (pe_ix ix_seq (pv 0) (pv 2) fun _ _ => rfl) (pa_cons (pe_ix ix_seq (pv 1) (pv 2) fun _ _ => rfl) pa_nil))))) (pss_one (ps_ret pe_bl)) pss_nil)))
      (pss_one (ps_ret pe_bl))), fun ds D hd x y hx hy k => ?_⟩
    cases hx with
    | @tup a xs _ hsx hax =>
    cases hy with
    | @tup b ys _ hsy hay =>
    have lx := dpa_len hax
    have ly := dpa_len hay
    refine ⟨_, rfl, _, _, _, _, true, rfl, .ty _, tyx_tup hsx, kit_ty (by decide +kernel), _, rfl, ?_⟩
    refine iteF ?_
    refine ⟨_, rfl, a, xs, rfl, .inr hsx, _, rfl, b, ys, rfl, .inr hsy, rfl, _, rfl, ?_⟩
    refine iteNS (by rw [lx, ly]) ?_
    have hl : ys.length ≤ 100000 := by rw [ly]; exact hd.1
    refine ⟨_, rfl, b, ys, rfl, .inr hsy, _, rfl, by omega, by omega, for_range (lo := 0) (n := ((ys.length : Int)).toNat) (fun i σ H' => H' = H ∧ ∃ v : Option V, σ = [some (.ref a), some (.ref b), v])
      ⟨rfl, none, rfl⟩ ?_ ?_⟩
    · rintro i σ H' hi ⟨rfl, v, rfl⟩
      have hi' : i < ys.length := by omega
      have ex : xs[i]? = some xs[i] := List.getElem?_eq_getElem (by omega)
      have ey : ys[i]? = some ys[i] := List.getElem?_eq_getElem hi'
      obtain ⟨d1, e1, q1⟩ := dpa_get hax ex
      obtain ⟨d2, e2, q2⟩ := dpa_get hay ey
      rw [e1] at e2
      cases e2
      have ei : (0 : Int) + (i : Int) = (i : Int) := by omega
      refine ⟨_, rfl, _, rfl, .inr (.inl ⟨a, xs, (i : Int), _, rfl, by rw [ei], hsx, atI_nat ex, _, rfl, _, rfl, .inr (.inl ⟨b, ys, (i : Int), _, rfl, by rw [ei], hsy, atI_nat ey, ?_⟩)⟩)⟩
      refine ⟨_, _, d1, rfl, q1, q2, hd.2 d1 (List.mem_of_getElem? e1), _, rfl, ?_⟩
      refine iteF ?_
      exact ⟨rfl, _, rfl⟩
    · rintro σ H' ⟨rfl, v, rfl⟩
      exact k
end
end Pk
set_option Elab.async false
set_option maxRecDepth 100000
set_option maxHeartbeats 4000000
namespace Pk
open PySem L2
section
variable {P : Program} {w : World} {K : PySem.W.Frag} {mg : Str → Option Value} {base : Heap}
theorem small100k {n : Nat} (h : n ≤ 100000) : n < sizeLine := Nat.lt_of_le_of_lt h (by decide)
/-! _law_cell: some int, no greater than the script's or small -/
def spCellA (K : PySem.W.Frag) : Sp := fun vs H Q _ => ∃ (l : Addr) (ns : List Int) (j : Nat), vs = [.ref l, .int (j : Int)] ∧ SqL K H l (ns.map V.int) ∧ ∀ z, Q (.int z) H
theorem scCell : FnScope ["script", "k", "seed", "cell"] ["script", "k"] (defScope sCell) := ⟨rfl, rfl, rfl, by decide +kernel, rfl, by decide +kernel, by decide +kernel⟩
theorem ok_cell {f : Addr} {fd : FuncData} (F : Fun K "_law_cell" "_law_cell" sCell f fd) (T : TB mg) : FnOk P w K mg base CX0 1 f fd ["script", "k"] (spCellA K) := by
  refine F.ok scCell (fun vs H Q E h => ?_) (fun cdv A outer s H vs Q E hr h => ?_)
  · obtain ⟨l, ns, j, rfl, _⟩ := h
    rfl
  · obtain ⟨l, ns, j, rfl, hS, k⟩ := h
    refine ⟨_, pss_cons (ps_if (pt_cmp (pc_lt (pv 1) (pe_callB call_len_seq (by rfl) T.len PySem.boot_len (pa_cons (pv 0) pa_nil)))) (pss_one (ps_ret (pe_ix ix_list (pv 0) (pv 1) fun _ _ => rfl))) pss_nil)
      (pss_cons (ps_set (i := 2) scCell.nd rfl (Or.inl rfl) pe_int)
      (pss_cons (ps_for PassesOwn.never rfl (pi_list (pv 0)) (pg_name (i := 3) scCell.nd rfl (Or.inl rfl))
        (pss_one (ps_set (i := 2) scCell.nd rfl (Or.inl rfl) (pe_op op_mod (pe_callTy call_int1 (by rfl) T.int PyProof.Rows.Boot.int (pa_cons (pe_op op_add (pe_op op_mul (pv 2) pe_int)
          (pe_op op_mod (pe_callTy call_int1 (by rfl) T.int PyProof.Rows.Boot.int (pa_cons (pv 3) pa_nil)) pe_int)) pa_nil)) pe_int))))
      (pss_one (ps_ret (pe_op op_mod (pe_callTy call_int1 (by rfl) T.int PyProof.Rows.Boot.int (pa_cons (pe_op op_mul (pe_op op_mul (pe_op op_add (pv 2) pe_int) (pe_op op_add (pv 1) pe_int)) pe_int) pa_nil)) pe_int))))), ?_⟩
    refine ⟨_, rfl, _, rfl, l, _, rfl, .inl hS, _, _, rfl, rfl, _, rfl, ?_⟩
    refine ite2 (fun c => ?_) (fun c => ?_)
    · have c' := of_decide_eq_true c
      rw [List.length_map] at c'
      have ej : (ns.map V.int)[j]? = some (V.int ns[j]) := by rw [List.getElem?_map, List.getElem?_eq_getElem (by omega)]; rfl
      exact ⟨_, rfl, _, rfl, l, _, _, _, rfl, rfl, hS, atI_nat ej, k _⟩
    · refine ⟨_, rfl, l, rfl, ⟨_, hS⟩, for_list (K := K) (a := l) (xs := ns.map V.int) (fun i σ H' => H' = H ∧ ∃ (z : Int) (v : Option V), σ = [some (.ref l), some (.int j), some (.int z), v] ∧ 0 ≤ z ∧ z < 1000003)
        ⟨rfl, 17, none, rfl, by decide, by decide⟩ (fun i σ H' _ h => by rw [h.1]; exact hS) ?_ ?_⟩
      · rintro i y σ H' hi ⟨rfl, z, v, rfl, hz0, hz1⟩
        obtain ⟨u, _, rfl⟩ := mapInt hi
        refine ⟨_, rfl, _, _, rfl, rfl, .inl (by omega), _, rfl, .inl ⟨_, rfl, _, _, rfl, rfl, (by show (0 : Int) < 1000003; decide), _, _, rfl, rfl, .inl ⟨_, rfl, _, _, rfl, rfl, (by show (0 : Int) < 1000003; decide), ?_⟩⟩⟩
        exact ⟨rfl, _, _, rfl, Int.emod_nonneg _ (by decide), Int.emod_lt_of_pos _ (by decide)⟩
      · rintro σ H' ⟨rfl, z, v, rfl, hz0, hz1⟩
        refine ⟨_, rfl, _, _, rfl, rfl, _, rfl, _, _, rfl, rfl, _, _, rfl, rfl, .inl (by omega), _, _, rfl, rfl, .inr (by decide), .inl ⟨_, rfl, _, _, rfl, rfl, (by show (0 : Int) < 2147483647; decide), ?_⟩⟩
        exact k _
/-! _law_digits: so many digits, each below its size -/
def Digs (sizes row : List Int) : Prop := row.length = sizes.length ∧ ∀ (i : Nat) (s : Int), sizes[i]? = some s → ∃ d, row[i]? = some d ∧ 0 ≤ d ∧ d < s
def spDigits (K : PySem.W.Frag) : Sp := fun vs H Q _ => ∃ (c : Int) (l : Addr) (sizes : List Int), vs = [.int c, .ref l] ∧ SqL K H l (sizes.map V.int) ∧ sizes.length ≤ 10000 ∧ (∀ s ∈ sizes, 0 < s ∧ s < 2 ^ 200) ∧
  ∀ (row : List Int) (p : Addr) (H' : Hp), Digs sizes row → H p = none → Same H H' → H' p = some (.lst (row.map V.int)) → Q (.ref p) H'
theorem map_snoc (row : List Int) (d : Int) : row.map V.int ++ [V.int d] = (row ++ [d]).map V.int := by rw [List.map_append]; rfl
theorem digs_nil : Digs [] [] := ⟨rfl, fun i s e => by simp at e⟩
theorem take_succ_of {α : Type} {l : List α} {i : Nat} {x : α} (h : l[i]? = some x) : l.take (i + 1) = l.take i ++ [x] := by
  rw [List.take_add_one, h]
  rfl
theorem digs_snoc {sizes row : List Int} {i : Nat} {s d : Int} (h : Digs (sizes.take i) row) (e : sizes[i]? = some s) (h0 : 0 ≤ d) (h1 : d < s) : Digs (sizes.take (i + 1)) (row ++ [d]) := by
  rw [take_succ_of e]
  obtain ⟨hl, hd⟩ := h
  refine ⟨by rw [List.length_append, List.length_append, hl]; rfl, fun j t ej => ?_⟩
  by_cases c : j < (sizes.take i).length
  · rw [List.getElem?_append_left c] at ej
    obtain ⟨x, e1, e2⟩ := hd j t ej
    exact ⟨x, by rw [List.getElem?_append_left (by omega)]; exact e1, e2⟩
  · have cj : j = (sizes.take i).length := by
      have q := (List.getElem?_eq_some_iff.mp ej).1
      rw [List.length_append, List.length_singleton] at q
      omega
    rw [cj, List.getElem?_append_right (Nat.le_refl _), Nat.sub_self] at ej
    cases ej
    exact ⟨d, by rw [cj, List.getElem?_append_right (by omega), hl, Nat.sub_self]; rfl, h0, h1⟩
theorem scDigits : FnScope ["cell", "sizes", "row", "rest", "size", "seed", "k", "twice"] ["cell", "sizes"] (defScope sDigits) := ⟨rfl, rfl, rfl, by decide +kernel, rfl, by decide +kernel, by decide +kernel⟩
theorem ok_digits {f : Addr} {fd : FuncData} (F : Fun K "_law_digits" "_law_digits" sDigits f fd) (T : TB mg) : FnOk P w K mg base CX0 1 f fd ["cell", "sizes"] (spDigits K) := by
  refine F.ok scDigits (fun vs H Q E h => ?_) (fun cdv A outer s H vs Q E hr h => ?_)
  · obtain ⟨c, l, sizes, rfl, _⟩ := h
    rfl
  · obtain ⟨c, l, sizes, rfl, hS, hl, hz, k⟩ := h
    refine ⟨_, pss_cons (ps_set (i := 2) scDigits.nd rfl (Or.inl rfl) (pe_lst pa_nil))
      (pss_cons (ps_set (i := 3) scDigits.nd rfl (Or.inl rfl) (pe_callTy call_int1 (by rfl) T.int PyProof.Rows.Boot.int (pa_cons (pv 0) pa_nil)))
      (pss_cons (ps_if (pt_cmp (pc_ge (pv 3) (pe_op op_pow pe_int pe_int)))
        (pss_cons (ps_set (i := 3) scDigits.nd rfl (Or.inl rfl) (pe_op op_sub (pv 3) (pe_op op_pow pe_int pe_int)))
        (pss_cons (ps_for PassesOwn.never rfl (pi_list (pv 1)) (pg_name (i := 4) scDigits.nd rfl (Or.inl rfl))
          (pss_cons (ps_expr (pe_bm PySem.F.plainAttrs_list PySem.F.slot_list_append PySem.F.type_list_append mt_append (pv 2) (pa_cons (pe_op op_mod (pe_callTy call_int1 (by rfl) T.int PyProof.Rows.Boot.int (pa_cons (pv 3) pa_nil)) (pv 4)) pa_nil)))
          (pss_one (ps_set (i := 3) scDigits.nd rfl (Or.inl rfl) (pe_op op_fdivW (pe_callTy call_int1 (by rfl) T.int PyProof.Rows.Boot.int (pa_cons (pv 3) pa_nil)) (pv 4))))))
        (pss_one (ps_ret (pv 2))))) pss_nil)
      (pss_cons (ps_set (i := 5) scDigits.nd rfl (Or.inl rfl) (pe_op op_mod (pe_callTy call_int1 (by rfl) T.int PyProof.Rows.Boot.int (pa_cons (pv 3) pa_nil)) pe_int))
      (pss_cons (ps_for PassesOwn.never rfl (pi_range1 (by rfl) T.range (pa_cons (pe_callB call_len_seq (by rfl) T.len PySem.boot_len (pa_cons (pv 1) pa_nil)) pa_nil)) (pg_name (i := 6) scDigits.nd rfl (Or.inl rfl))
        (pss_cons (ps_set (i := 5) scDigits.nd rfl (Or.inl rfl) (pe_op op_mod (pe_callTy call_int1 (by rfl) T.int PyProof.Rows.Boot.int (pa_cons (pe_op op_add (pe_op op_add (pe_op op_mul (pv 5) pe_int) (pe_op op_mul pe_int (pv 6))) pe_int) pa_nil)) pe_int))
        (pss_cons (ps_set (i := 7) scDigits.nd rfl (Or.inl rfl) (pe_op op_mod (pe_callTy call_int1 (by rfl) T.int PyProof.Rows.Boot.int (pa_cons (pe_op op_mul (pv 5) (pe_op op_add (pe_op op_fdiv (pv 5) pe_int) pe_int)) pa_nil)) pe_int))
        (pss_one (ps_expr (pe_bm PySem.F.plainAttrs_list PySem.F.slot_list_append PySem.F.type_list_append mt_append (pv 2) (pa_cons (pe_op op_mod (pe_op op_fdiv (pv 7) pe_int) (pe_ix ix_list (pv 1) (pv 6) fun _ _ => rfl)) pa_nil)))))))
      (pss_one (ps_ret (pv 2))))))), ?_⟩
    refine ⟨Nat.zero_le _, fun p hp => ?_⟩
    have s0 : Same H (upd H p (.lst [])) := same_new hp
    refine ⟨_, rfl, .inl ⟨c, rfl, ?_⟩⟩
    refine ⟨_, rfl, _, _, rfl, rfl, ⟨by decide, by decide, by decide⟩, _, _, rfl, rfl, _, rfl, ?_⟩
    refine ite2 (fun cc => ?_) (fun cc => ?_)
    · refine ⟨_, rfl, _, _, rfl, rfl, ⟨by decide, by decide, by decide⟩, _, _, rfl, rfl, ?_⟩
      refine ⟨_, rfl, l, rfl, ⟨_, s0.seq hS⟩, for_list (K := K) (a := l) (xs := sizes.map V.int) (fun i σ H' => Same H H' ∧ ∃ (r : Int) (row : List Int) (v : Option V), σ = [some (.int c), some (.ref l), some (.ref p), some (.int r), v, none, none, none] ∧ H' p = some (.lst (row.map V.int)) ∧ Digs (sizes.take i) row)
        ⟨s0, _, [], none, rfl, upd_same, digs_nil⟩ (fun i σ H' _ h => h.1.seq hS) ?_ ?_⟩
      · rintro i y σ H' hi ⟨s1, r, row, v, rfl, hrow, dg⟩
        obtain ⟨u, eu, rfl⟩ := mapInt hi
        obtain ⟨u0, u1⟩ := hz u (List.mem_of_getElem? eu)
        have hi2 : i < sizes.length := (List.getElem?_eq_some_iff.mp eu).1
        have lr : row.length ≤ i := by rw [dg.1, List.length_take]; omega
        refine ⟨_, rfl, .inl ⟨rfl, _, SqL.of hrow⟩, _, rfl, .inl ⟨_, rfl, _, rfl, _, _, rfl, rfl, u0, p, _, _, rfl, rfl, hrow, ?_, ?_⟩⟩
        · rw [List.length_map]
          exact small100k (by omega)
        refine ⟨_, rfl, .inl ⟨_, rfl, _, rfl, _, _, rfl, rfl, ⟨u0, ?_⟩, ?_⟩⟩
        · exact (wide_div (i := r) (b := 200) u0 (by omega) (by decide) (by decide)).2
        refine ⟨same_mut s1 hp, _, row ++ [r % u], _, rfl, ?_, digs_snoc dg eu (Int.emod_nonneg _ (by omega)) (Int.emod_lt_of_pos _ u0)⟩
        rw [upd_same, List.map_append]
        rfl
      · rintro σ H' ⟨s1, r, row, v, rfl, hrow, dg⟩
        rw [List.length_map, List.take_length] at dg
        exact ⟨_, rfl, k row p H' dg hp s1 hrow⟩
    · refine ⟨_, rfl, .inl ⟨_, rfl, _, _, rfl, rfl, (by show (0 : Int) < 2147483629; decide), ?_⟩⟩
      refine ⟨_, rfl, l, _, rfl, .inl (s0.seq hS), ?_⟩
      rw [List.length_map]
      refine ⟨_, rfl, by omega, by omega, for_range (lo := 0) (n := ((sizes.length : Int)).toNat) (fun i σ H' => Same H H' ∧ ∃ (sd : Int) (row : List Int) (v v2 : Option V), σ = [some (.int c), some (.ref l), some (.ref p), some (.int c), none, some (.int sd), v, v2] ∧ 0 ≤ sd ∧ sd < 2 ^ 40 ∧ H' p = some (.lst (row.map V.int)) ∧ Digs (sizes.take i) row)
        ⟨s0, _, [], none, none, rfl, Int.emod_nonneg _ (by decide), Int.lt_trans (Int.emod_lt_of_pos _ (by decide)) (by decide), upd_same, digs_nil⟩ ?_ ?_⟩
      · rintro i σ H' hi ⟨s1, sd, row, v, v2, rfl, h0, h1, hrow, dg⟩
        have hi2 : i < sizes.length := by omega
        have eu : sizes[i]? = some sizes[i] := List.getElem?_eq_getElem hi2
        obtain ⟨u0, u1⟩ := hz _ (List.mem_of_getElem? eu)
        have lr : row.length ≤ i := by rw [dg.1, List.length_take]; omega
        have ei : (0 : Int) + (i : Int) = (i : Int) := by omega
        refine ⟨_, rfl, _, _, rfl, rfl, .inl (by omega), _, rfl, _, _, rfl, rfl, .inl (by decide), _, _, rfl, rfl, _, _, rfl, rfl, .inl ⟨_, rfl, _, _, rfl, rfl, (by show (0 : Int) < 2147483647; decide), ?_⟩⟩
        have b0 := Int.emod_nonneg (sd * 48271 + 974711 * (0 + (i : Int)) + 12345) (show (2147483647 : Int) ≠ 0 by decide)
        have b1 := Int.emod_lt_of_pos (sd * 48271 + 974711 * (0 + (i : Int)) + 12345) (show (0 : Int) < 2147483647 by decide)
        refine ⟨_, rfl, _, rfl, _, _, rfl, rfl, ⟨by decide, by decide⟩, _, _, rfl, rfl, _, _, rfl, rfl, .inl (by omega), .inl ⟨_, rfl, _, _, rfl, rfl, (by show (0 : Int) < 2147483629; decide), ?_⟩⟩
        refine ⟨_, rfl, .inl ⟨rfl, _, SqL.of hrow⟩, _, rfl, _, _, rfl, rfl, ⟨by decide, by decide⟩, _, rfl, _, rfl, l, _, (i : Int), _, rfl, by rw [ei], s1.seq hS, atI_nat (by rw [List.getElem?_map, eu]; rfl), _, _, rfl, rfl, u0, p, _, _, rfl, rfl, hrow, ?_, ?_⟩
        · rw [List.length_map]
          exact small100k (by omega)
        exact ⟨same_mut s1 hp, _, row ++ [_], _, _, rfl, b0, Int.lt_trans b1 (by decide), upd_same.trans (congrArg (fun l => some (HO.lst l)) (map_snoc row _)), digs_snoc dg eu (Int.emod_nonneg _ (by omega)) (Int.emod_lt_of_pos _ u0)⟩
      · rintro σ H' ⟨s1, sd, row, v, v2, rfl, h0, h1, hrow, dg⟩
        rw [Int.toNat_natCast, List.take_length] at dg
        exact ⟨_, rfl, k row p H' dg hp s1 hrow⟩
end
end Pk
set_option Elab.async false
set_option maxRecDepth 100000
set_option maxHeartbeats 4000000
namespace Pk
open PySem L2
abbrev sPiece : Stmt := top 30
abbrev sShaped : Stmt := top 31
/-! pieces as data -/
def sq (b : Bool) (ds : List PyData) : PyData := if b then .list ds else .tuple ds
def symD (b : Bool) (ss : List Str) : PyData := sq b (ss.map .str)
def pieceD (b0 b1 : Bool) (p : List Str × Int) : PyData := sq b1 [symD b0 p.1, .int p.2]
def partsD (b0 b1 b2 : Bool) (ps : List (List Str × Int)) : PyData := sq b2 (ps.map (pieceD b0 b1))
structure PieceOk (p : List Str × Int) : Prop where
  one : 1 ≤ p.1.length
  few : p.1.length ≤ 6
  pos : 0 ≤ p.2
  txt : ∀ s ∈ p.1, PyData.strOk s = true
theorem strOk_app {x y : Str} (h : PyData.strOk x = true) (g : PyData.strOk y = true) : PyData.strOk (x ++ y) = true := by
  have e : (x ++ y).cps = x.cps ++ y.cps := rfl
  unfold PyData.strOk at *
  rw [e, Array.all_append, h, g]
  rfl
theorem strOk_join : ∀ (ys : List Str), (∀ y ∈ ys, PyData.strOk y = true) → PyData.strOk (Txt.join "" ys) = true := by
  intro ys
  rw [TL.join_eq]
  induction ys with
  | nil => intro _; decide +kernel
  | cons a r ih =>
    intro h
    cases r with
    | nil => exact h a List.mem_cons_self
    | cons b r =>
      rw [PyProof.Rows.join_cons_cons]
      exact strOk_app (strOk_app (h a List.mem_cons_self) (by decide +kernel)) (ih fun y hy => h y (List.mem_cons_of_mem _ hy))
theorem cutV_get {xs : List V} {a b : Int} {t : Nat} {x : V} (h0 : 0 ≤ a) (h1 : 0 ≤ b) (h : (cutV xs (some a) (some b))[t]? = some x) : xs[a.toNat + t]? = some x ∧ a.toNat + t < b.toNat := by
  obtain ⟨a', rfl⟩ := Int.eq_ofNat_of_zero_le h0
  obtain ⟨b', rfl⟩ := Int.eq_ofNat_of_zero_le h1
  unfold cutV at h
  have ea := HT.sIx_nat xs.length 0 a'
  have eb := HT.sIx_nat xs.length xs.length b'
  rw [ea, eb] at h
  rw [List.getElem?_take] at h
  split at h
  · rename_i c
    rw [List.getElem?_drop] at h
    have c2 := (List.getElem?_eq_some_iff.mp h).1
    have e3 : min a' xs.length = a' := by omega
    rw [e3] at h
    refine ⟨by simpa using h, ?_⟩
    simp only [Int.toNat_natCast]
    omega
  · cases h
theorem strOk_one {c : Nat} (h : c < 128) : PyData.strOk ⟨#[c]⟩ = true := by
  unfold PyData.strOk
  rw [Array.all_eq_true]
  intro i hi
  have e : i = 0 := by
    have q : i < 1 := hi
    omega
  subst e
  exact decide_eq_true (show c < 1114112 by omega)
theorem sum_one (zs : List Nat) : ((zs.map fun c => (⟨#[c]⟩ : Str)).map (·.length)).sum = zs.length := by
  induction zs with
  | nil => rfl
  | cons a r ih =>
    rw [List.map_cons, List.map_cons, List.sum_cons, ih, List.length_cons]
    show 1 + r.length = r.length + 1
    omega
theorem dpa_strs {K : PySem.W.Frag} {H : Hp} : ∀ ss : List Str, DpAll K H (ss.map V.str) (ss.map PyData.str)
  | [] => .nil
  | s :: ss => .cons (.str s) (dpa_strs ss)
section
variable {P : Program} {w : World} {K : PySem.W.Frag} {mg : Str → Option Value} {base : Heap}
/-! _law_piece -/
def spPiece (K : PySem.W.Frag) : Sp := fun vs H Q _ => ∃ c : Int, vs = [.int c] ∧ ∀ (ss : List Str) (n : Int) (v : V) (H' : Hp), PieceOk (ss, n) → n ≤ 100 → Same H H' → Dp K (newOnly H H') v (pieceD false false (ss, n)) → Q v H'
theorem scPiece : FnScope ["cell", "signs", "row", "symbols", "k", "part", "one"] ["cell"] (defScope sPiece) := ⟨rfl, rfl, rfl, by decide +kernel, rfl, by decide +kernel, by decide +kernel⟩
def signs62 : Str := "abcdefghijklmnopqrstuvwxyzABCDEFGHIJKLMNOPQRSTUVWXYZ0123456789"
theorem signs_ok : signs62.cps.toList.length = 62 ∧ ∀ c ∈ signs62.cps.toList, c < 128 := by decide +kernel
def pieceSizes : List Int := [6, 40] ++ List.replicate 6 8 ++ List.replicate 48 62
theorem ok_piece {f fD : Addr} {fd fdD : FuncData} (F : Fun K "_law_piece" "_law_piece" sPiece f fd) (T : TB mg) (FD : Fun K "_law_digits" "_law_digits" sDigits fD fdD) (bD : Binds K fdD ["cell", "sizes"] []) (gD : mg "_law_digits" = some (.ref fD)) :
    FnOk P w K mg base CX0 2 f fd ["cell"] (spPiece K) := by
  have GD : FnOk P w K mg base CX0 1 fD fdD ["cell", "sizes"] (spDigits K) := ok_digits FD T
  refine F.ok scPiece (fun vs H Q E h => ?_) (fun cdv A outer s H vs Q E hr h => ?_)
  · obtain ⟨c, rfl, _⟩ := h
    rfl
  · obtain ⟨c, rfl, k⟩ := h
    refine ⟨_, pss_cons (ps_set (i := 1) scPiece.nd rfl (Or.inr rfl) pe_str)
      (pss_cons (ps_set (i := 2) scPiece.nd rfl (Or.inl rfl) (pe_call GD hr (by rfl) gD FD.kp bD .nil pass0 (pa_cons (pv 0) (pa_cons (pe_op op_cat (pe_op op_cat (pe_lst (pa_cons pe_int (pa_cons pe_int pa_nil))) (pe_op op_rep (pe_lst (pa_cons pe_int pa_nil)) pe_int))
        (pe_op op_rep (pe_lst (pa_cons pe_int pa_nil)) pe_int)) pa_nil))))
      (pss_cons (ps_set (i := 3) scPiece.nd rfl (Or.inl rfl) (pe_lst pa_nil))
      (pss_cons (ps_for PassesOwn.never rfl (pi_range1 (by rfl) T.range (pa_cons (pe_op op_add (pe_ix ix_list (pv 2) pe_int fun _ _ => rfl) pe_int) pa_nil)) (pg_name (i := 4) scPiece.nd rfl (Or.inl rfl))
        (pss_cons (ps_set (i := 5) scPiece.nd rfl (Or.inl rfl) (pe_slice sl_list (pv 2) (po_some (pe_op op_add pe_int (pe_op op_mul pe_int (pv 4))))
            (po_some (pe_op op_add (pe_op op_add pe_int (pe_op op_mul pe_int (pv 4))) (pe_ix ix_list (pv 2) (pe_op op_add pe_int (pv 4)) fun _ _ => rfl)))))
        (pss_one (ps_expr (pe_bm PySem.F.plainAttrs_list PySem.F.slot_list_append PySem.F.type_list_append mt_append (pv 3) (pa_cons
          (pe_join pe_str (pe_lc (own := [("one", 6)]) (g := gName 6) (tt := tYes) (by rfl) scPiece.nd (pi_list (pv 5)) (blkOk_by (own := [("one", 6)]) (N := ["cell", "signs", "row", "symbols", "k", "part", "one"]) (sc := defScope sPiece) (by decide +kernel))
            (fun _ _ _ _ _ => pg_name (i := 6) scPiece.nd rfl (Or.inl rfl)) (fun _ _ _ _ _ => pts_nil) (fun _ _ _ _ _ => pe_ix ix_str (pv 1) (pv 6) fun _ _ => rfl))) pa_nil))))))
      (pss_one (ps_ret (pe_tup (pa_cons (pe_callTy call_tuple_of (by rfl) T.tuple PyProof.Rows.Boot.tuple (pa_cons (pv 3) pa_nil)) (pa_cons (pe_op op_add (pe_ix ix_list (pv 2) pe_int fun _ _ => rfl) pe_int) pa_nil)))))))), ?_⟩
    refine ⟨_, rfl, by decide, fun l1 hl1 => ?_⟩
    refine ⟨by decide, fun l2 hl2 => ?_⟩
    refine ⟨l2, 6, _, rfl, rfl, upd_same, by decide, by decide, by decide, fun l3 hl3 => ?_⟩
    refine ⟨l1, l3, _, _, rfl, rfl, same_new hl3 _ _ (same_new hl2 _ _ upd_same), upd_same, by decide, fun l4 hl4 => ?_⟩
    refine ⟨by decide, fun l5 hl5 => ?_⟩
    refine ⟨l5, 48, _, rfl, rfl, upd_same, by decide, by decide, by decide, fun l6 hl6 => ?_⟩
    refine ⟨l4, l6, _, _, rfl, rfl, same_new hl6 _ _ (same_new hl5 _ _ upd_same), upd_same, by decide, fun l7 hl7 => ?_⟩
    refine ⟨c, l7, pieceSizes, rfl, SqL.of upd_same, by decide, by decide, fun row p H1 dg hp s1 hrow => ?_⟩
    have sA : Same H H1 := (((((((same_new hl1).trans (same_new hl2)).trans (same_new hl3)).trans (same_new hl4)).trans (same_new hl5)).trans (same_new hl6)).trans (same_new hl7)).trans s1
    clear s1 hl1 hl2 hl3 hl4 hl5 hl6 hl7 hp
    refine ⟨Nat.zero_le _, fun q hq => ?_⟩
    have hqH : H q = none := sA.free hq
    have sB := sA.trans (same_new (o := .lst []) hq)
    have hrow2 : (upd H1 q (.lst [])) p = some (.lst (row.map V.int)) := same_new hq _ _ hrow
    obtain ⟨d0, e0, a0, b0⟩ := dg.2 0 6 rfl
    obtain ⟨d1, e1, a1, b1⟩ := dg.2 1 40 rfl
    have rowAt : ∀ {i : Nat} {d : Int}, row[i]? = some d → atI (row.map V.int) (i : Int) = some (V.int d) := fun {i d} e => atI_nat (by rw [List.getElem?_map, e]; rfl)
    have npq : p ≠ q := ne_of_none hrow hq
    refine ⟨_, rfl, _, _, _, _, rfl, rfl, SqL.of hrow2, rowAt (i := 0) e0, _, _, rfl, rfl, _, rfl, by omega, by omega,
      for_range (lo := 0) (n := (d0 + 1).toNat) (fun i σ H' => Same H H' ∧ H' p = some (.lst (row.map V.int)) ∧ ∃ (ss : List Str) (v v2 : Option V), σ = [some (.int c), some (.str signs62), some (.ref p), some (.ref q), v, v2, none] ∧ H' q = some (.lst (ss.map V.str)) ∧ ss.length = i ∧ ∀ s ∈ ss, PyData.strOk s = true)
      ⟨sB, hrow2, [], none, none, rfl, upd_same, rfl, fun s hs => by cases hs⟩ ?_ ?_⟩
    · rintro i σ H2 hi ⟨s2, hr2, ss, v, v2, rfl, hss, hsl, hok⟩
      have hi6 : i < 6 := by omega
      have ei : (0 : Int) + (i : Int) = (i : Int) := by omega
      obtain ⟨t, et, at0, bt⟩ := dg.2 (2 + i) 8 (by
        have : ∀ j, j < 6 → pieceSizes[2 + j]? = some 8 := by decide
        exact this i hi6)
      have e2i : (2 : Int) + (0 + (i : Int)) = ((2 + i : Nat) : Int) := by omega
      refine ⟨_, rfl, _, rfl, _, _, rfl, rfl, .inl (by decide), _, _, rfl, rfl, _, rfl, _, rfl, _, _, rfl, rfl, .inl (by decide), _, _, rfl, rfl, _, rfl, _, rfl, _, _, rfl, rfl, _, _, _, _, rfl, rfl, SqL.of hr2, (by rw [e2i]; exact rowAt et), _, _, rfl, rfl, _, rfl, ?_⟩
      refine ⟨p, _, rfl, SqL.of hr2, fun u hu => ?_⟩
      have sC : Same H (upd H2 u (.lst (cutV (row.map V.int) (some (8 + 8 * (0 + (i : Int)))) (some (9 + 8 * (0 + (i : Int)) + t))))) := s2.trans (same_new hu)
      have hlen : (cutV (row.map V.int) (some (8 + 8 * (0 + (i : Int)))) (some (9 + 8 * (0 + (i : Int)) + t))).length ≤ 56 := by
        refine Nat.le_trans (cutV_length _ _ _) ?_
        rw [List.length_map, dg.1]
        decide
      have hdig : ∀ (j : Nat) (x : V), (cutV (row.map V.int) (some (8 + 8 * (0 + (i : Int)))) (some (9 + 8 * (0 + (i : Int)) + t)))[j]? = some x → ∃ d : Nat, x = V.int (d : Int) ∧ d < 62 := by
        intro j x hx
        obtain ⟨h1, h2⟩ := cutV_get (by omega) (by omega) hx
        obtain ⟨z, ez, rfl⟩ := mapInt h1
        have hj : (8 + 8 * (0 + (i : Int))).toNat + j < 56 := by omega
        have hs62 : pieceSizes[(8 + 8 * (0 + (i : Int))).toNat + j]? = some 62 := by
          have all : ∀ m, m < 56 → 8 ≤ m → pieceSizes[m]? = some 62 := by decide
          exact all _ hj (by omega)
        obtain ⟨z', e', q0, q1⟩ := dg.2 _ 62 hs62
        rw [ez] at e'
        cases e'
        exact ⟨z.toNat, by rw [Int.toNat_of_nonneg q0], by omega⟩
      generalize cutV (row.map V.int) (some (8 + 8 * (0 + (i : Int)))) (some (9 + 8 * (0 + (i : Int)) + t)) = part at sC hlen hdig
      refine ⟨_, rfl, .inl ⟨rfl, _, SqL.of (same_new hu _ _ hss)⟩, ⟨_, rfl⟩, _, rfl, u, rfl, ⟨_, SqL.of upd_same⟩, fun D hD => lc_list (K := K) (a := u) (xs := part)
        (fun j H' => Same (upd H2 u (.lst part)) H' ∧ ∃ zs : List Nat, H' D = some (.lst ((zs.map fun c => (⟨#[c]⟩ : Str)).map V.str)) ∧ zs.length = j ∧ ∀ z ∈ zs, z < 128)
        ⟨same_new hD, [], upd_same, rfl, fun z hz => by cases hz⟩ (fun j H' _ h => SqL.of (h.1 _ _ upd_same)) ?_ ?_⟩
      · rintro j x H' hx ⟨s3, zs, hzs, hzl, hz128⟩
        obtain ⟨d, rfl, hd62⟩ := hdig j x hx
        have hj56 : j < part.length := (List.getElem?_eq_some_iff.mp hx).1
        have hc : signs62.cps.toList[d]? = some signs62.cps.toList[d] := List.getElem?_eq_getElem (by rw [signs_ok.1]; exact hd62)
        refine ⟨rfl, _, rfl, _, rfl, signs62, (d : Int), _, rfl, rfl, by decide +kernel, atI_nat hc, _, hzs, ?_, same_mut s3 hD, zs ++ [signs62.cps.toList[d]], ?_, ?_, ?_⟩
        · rw [List.length_map, List.length_map, hzl]
          exact small100k (by omega)
        · rw [upd_same, List.map_append, List.map_append]
          rfl
        · rw [List.length_append, hzl]
          rfl
        · intro z hz
          rcases List.mem_append.mp hz with hz | hz
          · exact hz128 z hz
          · rw [List.mem_singleton.mp hz]
            exact signs_ok.2 _ (List.mem_of_getElem? hc)
      · rintro H4 ⟨s4, zs, hzs, hzl, hz128⟩
        have hss4 : H4 q = some (.lst (ss.map V.str)) := s4 _ _ (same_new hu _ _ hss)
        refine ⟨_, D, _, rfl, rfl, .inl (SqL.of hzs), ?_, q, _, _, rfl, rfl, hss4, ?_, ?_⟩
        · rw [sum_one, hzl, List.length_map, hzl]
          have : (Str.ofString "").length = 0 := by decide +kernel
          rw [this]
          omega
        · rw [List.length_map, hsl]
          exact small100k (by omega)
        · have hqN : H q = none := hqH
          refine ⟨same_mut (sC.trans s4) hqN, ?_, ss ++ [Txt.join "" (zs.map fun c => (⟨#[c]⟩ : Str))], _, _, rfl, ?_, ?_, ?_⟩
          · rw [upd_ne npq]
            exact s4 _ _ (same_new hu _ _ hr2)
          · rw [upd_same, List.map_append]
            rfl
          · rw [List.length_append, hsl]
            rfl
          · intro y hy
            rcases List.mem_append.mp hy with hy | hy
            · exact hok y hy
            · rw [List.mem_singleton.mp hy]
              refine strOk_join _ fun y hy => ?_
              obtain ⟨c, hc, rfl⟩ := List.mem_map.mp hy
              exact strOk_one (hz128 c hc)
    · rintro σ H2 ⟨s2, hr2, ss, v, v2, rfl, hss, hsl, hok⟩
      refine ⟨_, rfl, q, _, rfl, .inl ⟨SqL.of hss, fun t ht => ?_⟩⟩
      refine ⟨_, rfl, _, _, _, _, rfl, rfl, SqL.of (same_new ht _ _ hr2), rowAt (i := 1) e1, _, _, rfl, rfl, (by show 2 ≤ sizeLine; decide), fun x hx => ?_⟩
      refine k ss (d1 + 1) _ _ ⟨by show 1 ≤ ss.length; omega, by show ss.length ≤ 6; omega, by show 0 ≤ d1 + 1; omega, hok⟩ (by omega) ((s2.trans (same_new ht)).trans (same_new hx)) ?_
      have tH := s2.free ht
      have xH := (s2.trans (same_new ht)).free hx
      refine .tup (SqT.of (newOnly_at xH upd_same)) (.cons (.tup (SqT.of (newOnly_at tH (same_new hx _ _ upd_same))) ?_) (.cons (.int _) .nil))
      exact dpa_strs ss
end
end Pk
set_option Elab.async false
set_option maxRecDepth 100000
set_option maxHeartbeats 4000000
namespace Pk
open PySem L2
section
variable {P : Program} {w : World} {K : PySem.W.Frag} {mg : Str → Option Value} {base : Heap}
def bit (sh : Int) (d : Int) : Bool := decide (sh / d % 2 = 1)
/-! _law_shaped -/
def spShaped (K : PySem.W.Frag) : Sp := fun vs H Q _ => ∃ (l : Addr) (us : List V) (ps : List (List Str × Int)) (sh : Int), vs = [.ref l, .int sh] ∧ SqL K H l us ∧ DpAll K H us (ps.map (pieceD false false)) ∧ ps.length ≤ 1000 ∧ (∀ p ∈ ps, p.1.length ≤ 6) ∧
  ∀ (v : V) (H' : Hp), Same H H' → Dp K H' v (partsD (decide (sh % 2 = 1)) (bit sh 2) (bit sh 4) ps) → Q v H'
theorem scShaped : FnScope ["parts", "shape", "made", "piece", "symbols"] ["parts", "shape"] (defScope sShaped) := ⟨rfl, rfl, rfl, by decide +kernel, rfl, by decide +kernel, by decide +kernel⟩
theorem dec_mod {a b : Int} {v : Bool} (h : v = decide (a = b)) : decide (V.int a = V.int b) = v := by
  rw [dec_int, h, Bool.eq_iff_iff]
  simp
theorem ok_shaped {f : Addr} {fd : FuncData} (F : Fun K "_law_shaped" "_law_shaped" sShaped f fd) (T : TB mg) : FnOk P w K mg base CX0 1 f fd ["parts", "shape"] (spShaped K) := by
  refine F.ok scShaped (fun vs H Q E h => ?_) (fun cdv A outer s H vs Q E hr h => ?_)
  · obtain ⟨l, us, ps, sh, rfl, _⟩ := h
    rfl
  · obtain ⟨l, us, ps, sh, rfl, hS, hD, hl, h6, k⟩ := h
    refine ⟨_, pss_cons (ps_set (i := 2) scShaped.nd rfl (Or.inl rfl) (pe_lst pa_nil))
      (pss_cons (ps_for PassesOwn.never rfl (pi_list (pv 0)) (pg_name (i := 3) scShaped.nd rfl (Or.inl rfl))
        (pss_cons (ps_set (i := 4) scShaped.nd rfl (Or.inl rfl) (pe_ix ix_tup (pv 3) pe_int fun _ _ => rfl))
        (C8.pss_cut (ps_if (pt_cmpR op_eq (pe_op op_mod (pe_callTy call_int1 (by rfl) T.int PyProof.Rows.Boot.int (pa_cons (pv 1) pa_nil)) pe_int) pe_int (nomark _))
          (pss_one (ps_set (i := 4) scShaped.nd rfl (Or.inl rfl) (pe_callTy call_list_of (by rfl) T.list PyProof.Rows.Boot.list (pa_cons (pv 4) pa_nil)))) pss_nil)
        (pss_one (ps_if (pt_cmpR op_eq (pe_op op_mod (pe_op op_fdiv (pe_callTy call_int1 (by rfl) T.int PyProof.Rows.Boot.int (pa_cons (pv 1) pa_nil)) pe_int) pe_int) pe_int (nomark _))
          (pss_one (ps_expr (pe_bm PySem.F.plainAttrs_list PySem.F.slot_list_append PySem.F.type_list_append mt_append (pv 2) (pa_cons (pe_lst (pa_cons (pv 4) (pa_cons (pe_ix ix_tup (pv 3) pe_int fun _ _ => rfl) pa_nil))) pa_nil))))
          (pss_one (ps_expr (pe_bm PySem.F.plainAttrs_list PySem.F.slot_list_append PySem.F.type_list_append mt_append (pv 2) (pa_cons (pe_tup (pa_cons (pv 4) (pa_cons (pe_ix ix_tup (pv 3) pe_int fun _ _ => rfl) pa_nil))) pa_nil)))))))))
      (pss_cons (ps_if (pt_cmpR op_eq (pe_op op_mod (pe_op op_fdiv (pe_callTy call_int1 (by rfl) T.int PyProof.Rows.Boot.int (pa_cons (pv 1) pa_nil)) pe_int) pe_int) pe_int (nomark _)) (pss_one (ps_ret (pv 2))) pss_nil)
      (pss_one (ps_ret (pe_callTy call_tuple_of (by rfl) T.tuple PyProof.Rows.Boot.tuple (pa_cons (pv 2) pa_nil)))))), ?_⟩
    refine ⟨Nat.zero_le _, fun q hq => ?_⟩
    have s0 : Same H (upd H q (.lst [])) := same_new hq
    have lu : us.length = ps.length := by rw [dpa_len hD, List.length_map]
    refine ⟨_, rfl, l, rfl, ⟨_, s0.seq hS⟩, for_list (K := K) (a := l) (xs := us) (fun i σ H' => Same H H' ∧ ∃ (ws : List V) (v v2 : Option V), σ = [some (.ref l), some (.int sh), some (.ref q), v, v2] ∧ H' q = some (.lst ws) ∧ ws.length = i ∧ DpAll K (hide q H') ws ((ps.take i).map (pieceD (decide (sh % 2 = 1)) (bit sh 2))))
      ⟨s0, [], none, none, rfl, upd_same, rfl, .nil⟩ (fun i σ H' _ h => h.1.seq hS) ?_ ?_⟩
    · rintro i x σ H1 hi ⟨s1, ws, v, v2, rfl, hws, hwl, hwd⟩
      obtain ⟨d, ed, hd⟩ := dpa_get hD hi
      have hi' : i < us.length := (List.getElem?_eq_some_iff.mp hi).1
      rw [List.getElem?_map] at ed
      obtain ⟨p, ep, rfl⟩ := Option.map_eq_some_iff.mp ed
      have hd1 := dp_mono (hide_base s1 hq) _ _ hd
      cases hd1 with
      | @tup a xs _ hsx hax =>
      cases hax with
      | @cons y ys _ _ hy hys =>
      cases hys with
      | @cons z zs _ _ hz hzs =>
      cases hzs
      cases hz
      cases hy with
      | @tup b bs _ hsb hab =>
      refine ⟨_, rfl, a, _, _, _, rfl, rfl, Same.tup hide_le hsx, atI_nat (j := 0) rfl, ?_⟩
      refine ⟨fun σ' H' => Same H1 H' ∧ ∃ u : V, σ' = [some (.ref l), some (.int sh), some (.ref q), some (.ref a), some u] ∧ H' q = some (.lst ws) ∧ Dp K (hide q H') u (symD (decide (sh % 2 = 1)) p.1), ?_, ?_⟩
      · refine ⟨_, rfl, .inl ⟨_, rfl, _, _, rfl, rfl, (by show (0 : Int) < 2; decide), rfl, _, rfl, ?_⟩⟩
        refine ite2 (fun c => ?_) (fun c => ?_)
        · refine ⟨_, rfl, b, _, rfl, .inr (Same.tup hide_le hsb), fun r hr => ⟨same_new hr, _, rfl, same_new hr _ _ hws, ?_⟩⟩
          have c' := c
          rw [dec_mod rfl] at c'
          rw [c', hide_new (ne_of_none hws hr).symm]
          exact .lst (SqL.of upd_same) (dpa_mono (same_new (hide_none hr)) _ _ hab)
        · refine ⟨Same.refl _, _, rfl, hws, ?_⟩
          have c' := c
          rw [dec_mod rfl] at c'
          rw [Bool.eq_false_iff.mpr c']
          exact .tup hsb hab
      · rintro σ' H2 ⟨s2, u, rfl, hws2, hu⟩
        have hsx2 := Same.tup (hide_mono s2) hsx
        have hi2 : i < ps.length := by omega
        have et : (ps.take (i + 1)).map (pieceD (decide (sh % 2 = 1)) (bit sh 2)) = (ps.take i).map (pieceD (decide (sh % 2 = 1)) (bit sh 2)) ++ [pieceD (decide (sh % 2 = 1)) (bit sh 2) p] := by
          rw [take_succ_of ep, List.map_append]
          rfl
        refine ⟨_, rfl, .inl ⟨_, rfl, _, _, rfl, rfl, ⟨by decide, by decide⟩, _, _, rfl, rfl, (by show (0 : Int) < 2; decide), rfl, _, rfl, ?_⟩⟩
        refine ite2 (fun c => ?_) (fun c => ?_)
        · have c' : bit sh 2 = true := by
            have c' := c
            rw [dec_mod rfl] at c'
            exact c'
          refine ⟨_, rfl, .inl ⟨rfl, _, SqL.of hws2⟩, _, rfl, _, rfl, a, _, _, _, rfl, rfl, Same.tup hide_le hsx2, atI_nat (j := 1) rfl, (by show 2 ≤ sizeLine; decide), fun r hr => ?_⟩
          refine ⟨q, _, _, rfl, rfl, same_new hr _ _ hws2, small100k (by omega), ?_⟩
          refine ⟨same_mut ((s1.trans s2).trans (same_new hr)) hq, _, _, _, rfl, upd_same, by rw [List.length_append, hwl]; rfl, ?_⟩
          rw [et, hide_upd, hide_new (ne_of_none hws2 hr).symm]
          refine dpa_append (dpa_mono ((hide_mono s2).trans (same_new (hide_none hr))) _ _ hwd) (.cons ?_ .nil)
          unfold pieceD
          rw [c']
          exact .lst (SqL.of upd_same) (.cons (dp_mono (same_new (hide_none hr)) _ _ hu) (.cons (.int _) .nil))
        · have c' : bit sh 2 = false := by
            have c' := c
            rw [dec_mod rfl] at c'
            exact Bool.eq_false_iff.mpr c'
          refine ⟨_, rfl, .inl ⟨rfl, _, SqL.of hws2⟩, _, rfl, _, rfl, a, _, _, _, rfl, rfl, Same.tup hide_le hsx2, atI_nat (j := 1) rfl, (by show 2 ≤ sizeLine; decide), fun r hr => ?_⟩
          refine ⟨q, _, _, rfl, rfl, same_new hr _ _ hws2, small100k (by omega), ?_⟩
          refine ⟨same_mut ((s1.trans s2).trans (same_new hr)) hq, _, _, _, rfl, upd_same, by rw [List.length_append, hwl]; rfl, ?_⟩
          rw [et, hide_upd, hide_new (ne_of_none hws2 hr).symm]
          refine dpa_append (dpa_mono ((hide_mono s2).trans (same_new (hide_none hr))) _ _ hwd) (.cons ?_ .nil)
          unfold pieceD
          rw [c']
          exact .tup (SqT.of upd_same) (.cons (dp_mono (same_new (hide_none hr)) _ _ hu) (.cons (.int _) .nil))
    · rintro σ H1 ⟨s1, ws, v, v2, rfl, hws, hwl, hwd⟩
      rw [lu, List.take_length] at hwd
      have hwd' := dpa_mono hide_le _ _ hwd
      refine ⟨_, rfl, .inl ⟨_, rfl, _, _, rfl, rfl, ⟨by decide, by decide⟩, _, _, rfl, rfl, (by show (0 : Int) < 2; decide), rfl, _, rfl, ?_⟩⟩
      refine ite2 (fun c => ?_) (fun c => ?_)
      · have c' : bit sh 4 = true := by
          have c' := c
          rw [dec_mod rfl] at c'
          exact c'
        refine ⟨_, rfl, k _ _ s1 ?_⟩
        unfold partsD
        rw [c']
        exact .lst (SqL.of hws) hwd'
      · have c' : bit sh 4 = false := by
          have c' := c
          rw [dec_mod rfl] at c'
          exact Bool.eq_false_iff.mpr c'
        refine ⟨_, rfl, q, _, rfl, .inl ⟨SqL.of hws, fun r hr => k _ _ (s1.trans (same_new hr)) ?_⟩⟩
        unfold partsD
        rw [c']
        exact .tup (SqT.of upd_same) (dpa_mono (same_new hr) _ _ hwd')
end
end Pk
set_option Elab.async false
set_option maxRecDepth 100000
set_option maxHeartbeats 4000000
namespace Pk
open PySem L2
abbrev sHeight : Stmt := top 23
abbrev sUnfold : Stmt := top 24
abbrev sLongInit : Stmt := inClass (top 8) 0

/-! a list or a tuple, by a bit -/
def SqB (b : Bool) (K : PySem.W.Frag) (H : Hp) (a : Addr) (xs : List V) : Prop := match b with
  | true => SqL K H a xs
  | false => SqT K H a xs
theorem SqB.any {b : Bool} {K : PySem.W.Frag} {H : Hp} {a : Addr} {xs : List V} (h : SqB b K H a xs) : SqL K H a xs ∨ SqT K H a xs := by
  cases b
  · exact .inr h
  · exact .inl h
theorem SqB.mono {b : Bool} {K : PySem.W.Frag} {H H' : Hp} {a : Addr} {xs : List V} (e : Same H H') (h : SqB b K H a xs) : SqB b K H' a xs := by
  cases b
  · exact Same.tup e h
  · exact e.seq h
theorem dp_sq {b : Bool} {K : PySem.W.Frag} {H : Hp} {v : V} {ds : List PyData} (h : Dp K H v (sq b ds)) : ∃ a xs, v = .ref a ∧ SqB b K H a xs ∧ DpAll K H xs ds := by
  cases b with
  | true =>
    cases (show Dp K H v (.list ds) from h) with
    | lst h1 h2 => exact ⟨_, _, rfl, h1, h2⟩
  | false =>
    cases (show Dp K H v (.tuple ds) from h) with
    | tup h1 h2 => exact ⟨_, _, rfl, h1, h2⟩
def iSq (b : Bool) (K : PySem.W.Frag) (tl : TE) : TI := match b with
  | true => iList K tl
  | false => iTup K tl
theorem pi_sq {X : Cx} {tg l : Expr} {tl : TE} (b : Bool) (hl : PE X l tl) : PI X tg l (iSq b X.K tl) := by
  cases b
  · exact pi_tup hl
  · exact pi_list hl
def ItB (b : Bool) (K : PySem.W.Frag) (a : Addr) := match b with
  | true => Itl K a
  | false => Itt K a
theorem isq_of {b : Bool} {K : PySem.W.Frag} {tl : TE} {σ : L2.St} {H : Hp} {R} (h : tl σ H fun x H1 => ∃ a, x = .ref a ∧ (∃ xs, SqB b K H1 a xs) ∧ R (ItB b K a) H1) : iSq b K tl σ H R := by
  cases b
  · exact h
  · exact h
def gSq (b : Bool) (K : PySem.W.Frag) (n : Nat) (t : TGs) : TG := match b with
  | true => gLst K n t
  | false => gTup K n t
theorem pg_sq {X : Cx} {pos : Pos} {es : List Expr} {k : Nat} {t : TGs} {n : Nat} (b : Bool) (hc : X.calm = true) (h : PGs X es t)
    (hn : (assignEach es X.env).length = n := by rfl) (hst : (assignEach es X.env).findIdx? (·.1) = none := by rfl) : PG X (.Tuple es k pos) (gSq b X.K n t) := by
  cases b
  · exact pg_tup hc h hn hst
  · exact pg_lst hc h hn hst
theorem gsq_of {b : Bool} {K : PySem.W.Frag} {n : Nat} {t : TGs} {v : V} {σ : L2.St} {H : Hp} {Q} (h : ∃ a xs, v = .ref a ∧ SqB b K H a xs ∧ xs.length = n ∧ t xs σ H Q) : gSq b K n t v σ H Q := by
  cases b
  · exact h
  · exact h
theorem lc_sq {b : Bool} {K : PySem.W.Frag} {a : Addr} {xs : List V} {g : TG} {tt : TT} {te : TE} {vs : List Nat} {σ : L2.St} {H1 : Hp} {D : Addr} {Qd : Hp → Prop} (Pv : Nat → Hp → Prop) (h0 : Pv 0 (upd H1 D (.lst []))) (hl : ∀ i H, i ≤ xs.length → Pv i H → SqB b K H a xs)
    (hs : ∀ i x H, xs[i]? = some x → Pv i H → g x (wipe σ vs) H fun σ2 H2 => wipe σ2 vs = wipe σ vs ∧ tt σ2 H2 fun c H3 =>
      if c = true then te σ2 H3 fun y H4 => ∃ acc, H4 D = some (.lst acc) ∧ acc.length < sizeLine ∧ Pv (i + 1) (upd H4 D (.lst (acc ++ [y]))) else Pv (i + 1) H3) (hd : ∀ H, Pv xs.length H → Qd H) :
    ∃ W : Nat → Nat → Hp → Prop, (∃ m, W 0 m (upd H1 D (.lst []))) ∧ ∀ i m H, W i m H →
      ((ItB b K a).stop i H ∧ Qd H) ∨ ((ItB b K a).go i H ∧ ∃ Nx : Hp → Prop, (∀ H', Nx H' → ∃ m', m' < m ∧ W (i + 1) m' H') ∧ ∀ x H', (ItB b K a).yld i H x H' → g x (wipe σ vs) H' fun σ2 H2 => wipe σ2 vs = wipe σ vs ∧ tt σ2 H2 fun c H3 =>
        if c = true then te σ2 H3 fun y H4 => ∃ acc, H4 D = some (.lst acc) ∧ acc.length < sizeLine ∧ Nx (upd H4 D (.lst (acc ++ [y]))) else Nx H3) := by
  cases b
  · exact lc_tup Pv h0 hl hs hd
  · exact lc_list Pv h0 hl hs hd
theorem for_sq {b : Bool} {K : PySem.W.Frag} {a : Addr} {xs : List V} {g : TG} {tb : TS} {D : Ends} {σ : L2.St} {H : Hp} (Pv : Nat → L2.St → Hp → Prop) (h0 : Pv 0 σ H) (hl : ∀ i σ H, i ≤ xs.length → Pv i σ H → SqB b K H a xs)
    (hs : ∀ i x σ H, xs[i]? = some x → Pv i σ H → g x σ H fun σ2 H2 => tb { D with nx := Pv (i + 1), ct := Pv (i + 1), bk := D.nx } σ2 H2) (hd : ∀ σ H, Pv xs.length σ H → D.nx σ H) :
    ∃ W : Nat → Nat → L2.St → Hp → Prop, (∃ m, W 0 m σ H) ∧ ∀ i m σ H, W i m σ H →
      ((ItB b K a).stop i H ∧ D.nx σ H) ∨ ((ItB b K a).go i H ∧ ∃ N : L2.St → Hp → Prop, (∀ σ' H', N σ' H' → ∃ m', m' < m ∧ W (i + 1) m' σ' H') ∧ ∀ x H', (ItB b K a).yld i H x H' → g x σ H' fun σ2 H2 => tb { D with nx := N, ct := N, bk := D.nx } σ2 H2) := by
  cases b
  · exact for_tup Pv h0 hl hs hd
  · exact for_list Pv h0 hl hs hd

/-! what the pieces come to -/
def one (p : List Str × Int) : Int := (p.1.length : Int) * p.2
def total (ps : List (List Str × Int)) : Int := (ps.map one).sum
def flat (ps : List (List Str × Int)) : List Str := ps.flatMap fun p => (List.replicate p.2.toNat p.1).flatten
theorem total_snoc (ps : List (List Str × Int)) (p : List Str × Int) : total (ps ++ [p]) = total ps + one p := by
  unfold total
  rw [List.map_append, List.sum_append]
  simp
theorem one_nonneg {p : List Str × Int} (h : 0 ≤ p.2) : 0 ≤ one p := Int.mul_nonneg (by omega) h
theorem total_nonneg : ∀ {ps : List (List Str × Int)}, (∀ p ∈ ps, PieceOk p) → 0 ≤ total ps
  | [], _ => by decide
  | p :: r, h => by
    have h1 := total_nonneg (ps := r) fun q hq => h q (List.mem_cons_of_mem _ hq)
    have h2 := one_nonneg (h p List.mem_cons_self).pos
    unfold total at *
    rw [List.map_cons, List.sum_cons]
    omega
theorem total_take {ps : List (List Str × Int)} (h : ∀ p ∈ ps, PieceOk p) (i : Nat) : total (ps.take i) ≤ total ps := by
  have e : ps = ps.take i ++ ps.drop i := (List.take_append_drop i ps).symm
  have h2 : 0 ≤ total (ps.drop i) := total_nonneg fun p hp => h p (List.mem_of_mem_drop hp)
  have h3 : total ps = total (ps.take i) + total (ps.drop i) := by
    conv => lhs; rw [e]
    unfold total
    rw [List.map_append, List.sum_append]
  omega
theorem flat_snoc (ps : List (List Str × Int)) (p : List Str × Int) : flat (ps ++ [p]) = flat ps ++ (List.replicate p.2.toNat p.1).flatten := by
  unfold flat
  rw [List.flatMap_append]
  simp
theorem rep_len {α : Type} (n : Nat) (xs : List α) : (List.replicate n xs).flatten.length = n * xs.length := by
  induction n with
  | zero => simp
  | succ n ih => rw [List.replicate_succ, List.flatten_cons, List.length_append, ih, Nat.succ_mul]; omega
theorem one_len {p : List Str × Int} (h : 0 ≤ p.2) : (((List.replicate p.2.toNat p.1).flatten.length : Nat) : Int) = one p := by
  rw [rep_len]
  unfold one
  obtain ⟨n, e⟩ := Int.eq_ofNat_of_zero_le h
  rw [e]
  simp only [Int.toNat_natCast, Int.natCast_mul]
  exact Int.mul_comm _ _
theorem flat_len : ∀ {ps : List (List Str × Int)}, (∀ p ∈ ps, PieceOk p) → ((flat ps).length : Int) = total ps
  | [], _ => rfl
  | p :: r, h => by
    have h1 := flat_len (ps := r) fun q hq => h q (List.mem_cons_of_mem _ hq)
    have h2 := one_len (h p List.mem_cons_self).pos
    unfold flat total at *
    rw [List.flatMap_cons, List.length_append, List.map_cons, List.sum_cons]
    omega
theorem rep_map {α β : Type} (f : α → β) (n : Nat) (xs : List α) : (List.replicate n (xs.map f)).flatten = ((List.replicate n xs).flatten).map f := by
  induction n with
  | zero => rfl
  | succ n ih => rw [List.replicate_succ, List.replicate_succ, List.flatten_cons, List.flatten_cons, ih, List.map_append]
/-! such data may be compared -/
theorem lay_strs : ∀ ss : List Str, (∀ s ∈ ss, PyData.strOk s = true) → PyData.canLayAll0 (ss.map PyData.str) = true ∧ PyData.depthAll (ss.map PyData.str) = 0
  | [], _ => ⟨by simp [PyData.canLayAll0], by simp [PyData.depthAll]⟩
  | s :: r, h => by
    have ih := lay_strs r fun t ht => h t (List.mem_cons_of_mem _ ht)
    have h1 := h s List.mem_cons_self
    constructor
    · simp [PyData.canLayAll0, PyData.canLay0, h1, ih.1]
    · simp [PyData.depthAll, PyData.depth, ih.2]
theorem lay_sq {b : Bool} {ds : List PyData} : (sq b ds).canLay0 = PyData.canLayAll0 ds ∧ (sq b ds).depth = PyData.depthAll ds + 1 := by
  cases b
  · exact ⟨by simp [sq, PyData.canLay0], by simp [sq, PyData.depth]⟩
  · exact ⟨by simp [sq, PyData.canLay0], by simp [sq, PyData.depth]⟩
theorem lay_piece {b0 b1 : Bool} {p : List Str × Int} (h : PieceOk p) : (pieceD b0 b1 p).canLay0 = true ∧ (pieceD b0 b1 p).depth = 2 := by
  have l := lay_strs p.1 h.txt
  constructor
  · unfold pieceD
    rw [lay_sq.1]
    simp [PyData.canLayAll0, PyData.canLay0, symD, lay_sq.1, l.1]
  · unfold pieceD
    rw [lay_sq.2]
    simp [PyData.depthAll, PyData.depth, symD, lay_sq.2, l.2]
theorem lay_pieces {b0 b1 : Bool} : ∀ ps : List (List Str × Int), (∀ p ∈ ps, PieceOk p) → PyData.canLayAll0 (ps.map (pieceD b0 b1)) = true ∧ PyData.depthAll (ps.map (pieceD b0 b1)) ≤ 2
  | [], _ => ⟨by simp [PyData.canLayAll0], by simp [PyData.depthAll]⟩
  | p :: r, h => by
    have ih := lay_pieces (b0 := b0) (b1 := b1) r fun t ht => h t (List.mem_cons_of_mem _ ht)
    have h1 := lay_piece (b0 := b0) (b1 := b1) (h p List.mem_cons_self)
    constructor
    · simp [PyData.canLayAll0, h1.1, ih.1]
    · simp only [List.map_cons, PyData.depthAll, h1.2]
      omega
theorem shaped_parts {b0 b1 b2 : Bool} {ps : List (List Str × Int)} (h : ∀ p ∈ ps, PieceOk p) : SeqAt.shaped (partsD b0 b1 b2 ps) = true ∧ PyData.eqv (partsD b0 b1 b2 ps) (partsD b0 b1 b2 ps) = true := by
  have l := lay_pieces (b0 := b0) (b1 := b1) ps h
  have c : (partsD b0 b1 b2 ps).canLay0 = true := by
    unfold partsD
    rw [lay_sq.1]
    exact l.1
  refine ⟨?_, SeqAt.eqv_refl _ c⟩
  unfold SeqAt.shaped
  rw [c]
  unfold partsD
  rw [lay_sq.2]
  exact decide_eq_true (by omega)
end Pk
set_option Elab.async false
set_option maxRecDepth 100000
set_option maxHeartbeats 4000000
namespace Pk
open PySem L2
section
variable {P : Program} {w : World} {K : PySem.W.Frag} {mg : Str → Option Value} {base : Heap}
/-! height_of -/
def PiecesAt (K : PySem.W.Frag) (H : Hp) (v : V) (ps : List (List Str × Int)) : Prop := ∃ b0 b1 b2 : Bool, Dp K H v (partsD b0 b1 b2 ps)
def spHeight (K : PySem.W.Frag) : Sp := fun vs H Q _ => ∃ (v : V) (ps : List (List Str × Int)), vs = [v] ∧ PiecesAt K H v ps ∧ ps.length ≤ 1000 ∧ (∀ p ∈ ps, p.1.length ≤ 6) ∧
  ∀ H' : Hp, Same H H' → Q (.int (total ps)) H'
theorem dp_piece {K : PySem.W.Frag} {H : Hp} {x : V} {b0 b1 : Bool} {p : List Str × Int} (h : Dp K H x (pieceD b0 b1 p)) : ∃ a c ys, x = .ref a ∧ SqB b1 K H a [.ref c, .int p.2] ∧ SqB b0 K H c ys ∧ ys = p.1.map V.str := by
  obtain ⟨a, xs, rfl, h1, h2⟩ := dp_sq h
  cases h2 with
  | @cons y ys _ _ hy hys =>
  cases hys with
  | @cons z zs _ _ hz hzs =>
  cases hzs
  cases hz
  obtain ⟨c, us, rfl, h3, h4⟩ := dp_sq hy
  refine ⟨a, c, us, rfl, h1, h3, ?_⟩
  clear h1 h3 hy h
  generalize p.1 = ss at h4
  induction ss generalizing us with
  | nil => cases h4; rfl
  | cons s r ih =>
    cases h4 with
    | cons g1 g2 =>
      cases g1
      rw [ih _ g2]
      rfl
def lenSq (K : PySem.W.Frag) : List V → Hp → VK → Prop := fun xs H Q => ∃ p ys, xs = [V.ref p] ∧ (SqL K H p ys ∨ SqT K H p ys) ∧ Q (.int (ys.length : Nat)) H
theorem scHeight : FnScope ["pieces", "symbols", "times"] ["pieces"] (defScope sHeight) := ⟨rfl, rfl, rfl, by decide +kernel, rfl, by decide +kernel, by decide +kernel⟩
theorem ok_height {f : Addr} {fd : FuncData} (F : Fun K "height_of" "height_of" sHeight f fd) (T : TB mg) : FnOk P w K mg base CX0 1 f fd ["pieces"] (spHeight K) := by
  refine F.ok scHeight (fun vs H Q E h => ?_) (fun cdv A outer s H vs Q E hr h => ?_)
  · obtain ⟨v, ps, rfl, _⟩ := h
    rfl
  · obtain ⟨v, ps, rfl, ⟨b0, b1, b2, hD⟩, hl, h6, k⟩ := h
    refine ⟨_, pss_one (ps_ret (pe_callB (cr_sum rfl) (by rfl) T.sum (by decide +kernel) (pa_cons (pe_lc (own := [("symbols", 1), ("times", 2)]) (g := gSq b1 K 2 (gCons (gName 1) (gCons (gName 2) gNil))) (tt := tYes) (by rfl) scHeight.nd (pi_sq b2 (pv 0))
      (blkOk_by (own := [("symbols", 1), ("times", 2)]) (N := ["pieces", "symbols", "times"]) (sc := defScope sHeight) (by decide +kernel))
      (fun _ _ _ _ _ => pg_sq b1 (by rfl) (pgs_cons (pg_name (i := 1) scHeight.nd rfl (Or.inl rfl)) (pgs_cons (pg_name (i := 2) scHeight.nd rfl (Or.inl rfl)) pgs_nil))) (fun _ _ _ _ _ => pts_nil)
      (fun _ _ _ _ _ => pe_op op_mul (pe_callB (r := lenSq K) call_len_seq (by rfl) T.len PySem.boot_len (pa_cons (pv 1) pa_nil)) (pv 2))) pa_nil))), ?_⟩
    obtain ⟨a, us, rfl, hS, hA⟩ := dp_sq hD
    have lu : us.length = ps.length := by rw [dpa_len hA, List.length_map]
    refine isq_of ⟨_, rfl, a, rfl, ⟨_, hS⟩, fun D hD0 => lc_sq (b := b2) (K := K) (a := a) (xs := us) (fun i H' => Same H H' ∧ H' D = some (.lst (((ps.take i).map one).map V.int)))
      ⟨same_new hD0, upd_same⟩ (fun i H' _ h => hS.mono h.1) ?_ ?_⟩
    · rintro i x H1 hi ⟨s1, hD1⟩
      obtain ⟨d, ed, hd⟩ := dpa_get hA hi
      rw [List.getElem?_map] at ed
      obtain ⟨p, ep, rfl⟩ := Option.map_eq_some_iff.mp ed
      obtain ⟨a1, c, ys, rfl, h1, h2, rfl⟩ := dp_piece (dp_mono s1 _ _ hd)
      have p6 := h6 p (List.mem_of_getElem? ep)
      refine gsq_of ⟨a1, _, rfl, h1, rfl, ?_⟩
      refine ⟨_, _, rfl, _, _, rfl, rfl, rfl, _, rfl, c, _, rfl, h2.any, _, rfl, _, _, rfl, rfl, .inl ?_, _, hD1, ?_, same_mut s1 hD0, ?_⟩
      · rw [List.length_map]
        omega
      · rw [List.length_map, List.length_map, List.length_take]
        exact small100k (by omega)
      · rw [upd_same, take_succ_of ep, List.map_append, List.map_append, List.length_map]
        rfl
    · rintro H1 ⟨s1, hD1⟩
      rw [lu, List.take_length] at hD1
      exact ⟨D, _, rfl, SqL.of hD1, k _ s1⟩
end
end Pk
set_option Elab.async false
set_option maxRecDepth 100000
set_option maxHeartbeats 4000000
namespace Pk
open PySem L2
section
variable {P : Program} {w : World} {K : PySem.W.Frag} {mg : Str → Option Value} {base : Heap}
/-! the error TooLong -/
structure LongT (K : PySem.W.Frag) (mg : Str → Option Value) (C fI : Addr) : Prop where
  gC : mg "TooLong" = some (.ref C)
  ox : OexC K C
  iC : PySem.W.findIn K (.ref C) "__init__" = some (some (.ref fI))
  tI : PySem.W.typeIn K (.ref fI) = some (.type "function")
  no : PySem.W.findIn K (.ref C) "length" = some none
  gM : ∃ t, mg "MOST_UNFOLDED" = some (.int 10000 t)
def spLongI (_K : PySem.W.Frag) (C : Addr) : Sp := fun vs H Q _ => ∃ (a : Addr) (y : V), vs = [.ref a, y] ∧ H a = some (exo a C none) ∧ ∀ dx, H dx = none → dx ≠ a → Q .non (upd (upd H dx (exd dx [("length", y)])) a (exo a C (some dx)))
theorem scLongI : FnScope ["self", "length"] ["self", "length"] (defScope sLongInit) := ⟨rfl, rfl, rfl, by decide +kernel, rfl, by decide +kernel, by decide +kernel⟩
theorem ok_longI {f C : Addr} {fd : FuncData} (F : Fun K "__init__" "TooLong.__init__" sLongInit f fd) (T : OexC K C) (no : PySem.W.findIn K (.ref C) "length" = some none) : FnOk P w K mg base CX0 1 f fd ["self", "length"] (spLongI K C) := by
  refine F.ok scLongI (fun vs H Q E h => ?_) (fun cdv A outer s H vs Q E hr h => ?_)
  · obtain ⟨a, y, rfl, _⟩ := h
    rfl
  · obtain ⟨a, y, rfl, ha, k⟩ := h
    refine ⟨_, pss_one (ps_ost (pv 0) (pv 1)), ?_⟩
    exact ⟨_, rfl, _, rfl, a, C, rfl, T, no, .inl ⟨ha, fun dx h1 h2 => k dx h1 h2⟩⟩
/-! an own error made where nothing is handled: its context is None -/
theorem pmkN_own {X : Cx} {CX : CXT} {x : Str} {e : Expr} {es : List Expr} {ta : TA} {p pos : Pos} {C fI : Addr} {k : Nat} {fd : FuncData} {ps : List Str} {sp : Sp}
    (T : OexC X.K C)
    (iC : PySem.W.findIn X.K (.ref C) "__init__" = some (some (.ref fI)))
    (tI : PySem.W.typeIn X.K (.ref fI) = some (.type "function"))
    (F1 : FnOk X.prog X.w X.K X.mg X.base CX k fI fd ps sp) (hr : Room (k + 1) X.A)
    (hb : Binds X.K fd ps []) (hx : Passes CX X (fun _ _ _ => False))
    (hg : Gl X x) (hm : X.mg x = some (.ref C)) (ha : PA X (e :: es) ta) (hdb : (x == ("__debug__" : Str)) = false := by decide)
    (he : starEach (e :: es) X.env = (false, eval e X.env) :: starEach es X.env := by rfl)
    (hpl : (backTo pos (starEach es X.env)).any (·.1) = false := by rfl) :
    L2N.PMk X (.Call (.Name x p) (e :: es) [] pos) (tMkO C sp [] ta) := fun pins s σ H Q I h => by
  obtain ⟨nm, q, N, bs, bm, sn, sub, ab, col, dd, k0, k1, k2, k3, k5, cC, mC⟩ := T.cls
  apply wpAny_Call_Name_kw
  refine ld_glob I hg hm ?_ hdb
  have args := ha.run pos pins s σ H _ I h
  apply PySem.W.callWith_K (h₀ := X.base) I.ok.mod.kin T.kC ?_ he hpl
  refine thn args ?_
  rintro us ⟨hp, g, dr, tk, os⟩ ⟨vs, H1, I1, r1, hz, q1⟩
  refine ⟨I1.kIn, ?_⟩
  have grown := Nat.le_succ hp.objs.size
  have n1 : H1 (hp.objs.size + 1) = none := I1.hok.fresh grown
  have q2 := q1 _ n1
  rw [List.append_nil] at q2
  have kept : ∀ b o, hp.get? b = some o → ((hp.push (PySem.W.kdv_tup us)).push (PySem.HandSPX.excO C hp.objs.size)).get? b = some o := by
    intro b o z
    exact Heap.get?_push_of_some _ (Heap.get?_push_of_some _ z)
  have laid : ((hp.push (PySem.W.kdv_tup us)).push (PySem.HandSPX.excO C hp.objs.size)).get? (hp.objs.size + 1) = some (PySem.HandSPX.excO C hp.objs.size) := by
    heap_get
  have I2 := I1.laid (t' := tk) (a := hp.objs.size + 1) (o := exo (hp.objs.size + 1) C none) kept grown (exo_ok laid)
  have r2 : Vals (V.ref (hp.objs.size + 1) :: vs) (Value.ref (hp.objs.size + 1) :: us) := Paired.cons rfl r1
  have few : us.length ≤ sizeLine := by
    have l1 := Paired.length r1
    rw [sizeLine_eq]
    omega
  have lens : (Value.ref (hp.objs.size + 1) :: us ++ []).length = ps.length := by
    rw [List.append_nil, ← F1.len _ _ _ _ q2]
    exact r2.length.symm
  have bnd := hb _ (Value.ref (hp.objs.size + 1) :: us) I2.kIn lens
  rw [List.append_nil] at bnd
  have ran := F1.run _ X.stack _ _ ⟨Value.ref (hp.objs.size + 1) :: us, []⟩ (Value.ref (hp.objs.size + 1) :: us) _ _ (fun _ _ _ => False) (hr.make C us []) (I2.env0.make C us []) bnd r2 q2
  apply wpAny_call
  apply PySem.HandSPX.call_own PySem.F.excBase_ValueError (fun Y => PySem.HandSPX.refsVE_contains Y bm mC) (I1.kIn _ _ cC) (PySem.W.looks_findIn I1.kIn iC) (fun self => PySem.W.bind_fn I1.kIn self tI) few
  apply codeAny_mono ran
  intro r s2 hq
  match r, hq with
  | .error er, hq => exact hx pins σ _ _ er s2 I2 hq
  | .ok (.ret u), hq =>
    obtain ⟨v, H2, oq, bare, un, hok, rv, ev, d, fs, ea, ed, nd, q3⟩ := hq
    subst ev
    obtain ⟨h2, g2, d2, t2, os2⟩ := s2
    obtain ⟨t0, G, J, kG, ge, hoe, na⟩ := mk_end0 (d2 := d2) (t2 := t2) I1 grown kept un hok oq bare ea ed nd
    refine ⟨rv, hp.objs.size + 1, _, _, ⟨G, g2, d2, t2, os2⟩, _, .ref C, some d, rfl, J, kG, ge, hoe, ⟨rfl, rfl, ?_⟩, rfl, rfl, na, rfl, bare, raises_own T.exC T.tyC, q3⟩
    intro ws hws
    cases hws
    rfl
  | .ok .next, hq => exact hq.elim
  | .ok .brk, hq => exact hq.elim
  | .ok .cont, hq => exact hq.elim
/-- the rule for a def whose errors are of this kind -/
theorem fun_okN {x qual : Str} {st : Stmt} {f : Addr} {fd : FuncData} {N ps : List Str} {k : Nat} {sp : Sp} (F : Fun K x qual st f fd) (S : FnScope N ps (defScope st)) (len : ∀ vs H Q E, sp vs H Q E → vs.length = ps.length)
    (body : ∀ (cdv : Value) (A : Around) (outer : List Env) (s : Shared) (H : Hp) (vs : List V) (Q : VK) (E : XK), Room k (A.deeper (PyProof.Rows.envOfC qual (defScope st) s.heap.objs.size f cdv)) → sp vs H Q E →
      ∃ t, PSs (cxOf (L2N.CX P w) P w K mg base N qual (defScope st) f cdv A outer s H E) (defBody st) t ∧ t { nx := fun _ G => Q .non G, rt := Q } (L2.start N vs) H) :
    FnOk P w K mg base (L2N.CX P w) (k + 1) f fd ps sp := by
  obtain ⟨_, _, _, _, _, _, _, _, _, rfl, lk, cd⟩ := F.ex
  exact fn_of lk cd S len fun A outer s H vs Q E hr h => body _ A outer s H vs Q E hr h
theorem takesN0 {X : Cx} : L2N.Takes X (fun _ _ _ _ => False) := by
  rintro _ _ ⟨_, _, _, _, _, _, _, _, _, _, _, _, _, _, _, _, no⟩
  exact no.elim
/-! unfold -/
def spUnfold (K : PySem.W.Frag) (C : Addr) : Sp := fun vs H Q E => ∃ (v : V) (ps : List (List Str × Int)), vs = [v] ∧ PiecesAt K H v ps ∧ ps.length ≤ 1000 ∧ (∀ p ∈ ps, PieceOk p) ∧
  (10000 < total ps → ∀ (d : Addr) (H' : Hp), H d = none → Same H H' → H' d = some (.xd [("length", .int (total ps))]) → E (.ref C) (some d) H') ∧
  (total ps ≤ 10000 → ∀ (p : Addr) (H' : Hp), Same H H' → H' p = some (.tup ((flat ps).map V.str)) → Q (.ref p) H')
theorem scUnfold : FnScope ["pieces", "height", "unfolded", "symbols", "times"] ["pieces"] (defScope sUnfold) := ⟨rfl, rfl, rfl, by decide +kernel, rfl, by decide +kernel, by decide +kernel⟩
theorem ok_unfold {f fH fI C : Addr} {fd fdH fdI : FuncData} (F : Fun K "unfold" "unfold" sUnfold f fd) (T : TB mg) (L : LongT K mg C fI) (FH : Fun K "height_of" "height_of" sHeight fH fdH) (bH : Binds K fdH ["pieces"] []) (gH : mg "height_of" = some (.ref fH))
    (FI : Fun K "__init__" "TooLong.__init__" sLongInit fI fdI) (bI : Binds K fdI ["self", "length"] []) : FnOk P w K mg base (L2N.CX P w) 3 f fd ["pieces"] (spUnfold K C) := by
  have GH : FnOk P w K mg base CX0 1 fH fdH ["pieces"] (spHeight K) := ok_height FH T
  have GI : FnOk P w K mg base CX0 1 fI fdI ["self", "length"] (spLongI K C) := ok_longI FI L.ox L.no
  obtain ⟨tM, gM⟩ := L.gM
  refine fun_okN F scUnfold (fun vs H Q E h => ?_) (fun cdv A outer s H vs Q E hr h => ?_)
  · obtain ⟨v, ps, rfl, _⟩ := h
    rfl
  · obtain ⟨v, ps, rfl, ⟨b0, b1, b2, hD⟩, hl, hok, kE, kQ⟩ := h
    have hr1 : Room 1 _ := hr.mono (by decide)
    refine ⟨_, pss_cons (ps_set (i := 1) scUnfold.nd rfl (Or.inl rfl) (pe_call GH hr1 (by rfl) gH FH.kp bH .nil pass0 (pa_cons (pv 0) pa_nil)))
      (pss_cons (ps_if (pt_cmp (pc_gt (pv 1) (pe_glob (v := .int 10000) (by rfl) gM ⟨_, rfl⟩))) (pss_one (L2N.ps_raise rfl (L2N.takes_of rfl rfl rfl rfl) (pmkN_own L.ox L.iC L.tI GI hr bI pass0 (by rfl) L.gC (pa_cons (pv 1) pa_nil)))) pss_nil)
      (pss_cons (ps_set (i := 2) scUnfold.nd rfl (Or.inl rfl) (pe_lst pa_nil))
      (pss_cons (ps_for (tb := tIfS (fun σ H Q => tVar 3 σ H fun x H' => ∃ k, TruV K x H' k ∧ Q k H') (tDrop (tBM K "list" rExtend (tVar 2) (tCons (tOp rRep (tCB (fun xs H Q => ∃ p ys, xs = [.ref p] ∧ (SqL K H p ys ∨ SqT K H p ys) ∧ ∀ l, H l = none → Q (.ref l) (upd H l (.lst ys))) (tCons (tVar 3) tNil)) (tVar 4)) tNil))) tNext)
          (by exact passes_of rfl) rfl (pi_sq b2 (pv 0)) (pg_sq b1 (by rfl) (pgs_cons (pg_name (i := 3) scUnfold.nd rfl (Or.inl rfl)) (pgs_cons (pg_name (i := 4) scUnfold.nd rfl (Or.inl rfl)) pgs_nil)))
        (pss_one (ps_if (pt_truth (pv 3) (by intro _; rfl)) (pss_one (ps_expr (pe_bm PySem.F.plainAttrs_list PySem.F.slot_list_extend PySem.F.type_list_extend mt_extend (pv 2) (pa_cons
          (pe_op op_rep (pe_callTy call_list_of (by rfl) T.list PyProof.Rows.Boot.list (pa_cons (pv 3) pa_nil)) (pv 4)) pa_nil)))) pss_nil)))
      (pss_one (ps_ret (pe_callTy call_tuple_of (by rfl) T.tuple PyProof.Rows.Boot.tuple (pa_cons (pv 2) pa_nil))))))), ?_⟩
    have hok6 : ∀ p ∈ ps, p.1.length ≤ 6 := fun p hp => (hok p hp).few
    refine ⟨_, rfl, v, ps, rfl, ⟨b0, b1, b2, hD⟩, hl, hok6, fun H1 s1 => ?_⟩
    refine ⟨_, rfl, _, _, rfl, rfl, _, rfl, ?_⟩
    refine ite2 (fun c => ?_) (fun c => ?_)
    · have c' : 10000 < total ps := of_decide_eq_true c
      refine ⟨_, rfl, (by show 1 ≤ 1000; decide), fun a ha => ⟨a, _, rfl, upd_same, fun dx hdx nda => ?_⟩⟩
      have hdx1 : H1 dx = none := by
        rw [upd_ne nda] at hdx
        exact hdx
      refine ⟨rfl, dx, _, upd_same, (by rw [upd_ne nda, upd_same]), hdx1, kE c' dx _ (s1.free hdx1) ?_ upd_same⟩
      intro b o e
      have e1 := s1 b o e
      have nb : b ≠ dx := ne_of_none e1 hdx1
      have na : b ≠ a := ne_of_none e1 ha
      rw [upd_ne nb, del_ne na, upd_ne na, upd_ne nb, upd_ne na]
      exact e1
    · have c' : total ps ≤ 10000 := by
        have q : ¬ (10000 < total ps) := fun q => c (decide_eq_true q)
        omega
      refine ⟨Nat.zero_le _, fun q hq => ?_⟩
      have hqH := s1.free hq
      obtain ⟨a, us, rfl, hS, hA⟩ := dp_sq hD
      have lu : us.length = ps.length := by rw [dpa_len hA, List.length_map]
      have s2 : Same H (upd H1 q (.lst [])) := s1.trans (same_new hq)
      refine isq_of ⟨_, rfl, a, rfl, ⟨_, hS.mono s2⟩, for_sq (b := b2) (K := K) (a := a) (xs := us) (fun i σ H' => Same H H' ∧ ∃ (v3 v4 : Option V), σ = [some (.ref a), some (.int (total ps)), some (.ref q), v3, v4] ∧ H' q = some (.lst ((flat (ps.take i)).map V.str)))
        ⟨s2, none, none, rfl, upd_same⟩ (fun i σ H' _ h => hS.mono h.1) ?_ ?_⟩
      · rintro i x σ H2 hi ⟨s3, v3, v4, rfl, hq2⟩
        obtain ⟨d, ed, hd⟩ := dpa_get hA hi
        rw [List.getElem?_map] at ed
        obtain ⟨p, ep, rfl⟩ := Option.map_eq_some_iff.mp ed
        have hp := List.mem_of_getElem? ep
        obtain ⟨a1, c1, ys, rfl, h1, h2, rfl⟩ := dp_piece (dp_mono (hide_base s3 hqH) _ _ hd)
        have ok1 := hok p hp
        have h2' := h2.mono hide_le
        have hne : (p.1.map V.str).isEmpty = false := by
          have := ok1.one
          cases e : p.1 with
          | nil => rw [e] at this; exact absurd this (by decide)
          | cons _ _ => rfl
        have tk : total (ps.take (i + 1)) = total (ps.take i) + one p := by rw [take_succ_of ep, total_snoc]
        have t1 := total_take hok (i + 1)
        have okt : ∀ p ∈ ps.take i, PieceOk p := fun p hp => hok p (List.mem_of_mem_take hp)
        have t0 := total_nonneg okt
        have o0 := one_nonneg ok1.pos
        have o1 := one_len ok1.pos
        have fl := flat_len okt
        have rl := rep_len p.2.toNat p.1
        have pt : p.2 ≤ one p := by
          unfold one
          have h1 := ok1.one
          have := Int.mul_le_mul_of_nonneg_right (show (1 : Int) ≤ (p.1.length : Int) by omega) ok1.pos
          omega
        have ppos := ok1.pos
        refine gsq_of ⟨a1, _, rfl, h1.mono hide_le, rfl, _, _, rfl, _, _, rfl, rfl, ?_⟩
        refine ⟨_, rfl, true, ?_, ?_⟩
        · rcases h2'.any with h | h
          · exact .inl ⟨_, h, by rw [hne]; rfl⟩
          · exact .inr (.inl ⟨_, h, by rw [hne]; rfl⟩)
        refine iteT ?_
        refine ⟨_, rfl, .inl ⟨rfl, _, SqL.of hq2⟩, _, rfl, c1, _, rfl, h2'.any, fun l hl => ?_⟩
        refine ⟨_, rfl, l, _, _, rfl, rfl, upd_same, by omega, by omega, ?_, fun m hm => ?_⟩
        · rw [List.length_map, Nat.mul_comm]
          exact Nat.le_trans (show p.2.toNat * p.1.length ≤ 100000 by omega) (by decide)
        refine ⟨q, m, _, _, rfl, rfl, same_new hm _ _ (same_new hl _ _ hq2), upd_same, ?_, ?_⟩
        · rw [rep_map, List.length_map, List.length_map]
          exact Nat.le_trans (show _ ≤ 100000 by omega) (by decide)
        · refine ⟨same_mut ((s3.trans (same_new hl)).trans (same_new hm)) hqH, _, _, rfl, ?_⟩
          rw [upd_same, take_succ_of ep, flat_snoc, List.map_append, rep_map]
      · rintro σ H2 ⟨s3, v3, v4, rfl, hq2⟩
        rw [lu, List.take_length] at hq2
        exact ⟨_, rfl, q, _, rfl, .inl ⟨SqL.of hq2, fun r hr => kQ c' r _ (s3.trans (same_new hr)) upd_same⟩⟩
end
end Pk
set_option Elab.async false
set_option maxRecDepth 100000
set_option maxHeartbeats 4000000
namespace Pk
open PySem L2
/-! f(k = v, ..), every parameter by its name -/
def AllKw (fd : FuncData) (ps : List Str) : Prop := ∀ (s : Shared) (ws : List Value), ws.length = ps.length → BindsTo s fd ⟨[], ps.zip ws⟩ (ps.zip ws)
theorem pe_kw {X : Cx} {CX : CXT} {x : Str} {p pos : Pos} {kws : List Keyword} {tk : TA} {k : Nat} {f : Addr} {fd : FuncData} {ps : List Str} {sp : Sp} {E : L2.St → XK}
    (F : FnOk X.prog X.w X.K X.mg X.base CX k f fd ps sp) (hr : Room k X.A) (hg : Gl X x) (hm : X.mg x = some (.ref f))
    (hk : PySem.W.keepIn X.K (.ref f) = true) (hb : AllKw fd ps) (hx : ∀ σ, PassesAt CX X σ (E σ)) (hkw : PK X kws tk)
    (hall : (backToKw pos (keywordEach kws X.env)).all (·.1.isSome) = true := by rfl)
    (hks : (backToKw pos (keywordEach kws X.env)).filterMap (·.1) = ps := by rfl)
    (hdb : (x == ("__debug__" : Str)) = false := by decide)
    (hpl : ((backTo pos (starEach [] X.env)).any (·.1) || (backToKw pos (keywordEach kws X.env)).any (·.1.isNone)) = false := by rfl) :
    PE X (.Call (.Name x p) [] kws pos) (tCallS sp E tk) := ⟨fun pins s σ H Q I h => by
  apply wpAny_Call_Name_kw
  refine ld_glob I hg hm ?_ hdb
  apply PySem.W.callWith_KW0 (h₀ := X.base) I.ok.mod.kin hk hall ?_ hpl
  refine thn (hkw.run pos pins s σ H _ I h) ?_
  rintro ws s2 ⟨zs, H2, I2, rz, q⟩
  refine ⟨I2.kIn, ?_⟩
  rw [hks]
  have hl : ws.length = ps.length := by
    rw [← F.len _ _ _ _ q]
    exact rz.length.symm
  apply wpAny_call
  apply codeAny_mono (F.run X.A X.stack s2 H2 ⟨[], ps.zip ws⟩ ws zs Q (E σ) hr I2.env0 (hb s2 ws hl) rz q)
  intro r s' hq
  match r, hq with
  | .error e, hq => exact hx σ pins H2 s2 e s' I2 hq
  | .ok (.ret u), hq => exact I2.after hq
  | .ok .next, hq => exact hq.elim
  | .ok .brk, hq => exact hq.elim
  | .ok .cont, hq => exact hq.elim⟩
theorem pass0S {X : Cx} : ∀ σ, PassesAt CX0 X σ (E0) := fun _ _ _ _ _ _ _ h => h.elim

/-! isinstance(e, ..) of the error that a suite holds, which has its dict -/
structure ErrT (K : PySem.W.Frag) (D : Addr) : Prop where
  cl : (PySem.W.clsIn K D).isSome = true
  ga : PySem.W.findIn K (.ref D) "__getattribute__" = some (some (.builtin "BaseException.__getattribute__"))
  gg : PySem.W.findIn K (.ref D) "__getattr__" = some none
  sb : PySem.W.subIn K (.ref D) (.type "BaseException") = some true
  hd : PySem.W.hasDictIn K D = true
  ca : PySem.W.findIn K (.ref D) "__class__" = some (some (.builtin "object.__class__"))
  cg : PySem.W.specialIn K (.builtin "object.__class__") "__get__" = some (some (.builtin "getset_descriptor.__get__"))
  ct : PySem.W.takesIn K (.builtin "object.__class__") = some true
  mo : PySem.W.mroIn K D (.type "object") = some true
def HasXd (H : Hp) (d : Option Addr) : Prop := ∃ dd fs, d = some dd ∧ H dd = some (.xd fs)
def rIsD (K : PySem.W.Frag) (D a : Addr) (cls : Value) (d : Option Addr) : List V → Hp → VK → Prop := fun xs H Q => ∃ (c : V) (u : Value) (b : Bool), xs = [.ref a, c] ∧ cls = .ref D ∧ HasXd H d ∧ ClsV c u ∧ PySem.W.kitOne K (.ref D) u = some b ∧ Q (.bl b) H
def rIsDT (K : PySem.W.Frag) (D a : Addr) (cls : Value) (d : Option Addr) : List V → Hp → VK → Prop := fun xs H Q => ∃ (tp : Addr) (cs : List V) (us : List Value) (b : Bool), xs = [.ref a, .ref tp] ∧ cls = .ref D ∧ HasXd H d ∧ H tp = some (.tup cs) ∧ Paired ClsV cs us ∧ PySem.W.kitAny K (.ref D) us = some b ∧ Q (.bl b) H
theorem inst_of {X : Cx} {a D : Addr} {oe : Obj} {cls : Value} {d : Option Addr} {pn pins : List (Addr × Obj)} {σ : L2.St} {H : Hp} {s : Shared} (hz : Zc cls d oe) (hf : ∃ vs, oe.data = .fields vs) (hc : cls = .ref D) (hd : HasXd H d)
    (I : Inv (X.suite a ((a, oe) :: pn)) pins σ H s) : ∃ od, PySem.W.InstAt s.heap a oe D (some od) := by
  obtain ⟨dd, fs, ed, hdd⟩ := hd
  obtain ⟨got, _⟩ := I.pin (a, oe) (List.mem_append.mpr (.inl List.mem_cons_self))
  obtain ⟨vs, hv⟩ := hf
  have xd : ObjOk (X.suite a ((a, oe) :: pn)).prog (X.suite a ((a, oe) :: pn)).w H s.heap dd (.xd fs) := I.hok dd _ hdd
  obtain ⟨mA, hns, _⟩ := xd
  obtain ⟨od, ho, _⟩ := lookIn_ns hns
  refine ⟨od, got, hz.1.trans hc, ?_, ?_⟩
  · unfold PySem.W.notCls
    rw [hv]
  · rw [hz.2, ed]
    exact ho
theorem kit_err {K : PySem.W.Frag} {a D : Addr} {oe od : Obj} (T : ErrT K D) : PySem.W.KitX K (.ref a) (.ref D) (fun h => PySem.W.InstAt h a oe D (some od)) :=
  PySem.W.kitx_exc T.cl T.ga T.gg T.sb T.ca T.cg T.ct T.mo
theorem call_isD {X : Cx} {a D : Addr} {oe : Obj} {cls : Value} {d : Option Addr} {pn : List (Addr × Obj)} (T : ErrT X.K D) (hz : Zc cls d oe) (hf : ∃ vs, oe.data = .fields vs) : CallR (X.suite a ((a, oe) :: pn)) (.builtin "isinstance") (rIsD X.K D a cls d) := by
  rintro pins s σ H xs us Q I r ⟨c, u, b, rfl, hc, hd, k, e, q⟩
  obtain ⟨u1, u2, rfl, r1, r2⟩ := vals2 r
  cases r1
  have e2 := k.eq r2
  subst e2
  obtain ⟨od, J⟩ := inst_of hz hf hc hd I
  exact PySem.W.kia_one (kit_err T) I.kIn J e (fun z => nomatch z) fun tk => ⟨.bl b, H, I.tok tk, rfl, q⟩
theorem call_isDT {X : Cx} {a D : Addr} {oe : Obj} {cls : Value} {d : Option Addr} {pn : List (Addr × Obj)} (T : ErrT X.K D) (hz : Zc cls d oe) (hf : ∃ vs, oe.data = .fields vs) : CallR (X.suite a ((a, oe) :: pn)) (.builtin "isinstance") (rIsDT X.K D a cls d) := by
  rintro pins s σ H xs us Q I r ⟨tp, cs, ws, b, rfl, hc, hd, hT, k, e, q⟩
  obtain ⟨u1, u2, rfl, r1, r2⟩ := vals2 r
  cases r1
  cases r2
  obtain ⟨od, J⟩ := inst_of hz hf hc hd I
  have tup : ObjOk (X.suite a ((a, oe) :: pn)).prog (X.suite a ((a, oe) :: pn)).w H s.heap tp (.tup cs) := I.hok tp _ hT
  obtain ⟨_, its, rv, ⟨oc, oo, dt, sl⟩, h1, h2, n, h3⟩ := tup
  have e3 := ClsV.all k rv
  subst e3
  simp only at h2 h3
  subst h2 h3
  exact PySem.W.kia_tup (kit_err T) I.kIn J h1 e (fun z => nomatch z) fun tk => ⟨.bl b, H, I.tok tk, rfl, q⟩

/-! the helpers, called while an error is handled -/
section
variable {P : Program} {w : World} {K : PySem.W.Frag} {mg : Str → Option Value} {base : Heap}
theorem fun_okH {CX : CXT} {x qual : Str} {st : Stmt} {f : Addr} {fd : FuncData} {N ps : List Str} {k : Nat} {sp : Sp} (F : Fun K x qual st f fd) (S : FnScope N ps (defScope st)) (len : ∀ vs H Q E, sp vs H Q E → vs.length = ps.length)
    (body : ∀ (cdv : Value) (A : Around) (outer : List Env) (s : Shared) (H : Hp) (vs : List V) (Q : VK) (E : XK) (p : Addr × Obj), L2H.Hot1 A p → L2H.RoomH k (A.deeper (PyProof.Rows.envOfC qual (defScope st) s.heap.objs.size f cdv)) → sp vs H Q E →
      ∃ t, PSs (L2H.cxH CX P w K mg base N qual (defScope st) f cdv A outer s H E p) (defBody st) t ∧ t { nx := fun _ G => Q .non G, rt := Q } (L2.start N vs) H) :
    L2H.FnH P w K mg base CX (k + 1) f fd ps sp := by
  obtain ⟨_, _, _, _, _, _, _, _, _, rfl, lk, cd⟩ := F.ex
  exact L2H.fn_ofH lk cd S len fun A outer s H vs Q E p hot hr h => body _ A outer s H vs Q E p hot hr h
theorem ok_wholeH {f : Addr} {fd : FuncData} (F : Fun K "_law_whole" "_law_whole" sWhole f fd) (T : TB mg) : L2H.FnH P w K mg base CX0 1 f fd ["value"] spWhole := by
  refine fun_okH F scWhole (fun vs H Q E h => ?_) (fun cdv A outer s H vs Q E p hot hr h => ?_)
  · obtain ⟨n, rfl, _⟩ := h
    rfl
  · obtain ⟨n, rfl, k⟩ := h
    refine ⟨_, pss_one (ps_ret (pe_and (pe_callB call_isi (by rfl) T.isi (by decide +kernel) (pa_cons (pv 0) (pa_cons (pe_bltn (v := .ty "int") (by rfl) T.int PyProof.Rows.Boot.int rfl) pa_nil)))
      (pe_one (pe_not (pe_callB call_isi (by rfl) T.isi (by decide +kernel) (pa_cons (pv 0) (pa_cons (pe_bltn (v := .ty "bool") (by rfl) T.bool PyProof.Rows.Boot.bool rfl) pa_nil))))))), ?_⟩
    refine ⟨_, rfl, _, _, _, _, true, rfl, .ty _, .base (.int _), kit_ty (by decide +kernel), _, rfl, ?_⟩
    refine iteT ?_
    refine ⟨_, rfl, _, _, _, _, false, rfl, .ty _, .base (.int _), kit_ty (by decide +kernel), _, rfl, k⟩
def spSameI : Sp := fun vs H Q _ => ∃ n : Int, vs = [.int n, .int n] ∧ Q (.bl true) H
theorem ok_sameH {f fW : Addr} {fd fdW : FuncData} (F : Fun K "_law_same" "_law_same" sSame f fd) (T : TB mg) (FW : Fun K "_law_whole" "_law_whole" sWhole fW fdW) (bW : Binds K fdW ["value"] []) (gW : mg "_law_whole" = some (.ref fW)) :
    L2H.FnH P w K mg base CX0 2 f fd ["told", "due"] spSameI := by
  have GW : L2H.FnH P w K mg base CX0 1 fW fdW ["value"] spWhole := ok_wholeH FW T
  refine fun_okH F scSame (fun vs H Q E h => ?_) (fun cdv A outer s H vs Q E p hot hr h => ?_)
  · obtain ⟨n, rfl, _⟩ := h
    rfl
  · obtain ⟨n, rfl, k⟩ := h
    refine ⟨_, pss_cons (ps_if (pt_val (pe_callB call_isi (by rfl) T.isi (by decide +kernel) (pa_cons (pv 1) (pa_cons (pe_bltn (v := .ty "tuple") (by rfl) T.tuple PyProof.Rows.Boot.tuple rfl) pa_nil)))) pss_never pss_nil)
      (pss_cons (ps_if (pt_cmp (pc_isN (pv 1))) (pss_one (ps_ret (pe_cmp (pc_isN (pv 0)) rfl))) pss_nil)
      (pss_cons (ps_if (pt_val (pe_callB call_isi (by rfl) T.isi (by decide +kernel) (pa_cons (pv 1) (pa_cons (pe_bltn (v := .ty "bool") (by rfl) T.bool PyProof.Rows.Boot.bool rfl) pa_nil)))) pss_never pss_nil)
      (pss_cons (ps_if (pt_val (pe_callB call_isi (by rfl) T.isi (by decide +kernel) (pa_cons (pv 1) (pa_cons (pe_bltn (v := .ty "int") (by rfl) T.int PyProof.Rows.Boot.int rfl) pa_nil))))
        (pss_one (ps_ret (pe_and (L2H.pe_callH GW hr ⟨p, hot, List.mem_cons_self⟩ (by rfl) gW FW.kp bW (pass0S) (pa_cons (pv 0) pa_nil)) (pe_one (pe_cmpR op_eq (pv 0) (pv 1) (nomark _)))))) pss_nil)
      pss_never))), ?_⟩
    refine ⟨_, rfl, _, _, _, _, false, rfl, .ty _, .base (.int _), kit_ty (by decide +kernel), _, rfl, ?_⟩
    refine iteF ?_
    refine ⟨_, rfl, _, rfl, ?_⟩
    refine iteF ?_
    refine ⟨_, rfl, _, _, _, _, false, rfl, .ty _, .base (.int _), kit_ty (by decide +kernel), _, rfl, ?_⟩
    refine iteF ?_
    refine ⟨_, rfl, _, _, _, _, true, rfl, .ty _, .base (.int _), kit_ty (by decide +kernel), _, rfl, ?_⟩
    refine iteT ?_
    refine ⟨_, rfl, _, rfl, _, rfl, ?_⟩
    refine iteT ?_
    refine ⟨_, rfl, _, rfl, rfl, ?_⟩
    rw [decide_eq_true rfl]
    exact k
end
end Pk
set_option Elab.async false
set_option maxRecDepth 100000
set_option maxHeartbeats 8000000
namespace Pk
open PySem L2
abbrev sRight : Stmt := top 32
/-- the classes that the law names -/
structure ErrsT (K : PySem.W.Frag) (mg : Str → Option Value) (C R a1 a2 a3 a4 a5 a6 a7 a8 a9 b1 b2 b3 b4 b5 b6 b7 b8 b9 : Addr) : Prop where
  gR : mg "RecallError" = some (.ref R)
  m1 : mg "BadMachine" = some (.ref a1)
  m2 : mg "BadLine" = some (.ref a2)
  m3 : mg "BadText" = some (.ref a3)
  m4 : mg "Guesses" = some (.ref a4)
  m5 : mg "BadStanding" = some (.ref a5)
  m6 : mg "BadSurface" = some (.ref a6)
  m7 : mg "BadSplice" = some (.ref a7)
  m8 : mg "NothingToUndo" = some (.ref a8)
  m9 : mg "BadDeed" = some (.ref a9)
  n1 : mg "BadTree" = some (.ref b1)
  n2 : mg "DoubleName" = some (.ref b2)
  n3 : mg "NoSuchProcedure" = some (.ref b3)
  n4 : mg "BadToken" = some (.ref b4)
  n5 : mg "UnlikeLetters" = some (.ref b5)
  n6 : mg "BadCode" = some (.ref b6)
  n7 : mg "BadPaper" = some (.ref b7)
  n8 : mg "BadGrammar" = some (.ref b8)
  n9 : mg "NoSuchProgram" = some (.ref b9)
  vE : mg "ValueError" = none
  kA : PySem.W.kitAny K (.ref C) [.ref a1, .ref a2, .ref a3, .ref a4, .ref a5, .ref a6, .ref a7, .ref a8, .ref a9] = some false
  kB : PySem.W.kitAny K (.ref C) [.ref b1, .ref b2, .ref b3, .ref b4, .ref b5, .ref b6, .ref b7, .ref b8, .ref b9] = some false
  kT : PySem.W.kitOne K (.ref C) (.ref C) = some true
  kV : PySem.W.kitOne K (.ref C) (.type "ValueError") = some true
  ex : PySem.W.exmOne K (.ref C) (.ref R) = some true
def tRefs : List Addr → TA
  | [] => tNil
  | c :: r => tCons (tC (.ref c)) (tRefs r)
def tIsT (K : PySem.W.Frag) (C a : Addr) (cls : Value) (d : Option Addr) (cs : List Addr) : TE := tCB (rIsDT K C a cls d) (tCons (tVar 9) (tCons (tTup (tRefs cs)) tNil))
def tIs1 (K : PySem.W.Frag) (C a : Addr) (cls : Value) (d : Option Addr) (c : V) : TE := tCB (rIsD K C a cls d) (tCons (tVar 9) (tCons (tC c) tNil))
def tSuite (K : PySem.W.Frag) (C : Addr) (A B : List Addr) : Addr → Value → Option Addr → TS := fun a cls d =>
  tSeq (tAsg (tIsT K C a cls d A) (gName 10))
  (tSeq (tAsg (tIsT K C a cls d B) (gName 11))
  (tSeq (tIfS (tOr (tB (tVar 10)) (tOr (tB (tVar 11)) (tOr (tNot (tB (tIs1 K C a cls d (.ref C)))) (tNot (tB (tIs1 K C a cls d (.ty "ValueError"))))))) (tRet (tC (.bl false))) tNext)
  (tSeq (tIfS (tNot (tB (tCallS spSameI (fun _ => E0) (tCons (tXf a cls d C "length" (tVar 9)) (tCons (tVar 4) tNil))))) (tRet (tC (.bl false))) tNext)
    (tAsg (tXf a cls d C "length" (tVar 9)) (gName 7)))))
def tryS : Stmt := (defBody sRight).getD 8 (.Pass ⟨0, 0, 0, 0⟩)
def tryBody (s : Stmt) : List Stmt := match s with
  | .Try b _ _ _ _ => b
  | _ => []
def refs9 (a1 a2 a3 a4 a5 a6 a7 a8 a9 : Addr) : List V := [.ref a1, .ref a2, .ref a3, .ref a4, .ref a5, .ref a6, .ref a7, .ref a8, .ref a9]
theorem pairs9 (a1 a2 a3 a4 a5 a6 a7 a8 a9 : Addr) : Paired ClsV [.ref a1, .ref a2, .ref a3, .ref a4, .ref a5, .ref a6, .ref a7, .ref a8, .ref a9] [.ref a1, .ref a2, .ref a3, .ref a4, .ref a5, .ref a6, .ref a7, .ref a8, .ref a9] :=
  .cons (.own _) (.cons (.own _) (.cons (.own _) (.cons (.own _) (.cons (.own _) (.cons (.own _) (.cons (.own _) (.cons (.own _) (.cons (.own _) .nil))))))))
theorem look_one {v : V} : List.lookup ("length" : Str) [(("length" : Str), v)] = some v := by simp [List.lookup]
section
variable {P : Program} {w : World} {K : PySem.W.Frag} {mg : Str → Option Value} {base : Heap}
theorem scRight : FnScope ["parts", "shape", "given", "kept", "total", "due", "piece", "length", "back", "e", "other", "third"] ["parts", "shape"] (defScope sRight) := ⟨rfl, rfl, rfl, by decide +kernel, rfl, by decide +kernel, by decide +kernel⟩
def spRight (K : PySem.W.Frag) : Sp := fun vs H Q _ => ∃ (l : Addr) (us : List V) (ps : List (List Str × Int)) (sh : Int), vs = [.ref l, .int sh] ∧ SqL K H l us ∧ DpAll K H us (ps.map (pieceD false false)) ∧ ps.length ≤ 1000 ∧ (∀ p ∈ ps, PieceOk p) ∧
  ∀ H' : Hp, Same H H' → Q (.bl true) H'
theorem ok_right {f fS fW fSh fH fU fI C R a1 a2 a3 a4 a5 a6 a7 a8 a9 b1 b2 b3 b4 b5 b6 b7 b8 b9 : Addr} {fd fdS fdW fdSh fdH fdU fdI : FuncData} (F : Fun K "_law_right" "_law_right" sRight f fd) (T : TB mg) (L : LongT K mg C fI) (ET : ErrT K C) (X5 : ErrsT K mg C R a1 a2 a3 a4 a5 a6 a7 a8 a9 b1 b2 b3 b4 b5 b6 b7 b8 b9)
    (FS : Fun K "_law_same" "_law_same" sSame fS fdS) (bS : Binds K fdS ["told", "due"] []) (gS : mg "_law_same" = some (.ref fS))
    (FW : Fun K "_law_whole" "_law_whole" sWhole fW fdW) (bW : Binds K fdW ["value"] []) (gW : mg "_law_whole" = some (.ref fW))
    (FSh : Fun K "_law_shaped" "_law_shaped" sShaped fSh fdSh) (bSh : Binds K fdSh ["parts", "shape"] []) (gSh : mg "_law_shaped" = some (.ref fSh))
    (FH : Fun K "height_of" "height_of" sHeight fH fdH) (bH : Binds K fdH ["pieces"] []) (gH : mg "height_of" = some (.ref fH)) (kH : AllKw fdH ["pieces"])
    (FU : Fun K "unfold" "unfold" sUnfold fU fdU) (bU : Binds K fdU ["pieces"] []) (gU : mg "unfold" = some (.ref fU)) (kU : AllKw fdU ["pieces"])
    (FI : Fun K "__init__" "TooLong.__init__" sLongInit fI fdI) (bI : Binds K fdI ["self", "length"] []) : FnOk P w K mg base CX0 4 f fd ["parts", "shape"] (spRight K) := by
  have GS : ∀ n : Nat, FnOk P w K mg base CX0 (n + 2) fS fdS ["told", "due"] (spSame K n) := ok_same FS T FW bW gW bS gS
  have GSH : L2H.FnH P w K mg base CX0 2 fS fdS ["told", "due"] spSameI := ok_sameH FS T FW bW gW
  have GSh : FnOk P w K mg base CX0 1 fSh fdSh ["parts", "shape"] (spShaped K) := ok_shaped FSh T
  have GH : FnOk P w K mg base CX0 1 fH fdH ["pieces"] (spHeight K) := ok_height FH T
  have GU : FnOk P w K mg base (L2N.CX P w) 3 fU fdU ["pieces"] (spUnfold K C) := ok_unfold FU T L FH bH gH FI bI
  refine F.ok scRight (fun vs H Q E h => ?_) (fun cdv A outer s H vs Q E hr h => ?_)
  · obtain ⟨l, us, ps, sh, rfl, _⟩ := h
    rfl
  · obtain ⟨l, us, ps, sh, rfl, hS, hD, hl, hok, k⟩ := h
    have hr1 : Room 1 _ := hr.mono (by decide)
    have hu : (A.deeper (PyProof.Rows.envOfC "_law_right" (defScope sRight) s.heap.objs.size f cdv)).units + 64 < cLine := by
      have := hr.un
      omega
    have suite : ∀ (a : Addr) (oe : Obj) (cls : Value) (d : Option Addr) (pn : List (Addr × Obj)), L2N.Zn cls d oe → (∃ vs, oe.data = .fields vs) →
        PSs ((cxOf CX0 P w K mg base ["parts", "shape", "given", "kept", "total", "due", "piece", "length", "back", "e", "other", "third"] "_law_right" (defScope sRight) f cdv A outer s H E).nox.suite a ((a, oe) :: pn))
          (match tryS with | .Try _ [.ExceptHandler _ _ b _] _ _ _ => b | _ => []) (tSuite K C [a1, a2, a3, a4, a5, a6, a7, a8, a9] [b1, b2, b3, b4, b5, b6, b7, b8, b9] a cls d) := by
      intro a oe cls d pn hz hf
      have hot : L2H.HotC ((cxOf CX0 P w K mg base ["parts", "shape", "given", "kept", "total", "due", "piece", "length", "back", "e", "other", "third"] "_law_right" (defScope sRight) f cdv A outer s H E).nox.suite a ((a, oe) :: pn)) := by
        obtain ⟨vs, hv⟩ := hf
        exact ⟨(a, oe), ⟨rfl, vs, hv, hz.2.2 vs hv⟩, List.mem_cons_self⟩
      have XF : XfC K C := ⟨ET.ga, ET.gg, ET.sb, ET.hd⟩
      have hrh : L2H.RoomH 2 ((A.deeper (PyProof.Rows.envOfC "_law_right" (defScope sRight) s.heap.objs.size f cdv)).mark (some (.ref a))) := L2H.roomH_mark (hr.mono (by decide)) _
      refine pss_cons (ps_set (i := 10) scRight.nd rfl (Or.inl rfl) (pe_callB (r := rIsDT K C a cls d) (call_isDT ET hz.zc hf) (by rfl) T.isi (by decide +kernel) (pa_cons (pv 9) (pa_cons (pe_tup (pa_cons (pe_glob (v := .ref a1) (by rfl) X5.m1 rfl) (pa_cons (pe_glob (v := .ref a2) (by rfl) X5.m2 rfl) (pa_cons (pe_glob (v := .ref a3) (by rfl) X5.m3 rfl) (pa_cons (pe_glob (v := .ref a4) (by rfl) X5.m4 rfl) (pa_cons (pe_glob (v := .ref a5) (by rfl) X5.m5 rfl) (pa_cons (pe_glob (v := .ref a6) (by rfl) X5.m6 rfl) (pa_cons (pe_glob (v := .ref a7) (by rfl) X5.m7 rfl) (pa_cons (pe_glob (v := .ref a8) (by rfl) X5.m8 rfl) (pa_cons (pe_glob (v := .ref a9) (by rfl) X5.m9 rfl) pa_nil)))))))))) pa_nil)))) ?_
      refine pss_cons (ps_set (i := 11) scRight.nd rfl (Or.inl rfl) (pe_callB (r := rIsDT K C a cls d) (call_isDT ET hz.zc hf) (by rfl) T.isi (by decide +kernel) (pa_cons (pv 9) (pa_cons (pe_tup (pa_cons (pe_glob (v := .ref b1) (by rfl) X5.n1 rfl) (pa_cons (pe_glob (v := .ref b2) (by rfl) X5.n2 rfl) (pa_cons (pe_glob (v := .ref b3) (by rfl) X5.n3 rfl) (pa_cons (pe_glob (v := .ref b4) (by rfl) X5.n4 rfl) (pa_cons (pe_glob (v := .ref b5) (by rfl) X5.n5 rfl) (pa_cons (pe_glob (v := .ref b6) (by rfl) X5.n6 rfl) (pa_cons (pe_glob (v := .ref b7) (by rfl) X5.n7 rfl) (pa_cons (pe_glob (v := .ref b8) (by rfl) X5.n8 rfl) (pa_cons (pe_glob (v := .ref b9) (by rfl) X5.n9 rfl) pa_nil)))))))))) pa_nil)))) ?_
      refine pss_cons (ps_if (PW.pt (pw_or (pt_val (pv 10)) (pw_or (pt_val (pv 11)) (pw_or (pt_not (pt_val (pe_callB (r := rIsD K C a cls d) (call_isD ET hz.zc hf) (by rfl) T.isi (by decide +kernel) (pa_cons (pv 9) (pa_cons (pe_glob (v := .ref C) (by rfl) L.gC rfl) pa_nil)))))
        (pw_or1 (pt_not (pt_val (pe_callB (r := rIsD K C a cls d) (call_isD ET hz.zc hf) (by rfl) T.isi (by decide +kernel) (pa_cons (pv 9) (pa_cons (pe_bltn (v := .ty "ValueError") (by rfl) X5.vE PyProof.Rows.Boot.«ValueError» rfl) pa_nil)))))))))) (pss_one (ps_ret pe_bl)) pss_nil) ?_
      refine pss_cons (ps_if (pt_not (pt_val (L2H.pe_callH GSH hrh hot (by rfl) gS FS.kp bS pass0S (pa_cons (pe_xf XF L.no hz.zc hf (pv 9)) (pa_cons (pv 4) pa_nil))))) (pss_one (ps_ret pe_bl)) pss_nil) ?_
      exact pss_one (ps_set (i := 7) scRight.nd rfl (Or.inl rfl) (pe_xf XF L.no hz.zc hf (pv 9)))
    refine ⟨_, pss_cons (ps_set (i := 2) scRight.nd rfl (Or.inl rfl) (pe_call GSh hr1 (by rfl) gSh FSh.kp bSh .nil pass0 (pa_cons (pv 0) (pa_cons (pv 1) pa_nil))))
      (pss_cons (ps_set (i := 3) scRight.nd rfl (Or.inl rfl) (pe_call GSh hr1 (by rfl) gSh FSh.kp bSh .nil pass0 (pa_cons (pv 0) (pa_cons (pv 1) pa_nil))))
      (pss_cons (ps_set (i := 4) scRight.nd rfl (Or.inl rfl) pe_int)
      (pss_cons (ps_set (i := 5) scRight.nd rfl (Or.inl rfl) (pe_lst pa_nil))
      (pss_cons (ps_for PassesOwn.never rfl (pi_list (pv 0)) (pg_name (i := 6) scRight.nd rfl (Or.inl rfl))
        (pss_cons (ps_set (i := 4) scRight.nd rfl (Or.inl rfl) (pe_op op_add (pv 4) (pe_op op_mul (pe_callB call_len_seq (by rfl) T.len PySem.boot_len (pa_cons (pe_ix ix_tup (pv 6) pe_int fun _ _ => rfl) pa_nil)) (pe_ix ix_tup (pv 6) pe_int fun _ _ => rfl))))
        (pss_one (ps_if (pt_cmp (pc_le (pv 4) pe_int)) (pss_one (ps_set (i := 5) scRight.nd rfl (Or.inl rfl) (pe_op op_cat (pv 5) (pe_op op_rep (pe_callTy call_list_of (by rfl) T.list PyProof.Rows.Boot.list (pa_cons (pe_ix ix_tup (pv 6) pe_int fun _ _ => rfl) pa_nil)) (pe_ix ix_tup (pv 6) pe_int fun _ _ => rfl))))) pss_nil))))
      (pss_cons (ps_if (PW.pt (pw_or (pt_not (pt_val (pe_call (GS 1) hr (by rfl) gS FS.kp bS .nil pass0 (pa_cons (pe_call GH hr1 (by rfl) gH FH.kp bH .nil pass0 (pa_cons (pv 2) pa_nil)) (pa_cons (pv 4) pa_nil)))))
          (pw_or (pt_not (pt_val (pe_call (GS 1) hr (by rfl) gS FS.kp bS .nil pass0 (pa_cons (pe_kw GH hr1 (by rfl) gH FH.kp kH pass0S (pk_cons (pv 2) pk_nil)) (pa_cons (pv 4) pa_nil)))))
          (pw_or1 (pt_cmpR (op_neD hu) (pv 2) (pv 3) (nomark _)))))) (pss_one (ps_ret pe_bl)) pss_nil)
      (pss_cons (ps_set (i := 7) scRight.nd rfl (Or.inl rfl) (pe_un un_neg pe_int))
      (pss_cons (ps_set (i := 8) scRight.nd rfl (Or.inl rfl) pe_non)
      (C8.pss_cut (L2N.ps_try_as (i := 9) (tb := fun W => tIfS (tTest (tOp rEq (tOp (rI (fun _ j => 0 < j) fun i j => .int (i % j)) (tCB (fun xs H Q => (∃ i, xs = [.int i] ∧ Q (.int i) H) ∨ ∃ k, xs = [.bl k] ∧ Q (.int (if k then 1 else 0)) H) (tCons (tVar 1) tNil)) (tC (.int 2))) (tC (.int 1))))
            (tAsg (tCallS (spUnfold K C) (WE W) (tCons (tVar 2) tNil)) (gName 8)) (tAsg (tCallS (spUnfold K C) (WE W) (tCons (tVar 2) tNil)) (gName 8))) (Wout := fun _ _ _ _ => False)
          rfl rfl scRight.nd rfl rfl ⟨rfl, by decide, Or.inl X5.gR⟩ takesN0
          (fun W pn xe tk _ => pss_one (ps_if (pt_cmpR op_eq (pe_op op_mod (pe_callTy call_int1 (by rfl) T.int PyProof.Rows.Boot.int (pa_cons (pv 1) pa_nil)) pe_int) pe_int (nomark _))
            (pss_one (ps_set (i := 8) scRight.nd rfl (Or.inl rfl) (pe_kw GU hr (by rfl) gU FU.kp kU (fun σ => L2N.passAt tk σ) (pk_cons (pv 2) pk_nil))))
            (pss_one (ps_set (i := 8) scRight.nd rfl (Or.inl rfl) (pe_callS GU hr (by rfl) gU FU.kp bU (fun σ => L2N.passAt tk σ) (pa_cons (pv 2) pa_nil))))))
          (fun a oe cls d pn hz hf => suite a oe cls d pn hz hf))
      (pss_cons (ps_if (PW.pt (pw_or (pt_cmpR (op_neD hu) (pv 2) (pv 3) (nomark _)) (pw_or1 (PW.pt (pw_and (pt_cmp (pc_gt (pv 4) pe_int)) (pw_and1 (pt_cmpR op_ne (pv 7) (pv 4) (nomark _)))))))) (pss_one (ps_ret pe_bl)) pss_nil)
      (pss_one (ps_ret (pe_or (pe_cmp (pc_gt (pv 4) pe_int) rfl) (pe_one (pe_and (pe_cmpR op_eq (pv 7) (pe_un un_neg pe_int) (nomark _)) (pe_one (pe_call (GS 1) hr (by rfl) gS FS.kp bS .nil pass0
        (pa_cons (pv 8) (pa_cons (pe_callTy call_tuple_of (by rfl) T.tuple PyProof.Rows.Boot.tuple (pa_cons (pv 5) pa_nil)) pa_nil)))))))))))))))))), ?_⟩
    have hok6 : ∀ p ∈ ps, p.1.length ≤ 6 := fun p hp => (hok p hp).few
    have D0 : ∀ n : Nat, ∀ i : Int, depthOk n (.int i) := fun n i => by cases n <;> exact True.intro
    refine ⟨_, rfl, _, rfl, l, us, ps, sh, rfl, hS, hD, hl, hok6, fun g H1 s1 hg => ?_⟩
    refine ⟨_, rfl, _, rfl, l, us, ps, sh, rfl, s1.seq hS, dpa_mono s1 _ _ hD, hl, hok6, fun kp H2 s2 hkp => ?_⟩
    have s12 := s1.trans s2
    have lu : us.length = ps.length := by rw [dpa_len hD, List.length_map]
    refine ⟨Nat.zero_le _, fun q0 hq0 => ?_⟩
    have s3 : Same H2 (upd H2 q0 (.lst [])) := same_new hq0
    refine ⟨_, rfl, l, rfl, ⟨_, (s12.trans s3).seq hS⟩, for_list (K := K) (a := l) (xs := us) (fun i σ H' => Same H2 H' ∧ ∃ (tt : Int) (q : Addr) (v6 : Option V), tt = total (ps.take i) ∧ σ = [some (.ref l), some (.int sh), some g, some kp, some (.int tt), some (.ref q), v6, none, none, none, none, none] ∧
        (total (ps.take i) ≤ 10000 → H' q = some (.lst ((flat (ps.take i)).map V.str))))
      ⟨s3, 0, q0, none, rfl, rfl, fun _ => upd_same⟩ (fun i σ H' _ h => (s12.trans h.1).seq hS) ?_ ?_⟩
    · rintro i x σ H3 hi ⟨s4, tt, q, v6, ht, rfl, hq⟩
      obtain ⟨d, ed, hd⟩ := dpa_get hD hi
      rw [List.getElem?_map] at ed
      obtain ⟨p, ep, rfl⟩ := Option.map_eq_some_iff.mp ed
      have hp := List.mem_of_getElem? ep
      have ok1 := hok p hp
      obtain ⟨a1', c1, ys, rfl, h1, h2, rfl⟩ := dp_piece (dp_mono (s12.trans s4) _ _ hd)
      have h1' : SqT K H3 a1' [.ref c1, .int p.2] := h1
      have h2' : SqT K H3 c1 (p.1.map V.str) := h2
      have tk : total (ps.take (i + 1)) = total (ps.take i) + one p := by rw [take_succ_of ep, total_snoc]
      have okt : ∀ p ∈ ps.take i, PieceOk p := fun p hp => hok p (List.mem_of_mem_take hp)
      have t0 := total_nonneg okt
      have o0 := one_nonneg ok1.pos
      have o1 := one_len ok1.pos
      have fl := flat_len okt
      have rl := rep_len p.2.toNat p.1
      have pt : p.2 ≤ one p := by
        have h1 := ok1.one
        have := Int.mul_le_mul_of_nonneg_right (show (1 : Int) ≤ (p.1.length : Int) by omega) ok1.pos
        unfold one
        omega
      have ppos := ok1.pos
      refine ⟨_, rfl, _, rfl, a1', _, _, _, rfl, rfl, h1', atI_nat (j := 0) rfl, c1, _, rfl, .inr h2', _, rfl, a1', _, _, _, rfl, rfl, h1', atI_nat (j := 1) rfl, _, _, rfl, rfl, .inl ?_, _, _, rfl, rfl, ?_⟩
      · have := ok1.few
        rw [List.length_map]
        omega
      have et : tt + (((p.1.map V.str).length : Nat) : Int) * p.2 = total (ps.take (i + 1)) := by
        rw [List.length_map, tk, ht]
        rfl
      refine ⟨_, rfl, _, _, rfl, rfl, _, rfl, ?_⟩
      refine ite2 (fun c => ?_) (fun c => ?_)
      · have c0 : tt + (((p.1.map V.str).length : Nat) : Int) * p.2 ≤ 10000 := of_decide_eq_true c
        have c' : total (ps.take (i + 1)) ≤ 10000 := by rw [← et]; exact c0
        have hq' := hq (by omega)
        refine ⟨_, rfl, _, rfl, a1', _, _, _, rfl, rfl, h1', atI_nat (j := 0) rfl, c1, _, rfl, .inr h2', fun m hm => ?_⟩
        have h1m := Same.tup (same_new (o := .lst (p.1.map V.str)) hm) h1'
        refine ⟨_, rfl, a1', _, _, _, rfl, rfl, h1m, atI_nat (j := 1) rfl, m, _, _, rfl, rfl, upd_same, by omega, by omega, ?_, fun r hr => ?_⟩
        · rw [List.length_map, Nat.mul_comm]
          exact Nat.le_trans (show p.2.toNat * p.1.length ≤ 100000 by omega) (by decide)
        refine ⟨q, r, _, _, rfl, rfl, same_new hr _ _ (same_new hm _ _ hq'), upd_same, ?_, fun z hz => ?_⟩
        · rw [rep_map, List.length_map, List.length_map]
          exact Nat.le_trans (show _ ≤ 100000 by omega) (by decide)
        refine ⟨((s4.trans (same_new hm)).trans (same_new hr)).trans (same_new hz), _, z, _, et, rfl, fun _ => ?_⟩
        rw [upd_same, take_succ_of ep, flat_snoc, List.map_append, rep_map]
      · exact ⟨s4, _, q, _, et, rfl, fun z => absurd (decide_eq_true (show tt + (((p.1.map V.str).length : Nat) : Int) * p.2 ≤ 10000 by rw [et]; exact z)) c⟩
    rintro σ H3 ⟨s4, tt, q, v6, ht, rfl, hq⟩
    rw [lu, List.take_length] at hq ht
    subst ht
    have hg3 := dp_mono (s2.trans s4) _ _ hg
    have hk3 := dp_mono s4 _ _ hkp
    have hgs : SeqAt.shaped (partsD (decide (sh % 2 = 1)) (bit sh 2) (bit sh 4) ps) = true := (shaped_parts hok).1
    have hself : PyData.eqv (partsD (decide (sh % 2 = 1)) (bit sh 2) (bit sh 4) ps) (partsD (decide (sh % 2 = 1)) (bit sh 2) (bit sh 4) ps) = true := (shaped_parts hok).2
    refine ⟨_, rfl, g, ps, rfl, ⟨_, _, _, hg3⟩, hl, hok6, fun H4 s5 => ?_⟩
    refine ⟨_, rfl, _, _, .int (total ps), rfl, .int _, .int _, D0 _ _, _, rfl, ?_⟩
    refine iteF ?_
    refine ⟨_, rfl, g, ps, rfl, ⟨_, _, _, dp_mono s5 _ _ hg3⟩, hl, hok6, fun H5 s6 => ?_⟩
    refine ⟨_, rfl, _, _, .int (total ps), rfl, .int _, .int _, D0 _ _, _, rfl, ?_⟩
    refine iteF ?_
    have hg5 := dp_mono (s5.trans s6) _ _ hg3
    have hk5 := dp_mono (s5.trans s6) _ _ hk3
    refine ⟨_, rfl, _, rfl, _, _, hg5, hk5, hgs, hgs, _, rfl, ?_⟩
    rw [hself]
    refine iteF ?_
    refine ⟨_, rfl, ?_⟩
    refine ⟨fun σ' H' => Same H H' ∧ Same H5 H' ∧ ∃ (len : Int) (bk : V) (v6 o1 o2 : Option V), σ' = [some (.ref l), some (.int sh), some g, some kp, some (.int (total ps)), some (.ref q), v6, some (.int len), some bk, none, o1, o2] ∧
      ((total ps ≤ 10000 ∧ len = -1 ∧ ∃ r, bk = .ref r ∧ H' r = some (.tup ((flat ps).map V.str))) ∨ (10000 < total ps ∧ len = total ps)), ?_, ?_⟩
    · have s05 : Same H H5 := ((s12.trans s4).trans s5).trans s6
      refine ⟨_, rfl, .inl ⟨_, rfl, _, _, rfl, rfl, (by show (0 : Int) < 2; decide), rfl, _, rfl, ?_⟩⟩
      refine ite2 (fun _ => ?_) (fun _ => ?_)
      all_goals
        refine ⟨_, rfl, g, ps, rfl, ⟨_, _, _, hg5⟩, hl, hok, fun c d Hx hd sx hxd => ?_, fun c r Hx sx hr => ?_⟩
        · refine ⟨true, X5.ex, fun _ a ha => ?_, fun z => Bool.noConfusion z⟩
          refine ⟨_, rfl, (by show 9 ≤ sizeLine; decide), fun t1 ht1 => ⟨t1, _, _, false, rfl, rfl, ⟨d, _, rfl, same_new ht1 _ _ hxd⟩, upd_same, pairs9 .., X5.kA, ?_⟩⟩
          refine ⟨_, rfl, (by show 9 ≤ sizeLine; decide), fun t2 ht2 => ⟨t2, _, _, false, rfl, rfl, ⟨d, _, rfl, same_new ht2 _ _ (same_new ht1 _ _ hxd)⟩, upd_same, pairs9 .., X5.kB, ?_⟩⟩
          have hx2 := same_new (o := .tup (refs9 b1 b2 b3 b4 b5 b6 b7 b8 b9)) ht2 _ _ (same_new (o := .tup (refs9 a1 a2 a3 a4 a5 a6 a7 a8 a9)) ht1 _ _ hxd)
          have sx2 : Same Hx (upd (upd Hx t1 (.tup (refs9 a1 a2 a3 a4 a5 a6 a7 a8 a9))) t2 (.tup (refs9 b1 b2 b3 b4 b5 b6 b7 b8 b9))) := (same_new ht1).trans (same_new ht2)
          refine ⟨_, rfl, false, rfl, iteF ?_⟩
          refine ⟨_, rfl, false, rfl, iteF ?_⟩
          refine ⟨_, rfl, _, _, true, rfl, rfl, ⟨d, _, rfl, hx2⟩, .own C, X5.kT, _, rfl, iteF ?_⟩
          refine ⟨_, rfl, _, _, true, rfl, rfl, ⟨d, _, rfl, hx2⟩, .ty _, X5.kV, _, rfl, iteF ?_⟩
          refine ⟨_, rfl, rfl, rfl, d, _, _, rfl, hx2, look_one, _, rfl, total ps, rfl, _, rfl, iteF ?_⟩
          refine ⟨_, rfl, rfl, rfl, d, _, _, rfl, hx2, look_one, ?_⟩
          exact ⟨(s05.trans sx).trans sx2, sx.trans sx2, _, _, _, _, _, rfl, .inr ⟨c, rfl⟩⟩
        · exact ⟨s05.trans sx, sx, _, _, _, _, _, rfl, .inl ⟨c, rfl, r, rfl, hr⟩⟩
    · rintro σ' H6 ⟨s06, s56, len, bk, v6', o1, o2, rfl, two⟩
      have hg6 := dp_mono s56 _ _ hg5
      have hk6 := dp_mono s56 _ _ hk5
      refine ⟨_, rfl, _, rfl, _, _, hg6, hk6, hgs, hgs, _, rfl, ?_⟩
      rw [hself]
      refine iteF ?_
      rcases two with ⟨c, rfl, r, rfl, hr6⟩ | ⟨c, rfl⟩
      · have nc : ¬ (10000 < total ps) := by omega
        refine ⟨_, rfl, _, _, rfl, rfl, _, rfl, ?_⟩
        refine ite2 (fun z => absurd (of_decide_eq_true z) nc) (fun _ => iteF ?_)
        refine ⟨_, rfl, _, _, rfl, rfl, _, rfl, ?_⟩
        refine ite2 (fun z => absurd (of_decide_eq_true z) nc) (fun _ => ?_)
        refine ⟨_, rfl, _, rfl, rfl, _, rfl, ?_⟩
        refine ite2 (fun _ => ?_) (fun z => absurd (decide_eq_true rfl) z)
        have hq6 := ((s5.trans s6).trans s56) _ _ (hq c)
        refine ⟨_, rfl, _, rfl, q, _, rfl, .inl ⟨SqL.of hq6, fun t ht => ?_⟩⟩
        refine ⟨_, _, .tuple ((flat ps).map PyData.str), rfl, .tup (SqT.of (same_new ht _ _ hr6)) (dpa_strs _), .tup (SqT.of upd_same) (dpa_strs _), ?_, k _ (s06.trans (same_new ht))⟩
        have fl := flat_len hok
        refine ⟨by rw [List.length_map]; omega, fun d hd => ?_⟩
        obtain ⟨y, _, rfl⟩ := List.mem_map.mp hd
        exact True.intro
      · refine ⟨_, rfl, _, _, rfl, rfl, _, rfl, ?_⟩
        refine ite2 (fun _ => ?_) (fun z => absurd (decide_eq_true c) z)
        refine ⟨_, rfl, _, rfl, rfl, _, rfl, iteNS rfl ?_⟩
        refine ⟨_, rfl, _, _, rfl, rfl, _, rfl, ?_⟩
        exact ite2 (fun _ => k _ s06) (fun z => absurd (decide_eq_true c) z)
end
end Pk
set_option Elab.async false
set_option maxRecDepth 100000
set_option maxHeartbeats 8000000
namespace Pk
open PySem L2
abbrev sLaw : Stmt := top 33
abbrev NL : List Str := ["script", "head", "parts", "k", "at", "rest", "times", "back", "piece"]
theorem dpa_take {K : PySem.W.Frag} {H : Hp} : ∀ {ds : List PyData} {vs : List V} (n : Nat), DpAll K H vs ds → DpAll K H (vs.take n) (ds.take n)
  | _, _, 0, _ => by simp; exact .nil
  | [], _, n + 1, h => by cases h; exact .nil
  | d :: ds, _, n + 1, h => by
    cases h with
    | cons h1 h2 => exact .cons h1 (dpa_take n h2)
theorem dpa_drop {K : PySem.W.Frag} {H : Hp} : ∀ {ds : List PyData} {vs : List V} (n : Nat), DpAll K H vs ds → DpAll K H (vs.drop n) (ds.drop n)
  | _, _, 0, h => h
  | [], _, n + 1, h => by cases h; exact .nil
  | d :: ds, _, n + 1, h => by
    cases h with
    | cons h1 h2 => exact dpa_drop n h2
def putAt {α : Type} (xs : List α) (n : Nat) (x : α) : List α := xs.take n ++ [x] ++ xs.drop n
theorem putAt_mem {α : Type} {xs : List α} {n : Nat} {x y : α} (h : y ∈ putAt xs n x) : y = x ∨ y ∈ xs := by
  unfold putAt at h
  rcases List.mem_append.mp h with h | h
  · rcases List.mem_append.mp h with h | h
    · exact .inr (List.mem_of_mem_take h)
    · exact .inl (List.mem_singleton.mp h)
  · exact .inr (List.mem_of_mem_drop h)
theorem putAt_len {α : Type} (xs : List α) (n : Nat) (x : α) : (putAt xs n x).length = xs.length + 1 := by
  unfold putAt
  rw [List.length_append, List.length_append, List.length_take, List.length_drop, List.length_singleton]
  omega
theorem putAt_map {α β : Type} (f : α → β) (xs : List α) (n : Nat) (x : α) : (putAt xs n x).map f = putAt (xs.map f) n (f x) := by
  unfold putAt
  rw [List.map_append, List.map_append, List.map_take, List.map_drop]
  rfl
theorem total_small : ∀ {ps : List (List Str × Int)}, (∀ p ∈ ps, PieceOk p ∧ p.2 ≤ 100) → 0 ≤ total ps ∧ total ps ≤ 600 * (ps.length : Int)
  | [], _ => ⟨by decide, by decide⟩
  | p :: r, h => by
    obtain ⟨h1, h2⟩ := total_small (ps := r) fun q hq => h q (List.mem_cons_of_mem _ hq)
    obtain ⟨k1, k2⟩ := h p List.mem_cons_self
    have o0 := one_nonneg k1.pos
    have o1 : one p ≤ 600 := by
      unfold one
      have f := k1.few
      have := Int.mul_le_mul (show (p.1.length : Int) ≤ 6 by omega) k2 k1.pos (by decide)
      omega
    have e : total (p :: r) = one p + total r := by
      unfold total
      rw [List.map_cons, List.sum_cons]
    rw [e, List.length_cons]
    constructor
    · omega
    · omega
theorem dpa_rev {K : PySem.W.Frag} {H : Hp} : ∀ {ds : List PyData} {vs : List V}, DpAll K H vs ds → DpAll K H vs.reverse ds.reverse
  | [], _, h => by cases h; exact .nil
  | d :: ds, _, h => by
    cases h with
    | cons h1 h2 =>
      rw [List.reverse_cons, List.reverse_cons]
      exact dpa_append (dpa_rev h2) (.cons h1 .nil)
theorem dpa_put {K : PySem.W.Frag} {H : Hp} {ds : List PyData} {vs : List V} {v : V} {d : PyData} (n : Nat) (h : DpAll K H vs ds) (g : Dp K H v d) : DpAll K H (putAt vs n v) (putAt ds n d) :=
  dpa_append (dpa_append (dpa_take n h) (.cons g .nil)) (dpa_drop n h)
theorem menu5 {a0 a1 a2 a3 a4 d : Int} (h0 : 0 ≤ d) (h1 : d < 5) : ∃ t, (t = a0 ∨ t = a1 ∨ t = a2 ∨ t = a3 ∨ t = a4) ∧ atI [V.int a0, V.int a1, V.int a2, V.int a3, V.int a4] d = some (V.int t) := by
  have c : d = 0 ∨ d = 1 ∨ d = 2 ∨ d = 3 ∨ d = 4 := by omega
  rcases c with rfl | rfl | rfl | rfl | rfl
  · exact ⟨a0, .inl rfl, rfl⟩
  · exact ⟨a1, .inr (.inl rfl), rfl⟩
  · exact ⟨a2, .inr (.inr (.inl rfl)), rfl⟩
  · exact ⟨a3, .inr (.inr (.inr (.inl rfl))), rfl⟩
  · exact ⟨a4, .inr (.inr (.inr (.inr rfl))), rfl⟩
def three : List Str := ["Q", "q", "0"]
theorem cut3 {K : PySem.W.Frag} {H : Hp} {t0 : Addr} {d : Int} {Q : VK} (ht : H t0 = some (.tup (three.map V.str))) (h0 : 0 ≤ d) (h1 : d < 3)
    (k : ∀ (ta : Addr) (Hs : Hp) (ss : List Str), Same H Hs → Hs ta = some (.tup (ss.map V.str)) → 1 ≤ ss.length → ss.length ≤ 6 → (∀ s ∈ ss, PyData.strOk s = true) → Q (.ref ta) Hs) : rSlA K (.ref t0) none (some (1 + d)) H Q := by
  have c : d = 0 ∨ d = 1 ∨ d = 2 := by omega
  have ok3 : ∀ s ∈ three, PyData.strOk s = true := by decide +kernel
  rcases c with rfl | rfl | rfl
  · exact ⟨t0, _, rfl, SqT.of ht, fun z => absurd z (by decide), fun _ p hp => k p _ (three.take 1) (same_new hp) upd_same (by decide) (by decide) fun s hs => ok3 s (List.mem_of_mem_take hs)⟩
  · exact ⟨t0, _, rfl, SqT.of ht, fun z => absurd z (by decide), fun _ p hp => k p _ (three.take 2) (same_new hp) upd_same (by decide) (by decide) fun s hs => ok3 s (List.mem_of_mem_take hs)⟩
  · exact ⟨t0, _, rfl, SqT.of ht, fun _ => k t0 _ three (Same.refl _) ht (by decide) (by decide) ok3, fun z => absurd (by decide) z⟩
section
variable {P : Program} {w : World} {K : PySem.W.Frag} {mg : Str → Option Value} {base : Heap}
theorem scLaw : FnScope NL ["script"] (defScope sLaw) := ⟨rfl, rfl, rfl, by decide +kernel, rfl, by decide +kernel, by decide +kernel⟩
def spLaw (K : PySem.W.Frag) : Sp := fun vs H Q _ => ∃ (a : Addr) (ns : List Int), vs = [.ref a] ∧ SqL K H a (ns.map V.int) ∧ ∀ H', Q (.bl true) H'
theorem ok_law {f fC fD fP fR : Addr} {fd fdC fdD fdP fdR : FuncData} (F : Fun K "law" "law" sLaw f fd) (T : TB mg)
    (FC : Fun K "_law_cell" "_law_cell" sCell fC fdC) (bC : Binds K fdC ["script", "k"] []) (gC : mg "_law_cell" = some (.ref fC))
    (FD : Fun K "_law_digits" "_law_digits" sDigits fD fdD) (bD : Binds K fdD ["cell", "sizes"] []) (gD : mg "_law_digits" = some (.ref fD))
    (FP : Fun K "_law_piece" "_law_piece" sPiece fP fdP) (bP : Binds K fdP ["cell"] []) (gP : mg "_law_piece" = some (.ref fP))
    (kR : PySem.W.keepIn K (.ref fR) = true) (GR : FnOk P w K mg base CX0 4 fR fdR ["parts", "shape"] (spRight K)) (bR : Binds K fdR ["parts", "shape"] []) (gR : mg "_law_right" = some (.ref fR)) :
    FnOk P w K mg base CX0 5 f fd ["script"] (spLaw K) := by
  have GC : FnOk P w K mg base CX0 1 fC fdC ["script", "k"] (spCellA K) := ok_cell FC T
  have GD : FnOk P w K mg base CX0 1 fD fdD ["cell", "sizes"] (spDigits K) := ok_digits FD T
  have GP : FnOk P w K mg base CX0 2 fP fdP ["cell"] (spPiece K) := ok_piece FP T FD bD gD
  refine F.ok scLaw (fun vs H Q E h => ?_) (fun cdv A outer s H vs Q E hr h => ?_)
  · obtain ⟨a, ns, rfl, _⟩ := h
    rfl
  · obtain ⟨a, ns, rfl, hS, k⟩ := h
    have hr1 : Room 1 _ := hr.mono (by decide)
    have hr2 : Room 2 _ := hr.mono (by decide)
    refine ⟨_, pss_cons (ps_set (i := 1) scLaw.nd rfl (Or.inl rfl) (pe_call GD hr1 (by rfl) gD FD.kp bD .nil pass0 (pa_cons (pe_call GC hr1 (by rfl) gC FC.kp bC .nil pass0 (pa_cons (pv 0) (pa_cons pe_int pa_nil)))
        (pa_cons (pe_lst (pa_cons pe_int (pa_cons pe_int (pa_cons pe_int (pa_cons pe_int (pa_cons pe_int (pa_cons pe_int pa_nil))))))) pa_nil))))
      (pss_cons (ps_set (i := 2) scLaw.nd rfl (Or.inr rfl) (pe_lst pa_nil))
      (pss_cons (ps_for PassesOwn.never rfl (pi_range1 (by rfl) T.range (pa_cons (pe_ix ix_list (pv 1) pe_int fun _ _ => rfl) pa_nil)) (pg_name (i := 3) scLaw.nd rfl (Or.inl rfl))
        (pss_one (ps_expr (pe_bm PySem.F.plainAttrs_list PySem.F.slot_list_append PySem.F.type_list_append mt_append (pv 2) (pa_cons (pe_call GP hr2 (by rfl) gP FP.kp bP .nil pass0
          (pa_cons (pe_call GC hr1 (by rfl) gC FC.kp bC .nil pass0 (pa_cons (pv 0) (pa_cons (pe_op op_add pe_int (pv 3)) pa_nil))) pa_nil)) pa_nil)))))
      (pss_cons (ps_set (i := 4) scLaw.nd rfl (Or.inl rfl) (pe_op op_mod (pe_callTy call_int1 (by rfl) T.int PyProof.Rows.Boot.int (pa_cons (pe_ix ix_list (pv 1) pe_int fun _ _ => rfl) pa_nil)) (pe_op op_add (pe_callB call_len_seq (by rfl) T.len PySem.boot_len (pa_cons (pv 2) pa_nil)) pe_int)))
      (C8.pss_cut (ps_if (pt_cmp (pc_ge (pe_ix ix_list (pv 1) pe_int fun _ _ => rfl) pe_int))
        (pss_cons (ps_set (i := 5) scLaw.nd rfl (Or.inl rfl) (pe_op op_sub (pe_ix ix_list (pe_lst (pa_cons pe_int (pa_cons pe_int (pa_cons pe_int (pa_cons pe_int (pa_cons pe_int pa_nil)))))) (pe_ix ix_list (pv 1) pe_int fun _ _ => rfl) fun _ _ => rfl)
            (pe_callB (cr_sum rfl) (by rfl) T.sum (by decide +kernel) (pa_cons (pe_lc (own := [("piece", 8)]) (g := gName 8) (tt := tYes) (by rfl) scLaw.nd (pi_list (pv 2)) (blkOk_by (own := [("piece", 8)]) (N := NL) (sc := defScope sLaw) (by decide +kernel))
              (fun _ _ _ _ _ => pg_name (i := 8) scLaw.nd rfl (Or.inl rfl)) (fun _ _ _ _ _ => pts_nil)
              (fun _ _ _ _ _ => pe_op op_mul (pe_callB (r := lenSq K) call_len_seq (by rfl) T.len PySem.boot_len (pa_cons (pe_ix (r := rIxT K) ix_tup (pv 8) pe_int fun _ _ => rfl) pa_nil)) (pe_ix (r := rIxT K) ix_tup (pv 8) pe_int fun _ _ => rfl))) pa_nil))))
        (pss_one (ps_expr (pe_bm PySem.F.plainAttrs_list PySem.F.slot_list_insert PySem.F.type_list_insert mt_insert (pv 2) (pa_cons (pv 4) (pa_cons (pe_tup (pa_cons (pe_tup (pa_cons pe_str pa_nil)) (pa_cons (pv 5) pa_nil))) pa_nil))))))
        (pss_one (ps_if (pt_cmp (pc_ge (pe_ix ix_list (pv 1) pe_int fun _ _ => rfl) pe_int))
          (pss_cons (ps_set (i := 6) scLaw.nd rfl (Or.inl rfl) (pe_op op_add (pe_ix ix_list (pe_lst (pa_cons pe_int (pa_cons (pe_op op_pow pe_int pe_int) (pa_cons (pe_op op_pow pe_int pe_int) (pa_cons (pe_op op_pow pe_int pe_int) (pa_cons (pe_op op_pow pe_int pe_int) pa_nil)))))) (pe_ix ix_list (pv 1) pe_int fun _ _ => rfl) fun _ _ => rfl)
            (pe_callB call_abs (by rfl) T.abs (by decide +kernel) (pa_cons (pe_call GC hr1 (by rfl) gC FC.kp bC .nil pass0 (pa_cons (pv 0) (pa_cons pe_int pa_nil))) pa_nil))))
          (pss_one (ps_expr (pe_bm PySem.F.plainAttrs_list PySem.F.slot_list_insert PySem.F.type_list_insert mt_insert (pv 2) (pa_cons (pv 4) (pa_cons (pe_tup (pa_cons (pe_slice L2.sl_tupA (pe_tup (pa_cons pe_str (pa_cons pe_str (pa_cons pe_str pa_nil)))) po_none (po_some (pe_op op_add pe_int (pe_ix ix_list (pv 1) pe_int fun _ _ => rfl)))) (pa_cons (pv 6) pa_nil))) pa_nil)))))) pss_nil)))
      (pss_cons (ps_if (pt_not (pt_val (pe_call GR hr (by rfl) gR kR bR .nil pass0 (pa_cons (pv 2) (pa_cons (pe_ix ix_list (pv 1) pe_int fun _ _ => rfl) pa_nil))))) (pss_one (ps_ret pe_bl)) pss_nil)
      (pss_cons (ps_setLc (i := 7) (own := [("k", 3)]) (g := gName 3) (tt := tYes) (by rfl) scLaw.nd rfl rfl (sw_true rfl rfl rfl (by decide +kernel)) (pi_range1 (by rfl) T.range (pa_cons (pe_callB call_len_seq (by rfl) T.len PySem.boot_len (pa_cons (pv 2) pa_nil)) pa_nil))
          (blkOk_by (own := [("k", 3)]) (N := NL) (sc := defScope sLaw) (by decide +kernel)) (fun _ _ _ _ _ => pg_name (i := 3) scLaw.nd rfl (Or.inl rfl)) (fun _ _ _ _ _ => pts_nil)
          (fun _ _ _ _ _ => pe_ix (r := rIxL K) ix_list (pv 2) (pe_op op_sub (pe_op op_sub (pe_callB (r := lenSq K) call_len_seq (by rfl) T.len PySem.boot_len (pa_cons (pv 2) pa_nil)) pe_int) (pv 3)) fun _ _ => rfl))
      (pss_one (ps_ret (pe_and (pe_call GR hr (by rfl) gR kR bR .nil pass0 (pa_cons (pv 7) (pa_cons (pe_op op_mod (pe_callTy call_int1 (by rfl) T.int PyProof.Rows.Boot.int (pa_cons (pe_op op_add (pe_ix ix_list (pv 1) pe_int fun _ _ => rfl) pe_int) pa_nil)) pe_int) pa_nil)))
        (pe_one (pe_call GR hr (by rfl) gR kR bR .nil pass0 (pa_cons (pv 2) (pa_cons (pe_ix ix_list (pv 1) pe_int fun _ _ => rfl) pa_nil))))))))))))), ?_⟩
    have zs : (0 : Int) < 1 := by decide
    refine ⟨_, rfl, a, ns, 0, rfl, hS, fun z => ⟨(by show 6 ≤ sizeLine; decide), fun l6 h6 => ⟨z, l6, [8, 8, 5, 9, 8, 3], rfl, SqL.of upd_same, by decide, by decide, fun row p H1 dg hp s1 hrow => ?_⟩⟩⟩
    have sA : Same H H1 := (same_new h6).trans s1
    have hS1 := sA.seq hS
    clear s1 hp h6
    refine ⟨Nat.zero_le _, fun l hl => ?_⟩
    obtain ⟨d0, e0, a0, b0⟩ := dg.2 0 8 rfl
    obtain ⟨d1, e1, a1, b1⟩ := dg.2 1 8 rfl
    obtain ⟨d2, e2, a2, b2⟩ := dg.2 2 5 rfl
    obtain ⟨d3, e3, a3, b3⟩ := dg.2 3 9 rfl
    obtain ⟨d4, e4, a4, b4⟩ := dg.2 4 8 rfl
    obtain ⟨d5, e5, a5, b5⟩ := dg.2 5 3 rfl
    have rowAt : ∀ {i : Nat} {d : Int}, row[i]? = some d → atI (row.map V.int) (i : Int) = some (V.int d) := fun {i d} e => atI_nat (by rw [List.getElem?_map, e]; rfl)
    have s0 : Same H1 (upd H1 l (.lst [])) := same_new hl
    refine ⟨_, rfl, p, _, _, _, rfl, rfl, SqL.of (s0 _ _ hrow), rowAt (i := 0) e0, d0, rfl, by omega, by omega, for_range (lo := 0) (n := d0.toNat) (fun i σ H' => Same H1 H' ∧ ∃ (us : List V) (ps : List (List Str × Int)) (v3 : Option V), σ = [some (.ref a), some (.ref p), some (.ref l), v3, none, none, none, none, none] ∧ H' l = some (.lst us) ∧
        DpAll K (hide l H') us (ps.map (pieceD false false)) ∧ ps.length = i ∧ ∀ p ∈ ps, PieceOk p ∧ p.2 ≤ 100)
      ⟨s0, [], [], none, rfl, upd_same, .nil, rfl, fun p hp => by cases hp⟩ ?_ ?_⟩
    · rintro i σ H2 hi ⟨s2, us, ps, v3, rfl, hus, hD, hpl, hok⟩
      have lu : us.length = ps.length := by rw [dpa_len hD, List.length_map]
      refine ⟨_, rfl, .inl ⟨rfl, _, SqL.of hus⟩, _, rfl, _, rfl, _, _, rfl, rfl, a, ns, 2 + i, congrArg (fun t : Int => [V.ref a, V.int t]) (show (2 : Int) + (0 + (i : Int)) = ((2 + i : Nat) : Int) by omega), s2.seq hS1, fun z => ⟨z, rfl, fun ss n v H3 ok hn s3 hd => ?_⟩⟩
      refine ⟨l, _, _, rfl, rfl, s3 _ _ hus, small100k (by omega), same_mut (s2.trans s3) hl, us ++ [v], ps ++ [(ss, n)], _, rfl, upd_same, ?_, by rw [List.length_append, hpl]; rfl, fun p hp => ?_⟩
      · rw [hide_upd, List.map_append]
        exact dpa_append (dpa_mono (hide_mono s3) _ _ hD) (.cons (dp_mono (newOnly_hide hus) _ _ hd) .nil)
      · rcases List.mem_append.mp hp with hp | hp
        · exact hok p hp
        · rw [List.mem_singleton.mp hp]
          exact ⟨ok, hn⟩
    rintro σ H2 ⟨s2, us, ps, v3, rfl, hus, hD, hpl, hok⟩
    have lu : us.length = ps.length := by rw [dpa_len hD, List.length_map]
    have hp7 : ps.length ≤ 7 := by omega
    have row2 : SqL K H2 p (row.map V.int) := SqL.of (s2 _ _ hrow)
    refine ⟨_, rfl, p, _, _, _, rfl, rfl, row2, rowAt (i := 3) e3, .inl ⟨_, rfl, _, rfl, l, _, rfl, .inl (SqL.of hus), _, _, rfl, rfl, _, _, rfl, rfl, (by show (0 : Int) < (us.length : Int) + 1; omega), ?_⟩⟩
    have at0 : 0 ≤ d3 % ((us.length : Int) + 1) := Int.emod_nonneg _ (by omega)
    have at1 : d3 % ((us.length : Int) + 1) < (us.length : Int) + 1 := Int.emod_lt_of_pos _ (by omega)
    refine ⟨fun σ' H' => Same H1 H' ∧ ∃ (us : List V) (ps : List (List Str × Int)) (v3 v4 v5 v6 : Option V), σ' = [some (.ref a), some (.ref p), some (.ref l), v3, v4, v5, v6, none, none] ∧ H' l = some (.lst us) ∧
        DpAll K (hide l H') us (ps.map (pieceD false false)) ∧ ps.length ≤ 10 ∧ ∀ p ∈ ps, PieceOk p, ?_, ?_⟩
    · refine ⟨_, rfl, p, _, _, _, rfl, rfl, row2, rowAt (i := 1) e1, _, _, rfl, rfl, _, rfl, ?_⟩
      refine ite2 (fun _ => ?_) (fun _ => ?_)
      · obtain ⟨t, ht, et⟩ := menu5 (a0 := 9999) (a1 := 10000) (a2 := 10001) (a3 := 10000) (a4 := 10001) a2 b2
        refine ⟨(by show 5 ≤ sizeLine; decide), fun l5 h5 => ⟨_, rfl, p, _, _, _, rfl, rfl, SqL.of (same_new h5 _ _ (s2 _ _ hrow)), rowAt (i := 2) e2, l5, _, _, _, rfl, rfl, SqL.of upd_same, et, ?_⟩⟩
        have s5 : Same H2 (upd H2 l5 (.lst [.int 9999, .int 10000, .int 10001, .int 10000, .int 10001])) := same_new h5
        refine ⟨_, rfl, l, rfl, ⟨_, SqL.of (s5 _ _ hus)⟩, fun D hD0 => lc_list (K := K) (a := l) (xs := us) (fun i H' => Same H2 H' ∧ H' D = some (.lst (((ps.take i).map one).map V.int)))
          ⟨s5.trans (same_new hD0), upd_same⟩ (fun i H' _ h => SqL.of (h.1 _ _ hus)) ?_ ?_⟩
        · rintro i x H3 hi ⟨s3, hD1⟩
          obtain ⟨d, ed, hd⟩ := dpa_get hD hi
          rw [List.getElem?_map] at ed
          obtain ⟨pp, ep, rfl⟩ := Option.map_eq_some_iff.mp ed
          have hpp := hok pp (List.mem_of_getElem? ep)
          obtain ⟨q1, c1, ys, rfl, h1, h2, rfl⟩ := dp_piece (dp_mono (hide_le.trans s3) _ _ hd)
          have h1' : SqT K H3 q1 [.ref c1, .int pp.2] := h1
          have h2' : SqT K H3 c1 (pp.1.map V.str) := h2
          refine ⟨rfl, _, rfl, q1, _, _, _, rfl, rfl, h1', atI_nat (j := 0) rfl, c1, _, rfl, .inr h2', _, rfl, q1, _, _, _, rfl, rfl, h1', atI_nat (j := 1) rfl, _, _, rfl, rfl, .inl ?_, _, hD1, ?_, same_mut s3 (s5.free hD0), ?_⟩
          · have := hpp.1.few
            rw [List.length_map]
            omega
          · rw [List.length_map, List.length_map, List.length_take]
            exact small100k (by omega)
          · rw [upd_same, take_succ_of ep, List.map_append, List.map_append, List.length_map]
            rfl
        · rintro H3 ⟨s3, hD1⟩
          rw [lu, List.take_length] at hD1
          obtain ⟨t0', t1'⟩ := total_small hok
          refine ⟨D, _, rfl, SqL.of hD1, _, _, rfl, rfl, ?_⟩
          have hus3 := s3 _ _ hus
          refine ⟨_, rfl, .inl ⟨rfl, _, SqL.of hus3⟩, _, rfl, (by show 1 ≤ sizeLine; decide), fun t1 ht1 => ⟨_, rfl, (by show 2 ≤ sizeLine; decide), fun t2 ht2 => ?_⟩⟩
          have hus4 := same_new (o := .tup [.ref t1, .int (t - ((ps.map one).sum))]) ht2 _ _ (same_new (o := .tup [.str "z9"]) ht1 _ _ hus3)
          refine ⟨l, us, _, _, rfl, rfl, hus4, small100k (by omega), at0, by omega, ?_⟩
          have s34 : Same H2 (upd (upd H3 t1 (.tup [.str "z9"])) t2 (.tup [.ref t1, .int (t - ((ps.map one).sum))])) := (s3.trans (same_new ht1)).trans (same_new ht2)
          refine ⟨same_mut (s2.trans s34) hl, _, putAt ps (d3 % ((us.length : Int) + 1)).toNat (["z9"], t - ((ps.map one).sum)), _, _, _, _, rfl, upd_same, ?_, ?_, ?_⟩
          · rw [hide_upd, putAt_map]
            refine dpa_put _ (dpa_mono (hide_mono s34) _ _ hD) ?_
            have n2 : t2 ≠ l := (ne_of_none (same_new (o := .tup [.str "z9"]) ht1 _ _ hus3) ht2).symm
            have n1 : t1 ≠ l := (ne_of_none hus3 ht1).symm
            rw [hide_new n2, hide_new n1]
            have h2n : (upd (hide l H3) t1 (.tup [.str "z9"])) t2 = none := by rw [← hide_new n1]; exact hide_none ht2
            exact .tup (SqT.of upd_same) (.cons (.tup (SqT.of (same_new h2n _ _ upd_same)) (.cons (.str _) .nil)) (.cons (.int _) .nil))
          · rw [putAt_len]
            omega
          · intro pp hpp
            rcases putAt_mem hpp with rfl | hpp
            · have tt : total ps = (ps.map one).sum := rfl
              refine ⟨(by show 1 ≤ (["z9"] : List Str).length; decide), (by show (["z9"] : List Str).length ≤ 6; decide), ?_, show ∀ s ∈ (["z9"] : List Str), PyData.strOk s = true by decide +kernel⟩
              show 0 ≤ t - (ps.map one).sum
              omega
            · exact (hok pp hpp).1
      · refine ⟨_, rfl, p, _, _, _, rfl, rfl, row2, rowAt (i := 1) e1, _, _, rfl, rfl, _, rfl, ?_⟩
        refine ite2 (fun _ => ?_) (fun _ => ?_)
        · obtain ⟨t, ht, et⟩ := menu5 (a0 := 1) (a1 := 10 ^ Int.toNat 4) (a2 := 10 ^ Int.toNat 9) (a3 := 10 ^ Int.toNat 30) (a4 := 10 ^ Int.toNat 60) a2 b2
          have tpos : 0 ≤ t := by
            rcases ht with rfl | rfl | rfl | rfl | rfl <;> decide
          have pw : ∀ j : Int, 0 ≤ j → j ≤ 1000000 → CPow 10 j := fun j h0 h1 => ⟨h0, h1, by decide⟩
          refine ⟨_, _, rfl, rfl, pw _ (by decide) (by decide), _, _, rfl, rfl, pw _ (by decide) (by decide), _, _, rfl, rfl, pw _ (by decide) (by decide), _, _, rfl, rfl, pw _ (by decide) (by decide), (by show 5 ≤ sizeLine; decide), fun l5 h5 => ?_⟩
          have s5 : Same H2 (upd H2 l5 (.lst [.int 1, .int (10 ^ Int.toNat 4), .int (10 ^ Int.toNat 9), .int (10 ^ Int.toNat 30), .int (10 ^ Int.toNat 60)])) := same_new h5
          refine ⟨_, rfl, p, _, _, _, rfl, rfl, s5.seq row2, rowAt (i := 2) e2, l5, _, _, _, rfl, rfl, SqL.of upd_same, et, ?_⟩
          refine ⟨_, rfl, a, ns, 1, rfl, s5.seq (s2.seq hS1), fun z1 => ⟨z1, rfl, _, _, rfl, rfl, ?_⟩⟩
          have zpos : 0 ≤ (if z1 < 0 then -z1 else z1) := by split <;> omega
          refine ⟨_, rfl, .inl ⟨rfl, _, SqL.of (s5 _ _ hus)⟩, _, rfl, (by show 3 ≤ sizeLine; decide), fun t0 ht0 => ⟨_, rfl, p, _, _, _, rfl, rfl, SqL.of (same_new ht0 _ _ (s5 _ _ (s2 _ _ hrow))), rowAt (i := 5) e5, _, _, rfl, rfl, _, rfl, cut3 upd_same a5 b5 fun ta Hs ss ss1 hta sl1 sl6 sok => ?_⟩⟩
          have s6 : Same H2 Hs := (s5.trans (same_new ht0)).trans ss1
          refine ⟨_, rfl, (by show 2 ≤ sizeLine; decide), fun t2 ht2 => ?_⟩
          have husS := s6 _ _ hus
          refine ⟨l, us, _, _, rfl, rfl, same_new ht2 _ _ husS, small100k (by omega), at0, by omega, ?_⟩
          have s7 := s6.trans (same_new (o := .tup [.ref ta, .int (t + (if z1 < 0 then -z1 else z1))]) ht2)
          refine ⟨same_mut (s2.trans s7) hl, _, putAt ps (d3 % ((us.length : Int) + 1)).toNat (ss, t + (if z1 < 0 then -z1 else z1)), _, _, _, _, rfl, upd_same, ?_, ?_, ?_⟩
          · rw [hide_upd, putAt_map]
            refine dpa_put _ (dpa_mono (hide_mono s7) _ _ hD) ?_
            have n2 : t2 ≠ l := (ne_of_none husS ht2).symm
            have n1 : ta ≠ l := ne_of hta husS (by intro z; cases z)
            rw [hide_new n2]
            refine .tup (SqT.of upd_same) (.cons (.tup (SqT.of (same_new (hide_none ht2) _ _ ?_)) (dpa_strs ss)) (.cons (.int _) .nil))
            rw [hide_ne n1]
            exact hta
          · rw [putAt_len]
            omega
          · intro pp hpp
            rcases putAt_mem hpp with rfl | hpp
            · refine ⟨sl1, sl6, ?_, sok⟩
              show 0 ≤ t + (if z1 < 0 then -z1 else z1)
              omega
            · exact (hok pp hpp).1
        · exact ⟨s2, us, ps, _, _, _, _, rfl, hus, hD, by omega, fun pp hpp => (hok pp hpp).1⟩
    · clear hD hus hok hpl lu hp7 row2 s2 at0 at1
      rintro σ' H6 ⟨s6, us, ps, v3, v4, v5, v6, rfl, hus, hD, hp10, hok⟩
      have lu : us.length = ps.length := by rw [dpa_len hD, List.length_map]
      have hD6 := dpa_mono hide_le _ _ hD
      refine ⟨_, rfl, _, rfl, p, _, _, _, rfl, rfl, SqL.of (s6 _ _ hrow), rowAt (i := 4) e4, l, us, ps, d4, rfl, SqL.of hus, hD6, by omega, hok, fun H7 s7 => ⟨_, rfl, iteF ?_⟩⟩
      have hus7 := s7 _ _ hus
      have hD7 := dpa_mono s7 _ _ hD6
      refine ⟨_, rfl, l, _, rfl, .inl (SqL.of hus7), _, rfl, by omega, by omega, fun D hD0 => lc_range (lo := 0) (n := ((us.length : Int)).toNat) (fun i H' => Same H7 H' ∧ H' D = some (.lst (us.reverse.take i)))
        ⟨same_new hD0, upd_same⟩ ?_ ?_⟩
      · rintro i H8 hi ⟨s8, hD8⟩
        have hi2 : i < us.length := by omega
        have ei : ((us.length : Int) - 1) - (0 + (i : Int)) = ((us.length - 1 - i : Nat) : Int) := by omega
        have er : us.reverse[i]? = some us[us.length - 1 - i] := by
          rw [List.getElem?_reverse hi2]
          exact List.getElem?_eq_getElem (by omega)
        refine ⟨rfl, _, rfl, _, rfl, l, _, rfl, .inl (SqL.of (s8 _ _ hus7)), _, _, rfl, rfl, _, rfl, _, _, rfl, rfl, l, us, (us.length - 1 - i : Nat), _, rfl, congrArg V.int ei, SqL.of (s8 _ _ hus7), atI_nat (List.getElem?_eq_getElem (by omega)), _, hD8, ?_, same_mut s8 hD0, ?_⟩
        · rw [List.length_take]
          exact small100k (by omega)
        · rw [upd_same, take_succ_of er]
      · rintro H8 ⟨s8, hD8⟩
        rw [Int.toNat_natCast, List.take_of_length_le (by rw [List.length_reverse]; omega)] at hD8
        have hrow8 := s8 _ _ (s7 _ _ (s6 _ _ hrow))
        have hDr : DpAll K H8 us.reverse (ps.reverse.map (pieceD false false)) := by
          rw [List.map_reverse]
          exact dpa_rev (dpa_mono s8 _ _ hD7)
        refine ⟨_, rfl, _, rfl, p, _, _, _, rfl, rfl, SqL.of hrow8, rowAt (i := 4) e4, _, _, rfl, rfl, .inl ⟨_, rfl, _, _, rfl, rfl, (by show (0 : Int) < 8; decide), D, us.reverse, ps.reverse, _, rfl, SqL.of hD8, hDr, by rw [List.length_reverse]; omega, fun pp hpp => hok pp (List.mem_reverse.mp hpp), fun H9 s9 => ⟨_, rfl, iteT ?_⟩⟩⟩
        have s89 := s8.trans s9
        exact ⟨_, rfl, _, rfl, p, _, _, _, rfl, rfl, SqL.of (s9 _ _ hrow8), rowAt (i := 4) e4, l, us, ps, d4, rfl, SqL.of (s89 _ _ hus7), dpa_mono s89 _ _ hD7, by omega, hok, fun H10 _ => k H10⟩
end
end Pk
set_option Elab.async false
set_option maxRecDepth 100000
set_option maxHeartbeats 8000000
namespace Pk
open PySem L2
theorem kit_no {K : PySem.W.Frag} {C x : Addr} {r : List Value} (c : PySem.W.subIn K (.ref C) (.ref C) = some true) (i : PySem.W.isClsIn K x = true) (t : PySem.W.typeIn K (.ref x) = some (.type "type")) (s : PySem.W.subIn K (.ref C) (.ref x) = some false)
    (h : PySem.W.kitAny K (.ref C) r = some false) : PySem.W.kitAny K (.ref C) (.ref x :: r) = some false := by
  have n : (Value.ref C == Value.ref x) = false := Bool.eq_false_iff.mpr fun q => by
    have e : C = x := Value.ref.inj (beq_iff_eq.mp q)
    rw [← e, c] at s
    cases s
  have two : ((PySem.W.clsIn K x).isSome && PySem.W.typeIn K (.ref x) == some (.type "type")) = true := by
    have i' : (PySem.W.clsIn K x).isSome = true := i
    rw [i', t]
    rfl
  have one : PySem.W.kitOne K (.ref C) (.ref x) = some false := by
    unfold PySem.W.kitOne PySem.W.kitCls
    rw [n, if_neg Bool.false_ne_true]
    show (if ((PySem.W.clsIn K x).isSome && PySem.W.typeIn K (.ref x) == some (.type "type")) = true then PySem.W.subIn K (.ref C) (.ref x) else none) = some false
    rw [if_pos two, s]
  unfold PySem.W.kitAny
  rw [one]
  exact h
theorem kit_self {K : PySem.W.Frag} {C : Addr} : PySem.W.kitOne K (.ref C) (.ref C) = some true := by
  have n : (Value.ref C == Value.ref C) = true := beq_iff_eq.mpr rfl
  unfold PySem.W.kitOne
  rw [if_pos n]
theorem kit_VE {K : PySem.W.Frag} {C : Addr} (s : PySem.W.subIn K (.ref C) (.type "ValueError") = some true) : PySem.W.kitOne K (.ref C) (.type "ValueError") = some true := by
  have n : (Value.ref C == Value.type "ValueError") = false := rfl
  unfold PySem.W.kitOne PySem.W.kitCls
  rw [n, if_neg Bool.false_ne_true]
  have k : PySem.W.kitMeta "ValueError" = true := by decide +kernel
  show (if PySem.W.kitMeta "ValueError" = true then PySem.W.subIn K (.ref C) (.type "ValueError") else none) = some true
  rw [if_pos k, s]
theorem exm_yes {K : PySem.W.Frag} {C R : Addr} (b : PySem.W.subIn K (.ref R) (.type "BaseException") = some true) (i : PySem.W.isClsIn K R = true) (t : PySem.W.typeIn K (.ref R) = some (.type "type")) (s : PySem.W.subIn K (.ref C) (.ref R) = some true) :
    PySem.W.exmOne K (.ref C) (.ref R) = some true := by
  have two : ((PySem.W.clsIn K R).isSome && PySem.W.typeIn K (.ref R) == some (.type "type")) = true := by
    have i' : (PySem.W.clsIn K R).isSome = true := i
    rw [i', t]
    rfl
  have e1 : (PySem.W.subIn K (.ref R) (.type "BaseException") == some true) = true := by
    rw [b]
    rfl
  unfold PySem.W.exmOne PySem.W.kitCls
  rw [if_pos e1]
  show (if ((PySem.W.clsIn K R).isSome && PySem.W.typeIn K (.ref R) == some (.type "type")) = true then PySem.W.subIn K (.ref C) (.ref R) else none) = some true
  rw [if_pos two, s]
theorem all_mk {l : PySem.W.OpenLaw} {w : World} {K : PySem.W.Frag} {h : Heap} {mg : Str → Option Value} {fa : Addr} (X : K.In h) (G : h.Ns mainGlobals mg) (hfa : mg "law" = some (.ref fa))
    {f1 : Addr} {od1 an1 : Option Addr} {sl1 : Array (Option Value)} {oc1 kV1 dc1 pm1 cd1 ct1 : Value}
    {f2 : Addr} {od2 an2 : Option Addr} {sl2 : Array (Option Value)} {oc2 kV2 dc2 pm2 cd2 ct2 : Value}
    {f3 : Addr} {od3 an3 : Option Addr} {sl3 : Array (Option Value)} {oc3 kV3 dc3 pm3 cd3 ct3 : Value}
    {f4 : Addr} {od4 an4 : Option Addr} {sl4 : Array (Option Value)} {oc4 kV4 dc4 pm4 cd4 ct4 : Value}
    {f5 : Addr} {od5 an5 : Option Addr} {sl5 : Array (Option Value)} {oc5 kV5 dc5 pm5 cd5 ct5 : Value}
    {f6 : Addr} {od6 an6 : Option Addr} {sl6 : Array (Option Value)} {oc6 kV6 dc6 pm6 cd6 ct6 : Value}
    {f7 : Addr} {od7 an7 : Option Addr} {sl7 : Array (Option Value)} {oc7 kV7 dc7 pm7 cd7 ct7 : Value}
    {f8 : Addr} {od8 an8 : Option Addr} {sl8 : Array (Option Value)} {oc8 kV8 dc8 pm8 cd8 ct8 : Value}
    {f9 : Addr} {od9 an9 : Option Addr} {sl9 : Array (Option Value)} {oc9 kV9 dc9 pm9 cd9 ct9 : Value}
    {f10 : Addr} {od10 an10 : Option Addr} {sl10 : Array (Option Value)} {oc10 kV10 dc10 pm10 cd10 ct10 : Value}
    {C fI R : Addr} {odI anI : Option Addr} {slI : Array (Option Value)} {ocI kVI dcI pmI cdI ctI : Value}
    {nm q : Str} {N : Addr} {bs bm : List Value} {sn : List Str} {sub : List Value} {ab : Bool} {col : Option Bool} {dd : Option Addr} {k0 k1 k2 k3 k5 : Option Value} {tM : Tok}
    {a1 a2 a3 a4 a5 a6 a7 a8 a9 b1 b2 b3 b4 b5 b6 b7 b8 b9 : Addr}
    (na1 : PySem.W.nsIn K mainGlobals "height_of" = some (some (.ref f1)))
    (lk1 : K.lookup f1 = some ⟨oc1, od1, .func (PySem.W.fnOf "height_of" "height_of" (defArgs sHeight) (defBody sHeight) (defScope sHeight) .none kV1 dc1 pm1 an1 cd1 ct1), sl1⟩)
    (co1 : PySem.W.codeIn K cd1 "height_of" = true)
    (ke1 : PySem.W.keepIn K (.ref f1) = true)
    (na2 : PySem.W.nsIn K mainGlobals "unfold" = some (some (.ref f2)))
    (lk2 : K.lookup f2 = some ⟨oc2, od2, .func (PySem.W.fnOf "unfold" "unfold" (defArgs sUnfold) (defBody sUnfold) (defScope sUnfold) .none kV2 dc2 pm2 an2 cd2 ct2), sl2⟩)
    (co2 : PySem.W.codeIn K cd2 "unfold" = true)
    (ke2 : PySem.W.keepIn K (.ref f2) = true)
    (na3 : PySem.W.nsIn K mainGlobals "_law_whole" = some (some (.ref f3)))
    (lk3 : K.lookup f3 = some ⟨oc3, od3, .func (PySem.W.fnOf "_law_whole" "_law_whole" (defArgs sWhole) (defBody sWhole) (defScope sWhole) .none kV3 dc3 pm3 an3 cd3 ct3), sl3⟩)
    (co3 : PySem.W.codeIn K cd3 "_law_whole" = true)
    (ke3 : PySem.W.keepIn K (.ref f3) = true)
    (na4 : PySem.W.nsIn K mainGlobals "_law_same" = some (some (.ref f4)))
    (lk4 : K.lookup f4 = some ⟨oc4, od4, .func (PySem.W.fnOf "_law_same" "_law_same" (defArgs sSame) (defBody sSame) (defScope sSame) .none kV4 dc4 pm4 an4 cd4 ct4), sl4⟩)
    (co4 : PySem.W.codeIn K cd4 "_law_same" = true)
    (ke4 : PySem.W.keepIn K (.ref f4) = true)
    (na5 : PySem.W.nsIn K mainGlobals "_law_cell" = some (some (.ref f5)))
    (lk5 : K.lookup f5 = some ⟨oc5, od5, .func (PySem.W.fnOf "_law_cell" "_law_cell" (defArgs sCell) (defBody sCell) (defScope sCell) .none kV5 dc5 pm5 an5 cd5 ct5), sl5⟩)
    (co5 : PySem.W.codeIn K cd5 "_law_cell" = true)
    (ke5 : PySem.W.keepIn K (.ref f5) = true)
    (na6 : PySem.W.nsIn K mainGlobals "_law_digits" = some (some (.ref f6)))
    (lk6 : K.lookup f6 = some ⟨oc6, od6, .func (PySem.W.fnOf "_law_digits" "_law_digits" (defArgs sDigits) (defBody sDigits) (defScope sDigits) .none kV6 dc6 pm6 an6 cd6 ct6), sl6⟩)
    (co6 : PySem.W.codeIn K cd6 "_law_digits" = true)
    (ke6 : PySem.W.keepIn K (.ref f6) = true)
    (na7 : PySem.W.nsIn K mainGlobals "_law_piece" = some (some (.ref f7)))
    (lk7 : K.lookup f7 = some ⟨oc7, od7, .func (PySem.W.fnOf "_law_piece" "_law_piece" (defArgs sPiece) (defBody sPiece) (defScope sPiece) .none kV7 dc7 pm7 an7 cd7 ct7), sl7⟩)
    (co7 : PySem.W.codeIn K cd7 "_law_piece" = true)
    (ke7 : PySem.W.keepIn K (.ref f7) = true)
    (na8 : PySem.W.nsIn K mainGlobals "_law_shaped" = some (some (.ref f8)))
    (lk8 : K.lookup f8 = some ⟨oc8, od8, .func (PySem.W.fnOf "_law_shaped" "_law_shaped" (defArgs sShaped) (defBody sShaped) (defScope sShaped) .none kV8 dc8 pm8 an8 cd8 ct8), sl8⟩)
    (co8 : PySem.W.codeIn K cd8 "_law_shaped" = true)
    (ke8 : PySem.W.keepIn K (.ref f8) = true)
    (na9 : PySem.W.nsIn K mainGlobals "_law_right" = some (some (.ref f9)))
    (lk9 : K.lookup f9 = some ⟨oc9, od9, .func (PySem.W.fnOf "_law_right" "_law_right" (defArgs sRight) (defBody sRight) (defScope sRight) .none kV9 dc9 pm9 an9 cd9 ct9), sl9⟩)
    (co9 : PySem.W.codeIn K cd9 "_law_right" = true)
    (ke9 : PySem.W.keepIn K (.ref f9) = true)
    (na10 : PySem.W.nsIn K mainGlobals "law" = some (some (.ref f10)))
    (lk10 : K.lookup f10 = some ⟨oc10, od10, .func (PySem.W.fnOf "law" "law" (defArgs sLaw) (defBody sLaw) (defScope sLaw) .none kV10 dc10 pm10 an10 cd10 ct10), sl10⟩)
    (co10 : PySem.W.codeIn K cd10 "law" = true)
    (ke10 : PySem.W.keepIn K (.ref f10) = true)
    (nC : PySem.W.nsIn K mainGlobals "TooLong" = some (some (.ref C)))
    (xC : K.lookup C = some (excClassObj nm q C N bs bm true sn sub ab col dd k0 k1 k2 k3 k5 "ValueError.__new__"))
    (rC : PySem.HandSPX.refsVE bm = true)
    (sC : PySem.W.findIn K (.ref C) "__setattr__" = some (some (.builtin "object.__setattr__")))
    (eC : PySem.W.subIn K (.ref C) (.type "BaseException") = some true)
    (tC : PySem.W.typeIn K (.ref C) = some (.type "type"))
    (kC : PySem.W.keepIn K (.ref C) = true)
    (iC : PySem.W.findIn K (.ref C) "__init__" = some (some (.ref fI)))
    (tI : PySem.W.typeIn K (.ref fI) = some (.type "function"))
    (lI : K.lookup fI = some ⟨ocI, odI, .func (PySem.W.fnOf "__init__" "TooLong.__init__" (defArgs sLongInit) (defBody sLongInit) (defScope sLongInit) .none kVI dcI pmI anI cdI ctI), slI⟩)
    (cI : PySem.W.codeIn K cdI "TooLong.__init__" = true)
    (kI : PySem.W.keepIn K (.ref fI) = true)
    (no : PySem.W.findIn K (.ref C) "length" = some none)
    (mM : PySem.W.nsIn K mainGlobals "MOST_UNFOLDED" = some (some (.int 10000 tM)))
    (yc : PySem.W.isClsIn K C = true)
    (yg : PySem.W.findIn K (.ref C) "__getattribute__" = some (some (.builtin "BaseException.__getattribute__")))
    (yh : PySem.W.findIn K (.ref C) "__getattr__" = some none)
    (yd : PySem.W.hasDictIn K C = true)
    (ya : PySem.W.findIn K (.ref C) "__class__" = some (some (.builtin "object.__class__")))
    (yn : PySem.W.specialIn K (.builtin "object.__class__") "__get__" = some (some (.builtin "getset_descriptor.__get__")))
    (yt : PySem.W.takesIn K (.builtin "object.__class__") = some true)
    (ym : PySem.W.mroIn K C (.type "object") = some true)
    (nR : PySem.W.nsIn K mainGlobals "RecallError" = some (some (.ref R)))
    (ga1 : PySem.W.nsIn K mainGlobals "BadMachine" = some (some (.ref a1)))
    (ga2 : PySem.W.nsIn K mainGlobals "BadLine" = some (some (.ref a2)))
    (ga3 : PySem.W.nsIn K mainGlobals "BadText" = some (some (.ref a3)))
    (ga4 : PySem.W.nsIn K mainGlobals "Guesses" = some (some (.ref a4)))
    (ga5 : PySem.W.nsIn K mainGlobals "BadStanding" = some (some (.ref a5)))
    (ga6 : PySem.W.nsIn K mainGlobals "BadSurface" = some (some (.ref a6)))
    (ga7 : PySem.W.nsIn K mainGlobals "BadSplice" = some (some (.ref a7)))
    (ga8 : PySem.W.nsIn K mainGlobals "NothingToUndo" = some (some (.ref a8)))
    (ga9 : PySem.W.nsIn K mainGlobals "BadDeed" = some (some (.ref a9)))
    (gb1 : PySem.W.nsIn K mainGlobals "BadTree" = some (some (.ref b1)))
    (gb2 : PySem.W.nsIn K mainGlobals "DoubleName" = some (some (.ref b2)))
    (gb3 : PySem.W.nsIn K mainGlobals "NoSuchProcedure" = some (some (.ref b3)))
    (gb4 : PySem.W.nsIn K mainGlobals "BadToken" = some (some (.ref b4)))
    (gb5 : PySem.W.nsIn K mainGlobals "UnlikeLetters" = some (some (.ref b5)))
    (gb6 : PySem.W.nsIn K mainGlobals "BadCode" = some (some (.ref b6)))
    (gb7 : PySem.W.nsIn K mainGlobals "BadPaper" = some (some (.ref b7)))
    (gb8 : PySem.W.nsIn K mainGlobals "BadGrammar" = some (some (.ref b8)))
    (gb9 : PySem.W.nsIn K mainGlobals "NoSuchProgram" = some (some (.ref b9)))
    (z_isinstance : PySem.W.nsIn K mainGlobals "isinstance" = some none)
    (z_int : PySem.W.nsIn K mainGlobals "int" = some none)
    (z_bool : PySem.W.nsIn K mainGlobals "bool" = some none)
    (z_str : PySem.W.nsIn K mainGlobals "str" = some none)
    (z_tuple : PySem.W.nsIn K mainGlobals "tuple" = some none)
    (z_list : PySem.W.nsIn K mainGlobals "list" = some none)
    (z_len : PySem.W.nsIn K mainGlobals "len" = some none)
    (z_range : PySem.W.nsIn K mainGlobals "range" = some none)
    (z_sum : PySem.W.nsIn K mainGlobals "sum" = some none)
    (z_abs : PySem.W.nsIn K mainGlobals "abs" = some none)
    (z_ValueError : PySem.W.nsIn K mainGlobals "ValueError" = some none)
    (ic_a1 : PySem.W.isClsIn K a1 = true)
    (ty_a1 : PySem.W.typeIn K (.ref a1) = some (.type "type"))
    (sb_a1 : PySem.W.subIn K (.ref C) (.ref a1) = some false)
    (ic_a2 : PySem.W.isClsIn K a2 = true)
    (ty_a2 : PySem.W.typeIn K (.ref a2) = some (.type "type"))
    (sb_a2 : PySem.W.subIn K (.ref C) (.ref a2) = some false)
    (ic_a3 : PySem.W.isClsIn K a3 = true)
    (ty_a3 : PySem.W.typeIn K (.ref a3) = some (.type "type"))
    (sb_a3 : PySem.W.subIn K (.ref C) (.ref a3) = some false)
    (ic_a4 : PySem.W.isClsIn K a4 = true)
    (ty_a4 : PySem.W.typeIn K (.ref a4) = some (.type "type"))
    (sb_a4 : PySem.W.subIn K (.ref C) (.ref a4) = some false)
    (ic_a5 : PySem.W.isClsIn K a5 = true)
    (ty_a5 : PySem.W.typeIn K (.ref a5) = some (.type "type"))
    (sb_a5 : PySem.W.subIn K (.ref C) (.ref a5) = some false)
    (ic_a6 : PySem.W.isClsIn K a6 = true)
    (ty_a6 : PySem.W.typeIn K (.ref a6) = some (.type "type"))
    (sb_a6 : PySem.W.subIn K (.ref C) (.ref a6) = some false)
    (ic_a7 : PySem.W.isClsIn K a7 = true)
    (ty_a7 : PySem.W.typeIn K (.ref a7) = some (.type "type"))
    (sb_a7 : PySem.W.subIn K (.ref C) (.ref a7) = some false)
    (ic_a8 : PySem.W.isClsIn K a8 = true)
    (ty_a8 : PySem.W.typeIn K (.ref a8) = some (.type "type"))
    (sb_a8 : PySem.W.subIn K (.ref C) (.ref a8) = some false)
    (ic_a9 : PySem.W.isClsIn K a9 = true)
    (ty_a9 : PySem.W.typeIn K (.ref a9) = some (.type "type"))
    (sb_a9 : PySem.W.subIn K (.ref C) (.ref a9) = some false)
    (ic_b1 : PySem.W.isClsIn K b1 = true)
    (ty_b1 : PySem.W.typeIn K (.ref b1) = some (.type "type"))
    (sb_b1 : PySem.W.subIn K (.ref C) (.ref b1) = some false)
    (ic_b2 : PySem.W.isClsIn K b2 = true)
    (ty_b2 : PySem.W.typeIn K (.ref b2) = some (.type "type"))
    (sb_b2 : PySem.W.subIn K (.ref C) (.ref b2) = some false)
    (ic_b3 : PySem.W.isClsIn K b3 = true)
    (ty_b3 : PySem.W.typeIn K (.ref b3) = some (.type "type"))
    (sb_b3 : PySem.W.subIn K (.ref C) (.ref b3) = some false)
    (ic_b4 : PySem.W.isClsIn K b4 = true)
    (ty_b4 : PySem.W.typeIn K (.ref b4) = some (.type "type"))
    (sb_b4 : PySem.W.subIn K (.ref C) (.ref b4) = some false)
    (ic_b5 : PySem.W.isClsIn K b5 = true)
    (ty_b5 : PySem.W.typeIn K (.ref b5) = some (.type "type"))
    (sb_b5 : PySem.W.subIn K (.ref C) (.ref b5) = some false)
    (ic_b6 : PySem.W.isClsIn K b6 = true)
    (ty_b6 : PySem.W.typeIn K (.ref b6) = some (.type "type"))
    (sb_b6 : PySem.W.subIn K (.ref C) (.ref b6) = some false)
    (ic_b7 : PySem.W.isClsIn K b7 = true)
    (ty_b7 : PySem.W.typeIn K (.ref b7) = some (.type "type"))
    (sb_b7 : PySem.W.subIn K (.ref C) (.ref b7) = some false)
    (ic_b8 : PySem.W.isClsIn K b8 = true)
    (ty_b8 : PySem.W.typeIn K (.ref b8) = some (.type "type"))
    (sb_b8 : PySem.W.subIn K (.ref C) (.ref b8) = some false)
    (ic_b9 : PySem.W.isClsIn K b9 = true)
    (ty_b9 : PySem.W.typeIn K (.ref b9) = some (.type "type"))
    (sb_b9 : PySem.W.subIn K (.ref C) (.ref b9) = some false)
    (sCC : PySem.W.subIn K (.ref C) (.ref C) = some true)
    (sCV : PySem.W.subIn K (.ref C) (.type "ValueError") = some true)
    (sRB : PySem.W.subIn K (.ref R) (.type "BaseException") = some true)
    (iR : PySem.W.isClsIn K R = true)
    (tR : PySem.W.typeIn K (.ref R) = some (.type "type"))
    (sCR : PySem.W.subIn K (.ref C) (.ref R) = some true) :
    ∃ fd : FuncData, (∀ (s : Shared) (v : Value), BindsTo s fd ⟨[v], []⟩ [("script", v)]) ∧ ∀ base : Heap, K.In base → base.Ns mainGlobals mg → FnOk l.prog w K mg base CX0 5 fa fd ["script"] (spLaw K) := by
  have e := hfa.symm.trans (PySem.W.mg_of X G na10)
  cases e
  have T : TB mg := ⟨PySem.W.mg_none_of X G z_isinstance, PySem.W.mg_none_of X G z_int, PySem.W.mg_none_of X G z_bool, PySem.W.mg_none_of X G z_str, PySem.W.mg_none_of X G z_tuple, PySem.W.mg_none_of X G z_list, PySem.W.mg_none_of X G z_len, PySem.W.mg_none_of X G z_range, PySem.W.mg_none_of X G z_sum, PySem.W.mg_none_of X G z_abs⟩
  have F1 := fun_mk (st := sHeight) lk1 co1 ke1
  have F2 := fun_mk (st := sUnfold) lk2 co2 ke2
  have F3 := fun_mk (st := sWhole) lk3 co3 ke3
  have F4 := fun_mk (st := sSame) lk4 co4 ke4
  have F5 := fun_mk (st := sCell) lk5 co5 ke5
  have F6 := fun_mk (st := sDigits) lk6 co6 ke6
  have F7 := fun_mk (st := sPiece) lk7 co7 ke7
  have F8 := fun_mk (st := sShaped) lk8 co8 ke8
  have F9 := fun_mk (st := sRight) lk9 co9 ke9
  have F10 := fun_mk (st := sLaw) lk10 co10 ke10
  have FI := fun_mk (st := sLongInit) lI cI kI
  have b21 := F1.binds (ps := ["pieces"]) fun _ _ _ _ _ _ us hl => match us, hl with | [_], _ => rfl
  have b22 := F2.binds (ps := ["pieces"]) fun _ _ _ _ _ _ us hl => match us, hl with | [_], _ => rfl
  have b23 := F3.binds (ps := ["value"]) fun _ _ _ _ _ _ us hl => match us, hl with | [_], _ => rfl
  have b24 := F4.binds (ps := ["told", "due"]) fun _ _ _ _ _ _ us hl => match us, hl with | [_, _], _ => rfl
  have b25 := F5.binds (ps := ["script", "k"]) fun _ _ _ _ _ _ us hl => match us, hl with | [_, _], _ => rfl
  have b26 := F6.binds (ps := ["cell", "sizes"]) fun _ _ _ _ _ _ us hl => match us, hl with | [_, _], _ => rfl
  have b27 := F7.binds (ps := ["cell"]) fun _ _ _ _ _ _ us hl => match us, hl with | [_], _ => rfl
  have b28 := F8.binds (ps := ["parts", "shape"]) fun _ _ _ _ _ _ us hl => match us, hl with | [_, _], _ => rfl
  have b29 := F9.binds (ps := ["parts", "shape"]) fun _ _ _ _ _ _ us hl => match us, hl with | [_, _], _ => rfl
  have bI := FI.binds (ps := ["self", "length"]) fun _ _ _ _ _ _ us hl => match us, hl with | [_, _], _ => rfl
  have kw1 : AllKw (PySem.W.fnOf "height_of" "height_of" (defArgs sHeight) (defBody sHeight) (defScope sHeight) .none kV1 dc1 pm1 an1 cd1 ct1) ["pieces"] := fun s ws hl => match ws, hl with | [_], _ => .of_eq rfl
  have kw2 : AllKw (PySem.W.fnOf "unfold" "unfold" (defArgs sUnfold) (defBody sUnfold) (defScope sUnfold) .none kV2 dc2 pm2 an2 cd2 ct2) ["pieces"] := fun s ws hl => match ws, hl with | [_], _ => .of_eq rfl
  have m : ∀ {x : Str} {v : Value}, PySem.W.nsIn K mainGlobals x = some (some v) → mg x = some v := fun q => PySem.W.mg_of X G q
  have ox : OexC K C := ⟨⟨nm, q, N, bs, bm, sn, sub, ab, col, dd, k0, k1, k2, k3, k5, xC, rC⟩, sC, eC, tC, kC⟩
  have L : LongT K mg C fI := ⟨m nC, ox, iC, tI, no, tM, m mM⟩
  have ET : ErrT K C := ⟨yc, yg, yh, eC, yd, ya, yn, yt, ym⟩
  have X5 : ErrsT K mg C R a1 a2 a3 a4 a5 a6 a7 a8 a9 b1 b2 b3 b4 b5 b6 b7 b8 b9 := ⟨m nR, m ga1, m ga2, m ga3, m ga4, m ga5, m ga6, m ga7, m ga8, m ga9, m gb1, m gb2, m gb3, m gb4, m gb5, m gb6, m gb7, m gb8, m gb9, PySem.W.mg_none_of X G z_ValueError, kit_no sCC ic_a1 ty_a1 sb_a1 (kit_no sCC ic_a2 ty_a2 sb_a2 (kit_no sCC ic_a3 ty_a3 sb_a3 (kit_no sCC ic_a4 ty_a4 sb_a4 (kit_no sCC ic_a5 ty_a5 sb_a5 (kit_no sCC ic_a6 ty_a6 sb_a6 (kit_no sCC ic_a7 ty_a7 sb_a7 (kit_no sCC ic_a8 ty_a8 sb_a8 (kit_no sCC ic_a9 ty_a9 sb_a9 rfl)))))))), kit_no sCC ic_b1 ty_b1 sb_b1 (kit_no sCC ic_b2 ty_b2 sb_b2 (kit_no sCC ic_b3 ty_b3 sb_b3 (kit_no sCC ic_b4 ty_b4 sb_b4 (kit_no sCC ic_b5 ty_b5 sb_b5 (kit_no sCC ic_b6 ty_b6 sb_b6 (kit_no sCC ic_b7 ty_b7 sb_b7 (kit_no sCC ic_b8 ty_b8 sb_b8 (kit_no sCC ic_b9 ty_b9 sb_b9 rfl)))))))), kit_self, kit_VE sCV, exm_yes sRB iR tR sCR⟩
  refine ⟨PySem.W.fnOf "law" "law" (defArgs sLaw) (defBody sLaw) (defScope sLaw) .none kV10 dc10 pm10 an10 cd10 ct10, fun s v => .of_eq rfl, fun base _ _ => ?_⟩
  have GR : FnOk l.prog w K mg base CX0 4 f9 _ ["parts", "shape"] (spRight K) := ok_right F9 T L ET X5 F4 b24 (m na4) F3 b23 (m na3) F8 b28 (m na8) F1 b21 (m na1) kw1 F2 b22 (m na2) kw2 FI bI
  exact ok_law F10 T F5 b25 (m na5) F6 b26 (m na6) F7 b27 (m na7) ke9 GR b29 (m na9)
theorem walk {l : PySem.W.OpenLaw} {q : Program} {loose : List Str} {XP : (Str → Option Value) → Heap → Prop} {YP : World → Heap → Prop} {d : DefRec} {K : Params → PySem.W.Frag} (hn : l.most = some 63) (hdf : d.params.defaults = [])
    (hY : ∀ (w : World) (h : Heap), YP w h → (K w.params).In h)
    (F : ∀ (w : World) (mg : Str → Option Value) (fa : Addr) (h : Heap), (K w.params).In h → h.Ns mainGlobals mg → mg d.name = some (.ref fa) →
      ∃ fd : FuncData, (∀ (s : Shared) (u : Value), BindsTo s fd ⟨[u], []⟩ [("script", u)]) ∧ ∀ base : Heap, (K w.params).In base → base.Ns mainGlobals mg → FnOk l.prog w (K w.params) mg base CX0 5 fa fd ["script"] (spLaw (K w.params))) :
    PySem.W.WalkO q loose XP YP l.row.toRowW d [] (fun f vs => PySem.call f vs) :=
  L2.walk_of (n := 63) (k := 5) (x := "script") (CX := fun _ => CX0) (sp := fun w => spLaw (K w.params)) hn (by decide) hdf ⟨rfl, by decide, by decide⟩ hY F (fun _ _ a ns _ _ hS => ⟨a, ns, rfl, hS, fun _ => rfl⟩) fun _ _ _ _ _ z => z
end Pk
set_option Elab.async false
open PySem PySem.W PyProof.Rows
set_option maxRecDepth 100000 in
set_option maxHeartbeats 0 in
theorem PySem.Challenge.cw_pilerecall_k25_pieces_holds : PySem.Challenge.rw_pilerecall_k25_pieces.Holds := by
  w_on; o_law; k_head; (case hw => w_witness2)
  k_fill
  refine Pk.walk (l := PySem.Challenge.rw_pilerecall_k25_pieces) rfl rfl (fun w h Y => PySem.W.kIn_of Y) ?F
  case F =>
    intro w mg fa h KX G hmg
    refine' Pk.all_mk KX G hmg ?na1 ?lk1 ?co1 ?ke1 ?na2 ?lk2 ?co2 ?ke2 ?na3 ?lk3 ?co3 ?ke3 ?na4 ?lk4 ?co4 ?ke4 ?na5 ?lk5 ?co5 ?ke5 ?na6 ?lk6 ?co6 ?ke6 ?na7 ?lk7 ?co7 ?ke7 ?na8 ?lk8 ?co8 ?ke8 ?na9 ?lk9 ?co9 ?ke9 ?na10 ?lk10 ?co10 ?ke10 ?nC ?xC ?rC ?sC ?eC ?tC ?kC ?iC ?tI ?lI ?cI ?kI ?no ?mM ?yc ?yg ?yh ?yd ?ya ?yn ?yt ?ym ?nR ?ga1 ?ga2 ?ga3 ?ga4 ?ga5 ?ga6 ?ga7 ?ga8 ?ga9 ?gb1 ?gb2 ?gb3 ?gb4 ?gb5 ?gb6 ?gb7 ?gb8 ?gb9 ?z_isinstance ?z_int ?z_bool ?z_str ?z_tuple ?z_list ?z_len ?z_range ?z_sum ?z_abs ?z_ValueError ?ic_a1 ?ty_a1 ?sb_a1 ?ic_a2 ?ty_a2 ?sb_a2 ?ic_a3 ?ty_a3 ?sb_a3 ?ic_a4 ?ty_a4 ?sb_a4 ?ic_a5 ?ty_a5 ?sb_a5 ?ic_a6 ?ty_a6 ?sb_a6 ?ic_a7 ?ty_a7 ?sb_a7 ?ic_a8 ?ty_a8 ?sb_a8 ?ic_a9 ?ty_a9 ?sb_a9 ?ic_b1 ?ty_b1 ?sb_b1 ?ic_b2 ?ty_b2 ?sb_b2 ?ic_b3 ?ty_b3 ?sb_b3 ?ic_b4 ?ty_b4 ?sb_b4 ?ic_b5 ?ty_b5 ?sb_b5 ?ic_b6 ?ty_b6 ?sb_b6 ?ic_b7 ?ty_b7 ?sb_b7 ?ic_b8 ?ty_b8 ?sb_b8 ?ic_b9 ?ty_b9 ?sb_b9 ?sCC ?sCV ?sRB ?iR ?tR ?sCR
    (case na1 => k_is)
    (case lk1 => k_is)
    (case co1 => k_is)
    (case ke1 => k_is)
    (case na2 => k_is)
    (case lk2 => k_is)
    (case co2 => k_is)
    (case ke2 => k_is)
    (case na3 => k_is)
    (case lk3 => k_is)
    (case co3 => k_is)
    (case ke3 => k_is)
    (case na4 => k_is)
    (case lk4 => k_is)
    (case co4 => k_is)
    (case ke4 => k_is)
    (case na5 => k_is)
    (case lk5 => k_is)
    (case co5 => k_is)
    (case ke5 => k_is)
    (case na6 => k_is)
    (case lk6 => k_is)
    (case co6 => k_is)
    (case ke6 => k_is)
    (case na7 => k_is)
    (case lk7 => k_is)
    (case co7 => k_is)
    (case ke7 => k_is)
    (case na8 => k_is)
    (case lk8 => k_is)
    (case co8 => k_is)
    (case ke8 => k_is)
    (case na9 => k_is)
    (case lk9 => k_is)
    (case co9 => k_is)
    (case ke9 => k_is)
    (case na10 => k_is)
    (case lk10 => k_is)
    (case co10 => k_is)
    (case ke10 => k_is)
    (case nC => k_is)
    (case xC => k_is)
    (case rC => decide +kernel)
    (case sC => k_is)
    (case eC => k_is)
    (case tC => k_is)
    (case kC => k_is)
    (case iC => k_is)
    (case tI => k_is)
    (case lI => k_is)
    (case cI => k_is)
    (case kI => k_is)
    (case no => k_is)
    (case mM => k_is)
    (case yc => k_is)
    (case yg => k_is)
    (case yh => k_is)
    (case yd => k_is)
    (case ya => k_is)
    (case yn => k_is)
    (case yt => k_is)
    (case ym => k_is)
    (case nR => k_is)
    (case ga1 => k_is)
    (case ga2 => k_is)
    (case ga3 => k_is)
    (case ga4 => k_is)
    (case ga5 => k_is)
    (case ga6 => k_is)
    (case ga7 => k_is)
    (case ga8 => k_is)
    (case ga9 => k_is)
    (case gb1 => k_is)
    (case gb2 => k_is)
    (case gb3 => k_is)
    (case gb4 => k_is)
    (case gb5 => k_is)
    (case gb6 => k_is)
    (case gb7 => k_is)
    (case gb8 => k_is)
    (case gb9 => k_is)
    (case z_isinstance => k_is)
    (case z_int => k_is)
    (case z_bool => k_is)
    (case z_str => k_is)
    (case z_tuple => k_is)
    (case z_list => k_is)
    (case z_len => k_is)
    (case z_range => k_is)
    (case z_sum => k_is)
    (case z_abs => k_is)
    (case z_ValueError => k_is)
    (case ic_a1 => k_is)
    (case ty_a1 => k_is)
    (case sb_a1 => k_is)
    (case ic_a2 => k_is)
    (case ty_a2 => k_is)
    (case sb_a2 => k_is)
    (case ic_a3 => k_is)
    (case ty_a3 => k_is)
    (case sb_a3 => k_is)
    (case ic_a4 => k_is)
    (case ty_a4 => k_is)
    (case sb_a4 => k_is)
    (case ic_a5 => k_is)
    (case ty_a5 => k_is)
    (case sb_a5 => k_is)
    (case ic_a6 => k_is)
    (case ty_a6 => k_is)
    (case sb_a6 => k_is)
    (case ic_a7 => k_is)
    (case ty_a7 => k_is)
    (case sb_a7 => k_is)
    (case ic_a8 => k_is)
    (case ty_a8 => k_is)
    (case sb_a8 => k_is)
    (case ic_a9 => k_is)
    (case ty_a9 => k_is)
    (case sb_a9 => k_is)
    (case ic_b1 => k_is)
    (case ty_b1 => k_is)
    (case sb_b1 => k_is)
    (case ic_b2 => k_is)
    (case ty_b2 => k_is)
    (case sb_b2 => k_is)
    (case ic_b3 => k_is)
    (case ty_b3 => k_is)
    (case sb_b3 => k_is)
    (case ic_b4 => k_is)
    (case ty_b4 => k_is)
    (case sb_b4 => k_is)
    (case ic_b5 => k_is)
    (case ty_b5 => k_is)
    (case sb_b5 => k_is)
    (case ic_b6 => k_is)
    (case ty_b6 => k_is)
    (case sb_b6 => k_is)
    (case ic_b7 => k_is)
    (case ty_b7 => k_is)
    (case sb_b7 => k_is)
    (case ic_b8 => k_is)
    (case ty_b8 => k_is)
    (case sb_b8 => k_is)
    (case ic_b9 => k_is)
    (case ty_b9 => k_is)
    (case sb_b9 => k_is)
    (case sCC => k_is)
    (case sCV => k_is)
    (case sRB => k_is)
    (case iR => k_is)
    (case tR => k_is)
    (case sCR => k_is)
#print axioms PySem.Challenge.cw_pilerecall_k25_pieces_holds
