import PyProof.Rows.All
import Wide.All
import OpenK.AllK
import Wide.FinOn
import HandS.ForMost
import HandS.Wide
import HandS.EndBits
import HandS.IsInst
import HandS.Conv
import HandS.Defaults
import HandS.HotCalls
import HandS.ExcInitHot
import HandS.ExcField
import KE.KExcIs
import HandS.Walk
import HandS.Steps
import HandS.ExcCtx
import HandS.Text
import HandS.StrMore
import HandS.Codes
import HandS.Words
import PyProof.StrLawsTight
import HandS.FStrTup
import PyProof.ReprRoads
import HandS.ReplaceLit
import HandS.CallLocal
import HandS.Deep
import KE.KStateDown
import HandS.Base
import HandS.Call
import HandS.Ends
import HandS.Head0
import HandS.Head1
import HandS.Head2
import HandS.HeadEnd
import HandS.HeadHook1
import HandS.HeadHook2
import HandS.HeadHook3
import HandS.HeadHook4
import Wide.Once
import PySem.Challenge.RW_pilerecall_k84_tests_of_texts_whole
set_option Elab.async false
set_option maxRecDepth 100000
set_option maxHeartbeats 4000000
namespace Pk
open PySem L2

/-! deep data in the heap -/
theorem Same.tup {K : PySem.W.Frag} {H H' : Hp} {a : Addr} {xs : List V} (e : Same H H') (h : SqT K H a xs) : SqT K H' a xs := by
  rcases h with (h | ⟨o, h⟩) | h
  · exact .inl (.inl (e _ _ h))
  · exact .inl (.inr ⟨o, e _ _ h⟩)
  · exact .inr h
mutual
theorem dp_mono {K : PySem.W.Frag} {H H' : Hp} (e : Same H H') : ∀ (d : PyData) (v : V), Dp K H v d → Dp K H' v d
  | .none, _, h => by cases h; exact .non
  | .bool _, _, h => by cases h; exact .bl _
  | .int _, _, h => by cases h; exact .int _
  | .str _, _, h => by cases h; exact .str _
  | .list ds, _, h => by
    cases h with
    | lst hs ha => exact .lst (e.seq hs) (dpa_mono e ds _ ha)
  | .tuple ds, _, h => by
    cases h with
    | tup hs ha => exact .tup (Same.tup e hs) (dpa_mono e ds _ ha)
  | .dict _, _, h => by cases h
theorem dpa_mono {K : PySem.W.Frag} {H H' : Hp} (e : Same H H') : ∀ (ds : List PyData) (vs : List V), DpAll K H vs ds → DpAll K H' vs ds
  | [], _, h => by cases h; exact .nil
  | d :: ds, _, h => by
    cases h with
    | cons h1 h2 => exact .cons (dp_mono e d _ h1) (dpa_mono e ds _ h2)
end
theorem dpa_len {K : PySem.W.Frag} {H : Hp} : ∀ {ds : List PyData} {vs : List V}, DpAll K H vs ds → vs.length = ds.length
  | [], _, h => by cases h; rfl
  | _ :: _, _, h => by
    cases h with
    | cons _ h2 => rw [List.length_cons, List.length_cons, dpa_len h2]
theorem dpa_get {K : PySem.W.Frag} {H : Hp} : ∀ {ds : List PyData} {vs : List V} {i : Nat} {v : V}, DpAll K H vs ds → vs[i]? = some v → ∃ d, ds[i]? = some d ∧ Dp K H v d
  | [], _, i, v, h, e => by cases h; simp at e
  | d :: ds, _, 0, v, h, e => by
    cases h with
    | cons h1 h2 => simp at e; subst e; exact ⟨d, rfl, h1⟩
  | d :: ds, _, i + 1, v, h, e => by
    cases h with
    | cons h1 h2 =>
      obtain ⟨x, e1, e2⟩ := dpa_get (i := i) (v := v) h2 (by simpa using e)
      exact ⟨x, by simpa using e1, e2⟩
theorem dpa_append {K : PySem.W.Frag} {H : Hp} : ∀ {ds es : List PyData} {vs us : List V}, DpAll K H vs ds → DpAll K H us es → DpAll K H (vs ++ us) (ds ++ es)
  | [], _, _, _, h, g => by cases h; exact g
  | _ :: _, _, _, _, h, g => by
    cases h with
    | cons h1 h2 => exact .cons h1 (dpa_append h2 g)
theorem same_new {H : Hp} {p : Addr} {o : HO} (h : H p = none) : Same H (upd H p o) := fun b u e => by
  rw [upd_ne (ne_of_none e h)]
  exact e
/-- what H0 did not know may change -/
theorem same_mut {H0 H : Hp} {p : Addr} {o : HO} (e : Same H0 H) (h : H0 p = none) : Same H0 (upd H p o) := fun b u q => by
  rw [upd_ne (ne_of_none q h)]
  exact e b u q
/-- the heap without what stands at q -/
def hide (q : Addr) (H : Hp) : Hp := fun b => if b = q then none else H b
theorem hide_ne {q b : Addr} {H : Hp} (h : b ≠ q) : hide q H b = H b := if_neg h
theorem hide_same {q : Addr} {H : Hp} : hide q H q = none := if_pos rfl
theorem hide_le {q : Addr} {H : Hp} : Same (hide q H) H := fun b o e => by
  by_cases h : b = q
  · rw [h, hide_same] at e
    cases e
  · rw [hide_ne h] at e
    exact e
theorem hide_upd {q : Addr} {H : Hp} {o : HO} : hide q (upd H q o) = hide q H := by
  funext b
  by_cases h : b = q
  · rw [h, hide_same, hide_same]
  · rw [hide_ne h, hide_ne h, upd_ne h]
theorem hide_new {q r : Addr} {H : Hp} {o : HO} (h : r ≠ q) : hide q (upd H r o) = upd (hide q H) r o := by
  funext b
  by_cases e : b = q
  · rw [e, hide_same, upd_ne h.symm, hide_same]
  · rw [hide_ne e]
    by_cases e2 : b = r
    · rw [e2, upd_same, upd_same]
    · rw [upd_ne e2, upd_ne e2, hide_ne e]
theorem hide_base {q : Addr} {H0 H : Hp} (e : Same H0 H) (h : H0 q = none) : Same H0 (hide q H) := fun b o z => by
  rw [hide_ne (ne_of_none z h)]
  exact e b o z
theorem hide_mono {q : Addr} {H H' : Hp} (e : Same H H') : Same (hide q H) (hide q H') := fun b o z => by
  by_cases h : b = q
  · rw [h, hide_same] at z
    cases z
  · rw [hide_ne h] at z ⊢
    exact e b o z
theorem hide_none {q r : Addr} {H : Hp} (h : H r = none) : hide q H r = none := by
  by_cases e : r = q
  · rw [e, hide_same]
  · rw [hide_ne e, h]
/-- of H' what H did not know -/
def newOnly (H H' : Hp) : Hp := fun b => match H b with
  | none => H' b
  | some _ => none
theorem newOnly_at {H H' : Hp} {a : Addr} {o : HO} (h : H a = none) (e : H' a = some o) : newOnly H H' a = some o := by
  unfold newOnly
  rw [h]
  exact e
theorem newOnly_hide {H H' : Hp} {q : Addr} {o : HO} (h : H q = some o) : Same (newOnly H H') (hide q H') := fun b u e => by
  unfold newOnly at e
  cases z : H b with
  | none =>
    rw [z] at e
    rw [hide_ne (ne_of_none h z).symm]
    exact e
  | some y =>
    rw [z] at e
    cases e
theorem mapInt {ns : List Int} {i : Nat} {v : V} (h : (ns.map V.int)[i]? = some v) : ∃ z, ns[i]? = some z ∧ v = V.int z := by
  rw [List.getElem?_map] at h
  cases e : ns[i]? with
  | none => rw [e] at h; cases h
  | some z => rw [e] at h; exact ⟨z, rfl, (Option.some.inj h).symm⟩

/-- the built-in names that are used -/
structure TB (mg : Str → Option Value) : Prop where
  isi : mg "isinstance" = none
  int : mg "int" = none
  bool : mg "bool" = none
  str : mg "str" = none
  tuple : mg "tuple" = none
  list : mg "list" = none
  len : mg "len" = none
  range : mg "range" = none
  sum : mg "sum" = none
  abs : mg "abs" = none

theorem lt_pow_natAbs {i : Int} {n : Nat} (h : i.natAbs < 2 ^ n) : -(2 ^ n : Int) < i ∧ i < (2 ^ n : Int) := by
  have e : ((2 ^ n : Nat) : Int) = (2 : Int) ^ n := by simp
  omega
end Pk

set_option Elab.async false
set_option maxRecDepth 100000
set_option maxHeartbeats 4000000
/-! raising an own error, for any law (from law_k25) -/
namespace Pk
open PySem L2
section
variable {P : Program} {w : World} {K : PySem.W.Frag} {mg : Str → Option Value} {base : Heap}
/-! an own error made where nothing is handled: its context is None -/
theorem pmkN_own {X : Cx} {CX : CXT} {x : Str} {e : Expr} {es : List Expr} {ta : TA} {p pos : Pos} {C fI : Addr} {k : Nat} {fd : FuncData} {ps : List Str} {sp : Sp}
    (T : OexC X.K C)
    (iC : PySem.W.findIn X.K (.ref C) "__init__" = some (some (.ref fI)))
    (tI : PySem.W.typeIn X.K (.ref fI) = some (.type "function"))
    (F1 : FnOk X.prog X.w X.K X.mg X.base CX k fI fd ps sp) (hr : Room (k + 1) X.A)
    (hb : Binds X.K fd ps []) (hx : Passes CX X (fun _ _ _ => False))
    (hg : Gl X x) (hm : X.mg x = some (.ref C)) (ha : PA X (e :: es) ta) (hdb : (x == ("__debug__" : Str)) = false := by decide)
    (he : starEach (e :: es) X.env = (false, eval e X.env) :: starEach es X.env := by rfl)
    (hpl : (backTo pos (starEach es X.env)).any (·.1) = false := by rfl) :
    L2N.PMk X (.Call (.Name x p) (e :: es) [] pos) (tMkO C sp [] ta) := fun pins s σ H Q I h => by
  obtain ⟨nm, q, N, bs, bm, sn, sub, ab, col, dd, k0, k1, k2, k3, k5, cC, mC⟩ := T.cls
  apply wpAny_Call_Name_kw
  refine ld_glob I hg hm ?_ hdb
  have args := ha.run pos pins s σ H _ I h
  apply PySem.W.callWith_K (h₀ := X.base) I.ok.mod.kin T.kC ?_ he hpl
  refine thn args ?_
  rintro us ⟨hp, g, dr, tk, os⟩ ⟨vs, H1, I1, r1, hz, q1⟩
  refine ⟨I1.kIn, ?_⟩
  have grown := Nat.le_succ hp.objs.size
  have n1 : H1 (hp.objs.size + 1) = none := I1.hok.fresh grown
  have q2 := q1 _ n1
  rw [List.append_nil] at q2
  have kept : ∀ b o, hp.get? b = some o → ((hp.push (PySem.W.kdv_tup us)).push (PySem.HandSPX.excO C hp.objs.size)).get? b = some o := by
    intro b o z
    exact Heap.get?_push_of_some _ (Heap.get?_push_of_some _ z)
  have laid : ((hp.push (PySem.W.kdv_tup us)).push (PySem.HandSPX.excO C hp.objs.size)).get? (hp.objs.size + 1) = some (PySem.HandSPX.excO C hp.objs.size) := by
    heap_get
  have I2 := I1.laid (t' := tk) (a := hp.objs.size + 1) (o := exo (hp.objs.size + 1) C none) kept grown (exo_ok laid)
  have r2 : Vals (V.ref (hp.objs.size + 1) :: vs) (Value.ref (hp.objs.size + 1) :: us) := Paired.cons rfl r1
  have few : us.length ≤ sizeLine := by
    have l1 := Paired.length r1
    rw [sizeLine_eq]
    omega
  have lens : (Value.ref (hp.objs.size + 1) :: us ++ []).length = ps.length := by
    rw [List.append_nil, ← F1.len _ _ _ _ q2]
    exact r2.length.symm
  have bnd := hb _ (Value.ref (hp.objs.size + 1) :: us) I2.kIn lens
  rw [List.append_nil] at bnd
  have ran := F1.run _ X.stack _ _ ⟨Value.ref (hp.objs.size + 1) :: us, []⟩ (Value.ref (hp.objs.size + 1) :: us) _ _ (fun _ _ _ => False) (hr.make C us []) (I2.env0.make C us []) bnd r2 q2
  apply wpAny_call
  apply PySem.HandSPX.call_own PySem.F.excBase_ValueError (fun Y => PySem.HandSPX.refsVE_contains Y bm mC) (I1.kIn _ _ cC) (PySem.W.looks_findIn I1.kIn iC) (fun self => PySem.W.bind_fn I1.kIn self tI) few
  apply codeAny_mono ran
  intro r s2 hq
  match r, hq with
  | .error er, hq => exact hx pins σ _ _ er s2 I2 hq
  | .ok (.ret u), hq =>
    obtain ⟨v, H2, oq, bare, un, hok, rv, ev, d, fs, ea, ed, nd, q3⟩ := hq
    subst ev
    obtain ⟨h2, g2, d2, t2, os2⟩ := s2
    obtain ⟨t0, G, J, kG, ge, hoe, na⟩ := mk_end0 (d2 := d2) (t2 := t2) I1 grown kept un hok oq bare ea ed nd
    refine ⟨rv, hp.objs.size + 1, _, _, ⟨G, g2, d2, t2, os2⟩, _, .ref C, some d, rfl, J, kG, ge, hoe, ⟨rfl, rfl, ?_⟩, rfl, rfl, na, rfl, bare, raises_own T.exC T.tyC, q3⟩
    intro ws hws
    cases hws
    rfl
  | .ok .next, hq => exact hq.elim
  | .ok .brk, hq => exact hq.elim
  | .ok .cont, hq => exact hq.elim
/-- the rule for a def whose errors are of this kind -/
theorem fun_okN {x qual : Str} {st : Stmt} {f : Addr} {fd : FuncData} {N ps : List Str} {k : Nat} {sp : Sp} (F : Fun K x qual st f fd) (S : FnScope N ps (defScope st)) (len : ∀ vs H Q E, sp vs H Q E → vs.length = ps.length)
    (body : ∀ (cdv : Value) (A : Around) (outer : List Env) (s : Shared) (H : Hp) (vs : List V) (Q : VK) (E : XK), Room k (A.deeper (PyProof.Rows.envOfC qual (defScope st) s.heap.objs.size f cdv)) → sp vs H Q E →
      ∃ t, PSs (cxOf (L2N.CX P w) P w K mg base N qual (defScope st) f cdv A outer s H E) (defBody st) t ∧ t { nx := fun _ G => Q .non G, rt := Q } (L2.start N vs) H) :
    FnOk P w K mg base (L2N.CX P w) (k + 1) f fd ps sp := by
  obtain ⟨_, _, _, _, _, _, _, _, _, rfl, lk, cd⟩ := F.ex
  exact fn_of lk cd S len fun A outer s H vs Q E hr h => body _ A outer s H vs Q E hr h
theorem takesN0 {X : Cx} : L2N.Takes X (fun _ _ _ _ => False) := by
  rintro _ _ ⟨_, _, _, _, _, _, _, _, _, _, _, _, _, _, _, _, no⟩
  exact no.elim
end
end Pk

set_option Elab.async false
set_option maxRecDepth 100000
set_option maxHeartbeats 4000000
namespace Pk
open PySem L2
/-! isinstance(e, ..) of the error that a suite holds, which has its dict -/
structure ErrT (K : PySem.W.Frag) (D : Addr) : Prop where
  cl : (PySem.W.clsIn K D).isSome = true
  ga : PySem.W.findIn K (.ref D) "__getattribute__" = some (some (.builtin "BaseException.__getattribute__"))
  gg : PySem.W.findIn K (.ref D) "__getattr__" = some none
  sb : PySem.W.subIn K (.ref D) (.type "BaseException") = some true
  hd : PySem.W.hasDictIn K D = true
  ca : PySem.W.findIn K (.ref D) "__class__" = some (some (.builtin "object.__class__"))
  cg : PySem.W.specialIn K (.builtin "object.__class__") "__get__" = some (some (.builtin "getset_descriptor.__get__"))
  ct : PySem.W.takesIn K (.builtin "object.__class__") = some true
  mo : PySem.W.mroIn K D (.type "object") = some true
def HasXd (H : Hp) (d : Option Addr) : Prop := ∃ dd fs, d = some dd ∧ H dd = some (.xd fs)
def rIsD (K : PySem.W.Frag) (D a : Addr) (cls : Value) (d : Option Addr) : List V → Hp → VK → Prop := fun xs H Q => ∃ (c : V) (u : Value) (b : Bool), xs = [.ref a, c] ∧ cls = .ref D ∧ HasXd H d ∧ ClsV c u ∧ PySem.W.kitOne K (.ref D) u = some b ∧ Q (.bl b) H
def rIsDT (K : PySem.W.Frag) (D a : Addr) (cls : Value) (d : Option Addr) : List V → Hp → VK → Prop := fun xs H Q => ∃ (tp : Addr) (cs : List V) (us : List Value) (b : Bool), xs = [.ref a, .ref tp] ∧ cls = .ref D ∧ HasXd H d ∧ H tp = some (.tup cs) ∧ Paired ClsV cs us ∧ PySem.W.kitAny K (.ref D) us = some b ∧ Q (.bl b) H
theorem inst_of {X : Cx} {a D : Addr} {oe : Obj} {cls : Value} {d : Option Addr} {pn pins : List (Addr × Obj)} {σ : L2.St} {H : Hp} {s : Shared} (hz : Zc cls d oe) (hf : ∃ vs, oe.data = .fields vs) (hc : cls = .ref D) (hd : HasXd H d)
    (I : Inv (X.suite a ((a, oe) :: pn)) pins σ H s) : ∃ od, PySem.W.InstAt s.heap a oe D (some od) := by
  obtain ⟨dd, fs, ed, hdd⟩ := hd
  obtain ⟨got, _⟩ := I.pin (a, oe) (List.mem_append.mpr (.inl List.mem_cons_self))
  obtain ⟨vs, hv⟩ := hf
  have xd : ObjOk (X.suite a ((a, oe) :: pn)).prog (X.suite a ((a, oe) :: pn)).w H s.heap dd (.xd fs) := I.hok dd _ hdd
  obtain ⟨mA, hns, _⟩ := xd
  obtain ⟨od, ho, _⟩ := lookIn_ns hns
  refine ⟨od, got, hz.1.trans hc, ?_, ?_⟩
  · unfold PySem.W.notCls
    rw [hv]
  · rw [hz.2, ed]
    exact ho
theorem kit_err {K : PySem.W.Frag} {a D : Addr} {oe od : Obj} (T : ErrT K D) : PySem.W.KitX K (.ref a) (.ref D) (fun h => PySem.W.InstAt h a oe D (some od)) :=
  PySem.W.kitx_exc T.cl T.ga T.gg T.sb T.ca T.cg T.ct T.mo
theorem call_isD {X : Cx} {a D : Addr} {oe : Obj} {cls : Value} {d : Option Addr} {pn : List (Addr × Obj)} (T : ErrT X.K D) (hz : Zc cls d oe) (hf : ∃ vs, oe.data = .fields vs) : CallR (X.suite a ((a, oe) :: pn)) (.builtin "isinstance") (rIsD X.K D a cls d) := by
  rintro pins s σ H xs us Q I r ⟨c, u, b, rfl, hc, hd, k, e, q⟩
  obtain ⟨u1, u2, rfl, r1, r2⟩ := vals2 r
  cases r1
  have e2 := k.eq r2
  subst e2
  obtain ⟨od, J⟩ := inst_of hz hf hc hd I
  exact PySem.W.kia_one (kit_err T) I.kIn J e (fun z => nomatch z) fun tk => ⟨.bl b, H, I.tok tk, rfl, q⟩
theorem call_isDT {X : Cx} {a D : Addr} {oe : Obj} {cls : Value} {d : Option Addr} {pn : List (Addr × Obj)} (T : ErrT X.K D) (hz : Zc cls d oe) (hf : ∃ vs, oe.data = .fields vs) : CallR (X.suite a ((a, oe) :: pn)) (.builtin "isinstance") (rIsDT X.K D a cls d) := by
  rintro pins s σ H xs us Q I r ⟨tp, cs, ws, b, rfl, hc, hd, hT, k, e, q⟩
  obtain ⟨u1, u2, rfl, r1, r2⟩ := vals2 r
  cases r1
  cases r2
  obtain ⟨od, J⟩ := inst_of hz hf hc hd I
  have tup : ObjOk (X.suite a ((a, oe) :: pn)).prog (X.suite a ((a, oe) :: pn)).w H s.heap tp (.tup cs) := I.hok tp _ hT
  obtain ⟨_, its, rv, ⟨oc, oo, dt, sl⟩, h1, h2, n, h3⟩ := tup
  have e3 := ClsV.all k rv
  subst e3
  simp only at h2 h3
  subst h2 h3
  exact PySem.W.kia_tup (kit_err T) I.kIn J h1 e (fun z => nomatch z) fun tk => ⟨.bl b, H, I.tok tk, rfl, q⟩

theorem pass0S {X : Cx} : ∀ σ, PassesAt CX0 X σ (E0) := fun _ _ _ _ _ _ _ h => h.elim
def tRefs : List Addr → TA
  | [] => tNil
  | c :: r => tCons (tC (.ref c)) (tRefs r)
end Pk

set_option Elab.async false
set_option maxRecDepth 100000
set_option maxHeartbeats 4000000
namespace Mk
open PySem L2 Pk
def top (i : Nat) : Stmt := PySem.Challenge.pw_pilerecall_k84_tests_of_texts_whole.main.body.getD i (.Pass ⟨0, 0, 0, 0⟩)
abbrev sMirrored : Stmt := top 28
abbrev sFound : Stmt := top 29
abbrev sBordered : Stmt := top 30
abbrev sMirStart : Stmt := top 31
abbrev sBalanced : Stmt := top 32
abbrev sEven : Stmt := top 33
abbrev sCopied : Stmt := top 34
abbrev sPower : Stmt := top 36
abbrev sTwoMir : Stmt := top 37
abbrev sEvenMir : Stmt := top 38
abbrev sCheckName : Stmt := top 23
abbrev sCheckTold : Stmt := top 40
abbrev sPlainly : Stmt := top 41
abbrev sWhole : Stmt := top 43
abbrev sSame : Stmt := top 44
abbrev sCell : Stmt := top 45
abbrev sDigits : Stmt := top 46
abbrev sNames : Stmt := top 47
abbrev sBack : Stmt := top 48
abbrev sMirror : Stmt := top 49
abbrev sFold : Stmt := top 50
abbrev sBrackets : Stmt := top 51
abbrev sFitted : Stmt := top 52
abbrev sTale : Stmt := top 53
abbrev sStands : Stmt := top 54
abbrev sEvens : Stmt := top 55
abbrev sGood : Stmt := top 56
abbrev sDue : Stmt := top 57
abbrev sPlainE : Stmt := top 58
abbrev sAsked : Stmt := top 59
abbrev sRight : Stmt := top 60
abbrev sLong : Stmt := top 61
abbrev sBad : Stmt := top 62
abbrev sOdd : Stmt := top 63
abbrev sLaw : Stmt := top 64
abbrev sThirds : Stmt := top 35
/-- the built-in names -/
structure TM (mg : PySem.Str → Option Value) : Prop where
  isi : mg "isinstance" = none
  int : mg "int" = none
  bool : mg "bool" = none
  str : mg "str" = none
  tuple : mg "tuple" = none
  list : mg "list" = none
  len : mg "len" = none
  range : mg "range" = none
  all : mg "all" = none
  any : mg "any" = none
  sorted : mg "sorted" = none
  set : mg "set" = none
  abs : mg "abs" = none
/-- a list or a tuple, by a bit -/
def SqB (b : Bool) (K : PySem.W.Frag) (H : Hp) (a : Addr) (xs : List V) : Prop := match b with
  | true => SqL K H a xs
  | false => SqT K H a xs
theorem SqB.any {b : Bool} {K : PySem.W.Frag} {H : Hp} {a : Addr} {xs : List V} (h : SqB b K H a xs) : SqL K H a xs ∨ SqT K H a xs := by
  cases b
  · exact .inr h
  · exact .inl h
theorem SqB.mono {b : Bool} {K : PySem.W.Frag} {H H' : Hp} {a : Addr} {xs : List V} (e : Same H H') (h : SqB b K H a xs) : SqB b K H' a xs := by
  cases b
  · exact Same.tup e h
  · exact e.seq h
def sqTy (b : Bool) : String := if b = true then "list" else "tuple"
theorem tyx_sq {b : Bool} {K : PySem.W.Frag} {H : Hp} {a : Addr} {xs : List V} (h : SqB b K H a xs) : TyX K H (.ref a) (.type (sqTy b)) := by
  cases b with
  | false =>
    rcases (show SqT K H a xs from h) with (h | ⟨o, h⟩) | ⟨o, its, n, h, hc, _⟩
    · exact .base (.tup h)
    · exact .fTuple h
    · exact .kTuple h hc
  | true =>
    rcases (show SqL K H a xs from h) with (h | ⟨o, h⟩) | ⟨o, its, n, h, hc, _⟩
    · exact .base (.lst h)
    · exact .base (.frz h)
    · exact .kList h hc
section
variable {P : Program} {w : World} {K : PySem.W.Frag} {mg : PySem.Str → Option Value} {base : Heap}
/-- the def x stands, is reached by its name, and keeps sp -/
def Got (P : Program) (w : World) (K : PySem.W.Frag) (mg : PySem.Str → Option Value) (base : Heap) (x : PySem.Str) (k : Nat) (ps : List PySem.Str) (sp : Sp) : Prop :=
  ∃ f fd, FnOk P w K mg base CX0 k f fd ps sp ∧ PySem.W.keepIn K (.ref f) = true ∧ Binds K fd ps [] ∧ mg x = some (.ref f)
theorem pe_got {X : Cx} {x : PySem.Str} {k : Nat} {ps : List PySem.Str} {sp : Sp} {p pos : Pos} {e : Expr} {es : List Expr} {t : TA} (h : Got X.prog X.w X.K X.mg X.base x k ps sp) (hr : Room k X.A) (hg : Gl X x) (ha : PA X (e :: es) t)
    (hdb : (x == ("__debug__" : PySem.Str)) = false := by decide) (he : starEach (e :: es) X.env = (false, eval e X.env) :: starEach es X.env := by rfl) (hpl : (backTo pos (starEach es X.env)).any (·.1) = false := by rfl) :
    PE X (.Call (.Name x p) (e :: es) [] pos) (tCall sp [] E0 t) := by
  obtain ⟨f, fd, G, kp, b, g⟩ := h
  exact pe_call G hr hg g kp b .nil pass0 ha hdb he hpl
end
end Mk

set_option Elab.async false
set_option maxRecDepth 100000
set_option maxHeartbeats 4000000
namespace Mk
open PySem L2 Pk
section
variable {P : Program} {w : World} {K : PySem.W.Frag} {mg : PySem.Str → Option Value} {base : Heap}
/-! _law_cell: some int -/
theorem small100k {n : Nat} (h : n ≤ 100000) : n < sizeLine := Nat.lt_of_le_of_lt h (by decide)
def spCellA (K : PySem.W.Frag) : Sp := fun vs H Q _ => ∃ (l : Addr) (ns : List Int) (j : Nat), vs = [.ref l, .int (j : Int)] ∧ SqL K H l (ns.map V.int) ∧ ∀ z, Q (.int z) H
theorem scCell : FnScope ["script", "k", "seed", "cell"] ["script", "k"] (defScope sCell) := ⟨rfl, rfl, rfl, by decide +kernel, rfl, by decide +kernel, by decide +kernel⟩
theorem ok_cell {f : Addr} {fd : FuncData} (F : Fun K "_law_cell" "_law_cell" sCell f fd) (T : TM mg) : FnOk P w K mg base CX0 1 f fd ["script", "k"] (spCellA K) := by
  refine F.ok scCell (fun vs H Q E h => ?_) (fun cdv A outer s H vs Q E hr h => ?_)
  · obtain ⟨l, ns, j, rfl, _⟩ := h
    rfl
  · obtain ⟨l, ns, j, rfl, hS, k⟩ := h
    refine ⟨_, pss_cons (ps_if (pt_cmp (pc_lt (pv 1) (pe_callB call_len_seq (by rfl) T.len PySem.boot_len (pa_cons (pv 0) pa_nil)))) (pss_one (ps_ret (pe_ix ix_list (pv 0) (pv 1) fun _ _ => rfl))) pss_nil)
      (pss_cons (ps_set (i := 2) scCell.nd rfl (Or.inl rfl) pe_int)
      (pss_cons (ps_for PassesOwn.never rfl (pi_list (pv 0)) (pg_name (i := 3) scCell.nd rfl (Or.inl rfl))
        (pss_one (ps_set (i := 2) scCell.nd rfl (Or.inl rfl) (pe_op op_mod (pe_callTy call_int1 (by rfl) T.int PyProof.Rows.Boot.int (pa_cons (pe_op op_add (pe_op op_mul (pv 2) pe_int)
          (pe_op op_mod (pe_callTy call_int1 (by rfl) T.int PyProof.Rows.Boot.int (pa_cons (pv 3) pa_nil)) pe_int)) pa_nil)) pe_int))))
      (pss_one (ps_ret (pe_op op_mod (pe_callTy call_int1 (by rfl) T.int PyProof.Rows.Boot.int (pa_cons (pe_op op_mul (pe_op op_mul (pe_op op_add (pv 2) pe_int) (pe_op op_add (pv 1) pe_int)) pe_int) pa_nil)) pe_int))))), ?_⟩
    refine ⟨_, rfl, _, rfl, l, _, rfl, .inl hS, _, _, rfl, rfl, _, rfl, ?_⟩
    refine ite2 (fun c => ?_) (fun c => ?_)
    · have c' := of_decide_eq_true c
      rw [List.length_map] at c'
      have ej : (ns.map V.int)[j]? = some (V.int ns[j]) := by rw [List.getElem?_map, List.getElem?_eq_getElem (by omega)]; rfl
      exact ⟨_, rfl, _, rfl, l, _, _, _, rfl, rfl, hS, atI_nat ej, k _⟩
    · refine ⟨_, rfl, l, rfl, ⟨_, hS⟩, for_list (K := K) (a := l) (xs := ns.map V.int) (fun i σ H' => H' = H ∧ ∃ (z : Int) (v : Option V), σ = [some (.ref l), some (.int j), some (.int z), v] ∧ 0 ≤ z ∧ z < 1000003)
        ⟨rfl, 17, none, rfl, by decide, by decide⟩ (fun i σ H' _ h => by rw [h.1]; exact hS) ?_ ?_⟩
      · rintro i y σ H' hi ⟨rfl, z, v, rfl, hz0, hz1⟩
        obtain ⟨u, _, rfl⟩ := mapInt hi
        refine ⟨_, rfl, _, _, rfl, rfl, .inl (by omega), _, rfl, .inl ⟨_, rfl, _, _, rfl, rfl, (by show (0 : Int) < 1000003; decide), _, _, rfl, rfl, .inl ⟨_, rfl, _, _, rfl, rfl, (by show (0 : Int) < 1000003; decide), ?_⟩⟩⟩
        exact ⟨rfl, _, _, rfl, Int.emod_nonneg _ (by decide), Int.emod_lt_of_pos _ (by decide)⟩
      · rintro σ H' ⟨rfl, z, v, rfl, hz0, hz1⟩
        refine ⟨_, rfl, _, _, rfl, rfl, _, rfl, _, _, rfl, rfl, _, _, rfl, rfl, .inl (by omega), _, _, rfl, rfl, .inr (by decide), .inl ⟨_, rfl, _, _, rfl, rfl, (by show (0 : Int) < 2147483647; decide), ?_⟩⟩
        exact k _
end
end Mk

set_option Elab.async false
set_option linter.unusedVariables false
set_option maxRecDepth 100000
set_option maxHeartbeats 8000000
namespace Mk
open PySem L2 Pk PySem.Spec PyProof.Rows
/-! a def that is called with the very error that the suite handles -/
structure FnHp (P : Program) (w : World) (K : PySem.W.Frag) (mg : PySem.Str → Option Value) (base : Heap) (k : Nat) (f : Addr) (fd : FuncData) (ps : List PySem.Str) (sp : Addr × Obj → Sp) : Prop where
  len : ∀ p vs H Q E, sp p vs H Q E → vs.length = ps.length
  run : ∀ (A : Around) (outer : List Env) (s : Shared) (H : Hp) (args : Args) (us : List Value) (vs : List V) (Q : VK) (E : XK) (p : Addr × Obj), L2H.RoomH k A → L2H.Hot1 A p → L2H.PinOk outer H s p → Env0 P w K mg base A outer s H →
    BindsTo s fd args (ps.zip us) → Vals vs us → sp p vs H Q E → codeAny (model P w) A (.call (.ref f) args) (CR CX0 outer P w H s Q E) s
theorem fn_hp {P : Program} {w : World} {K : PySem.W.Frag} {mg : PySem.Str → Option Value} {base : Heap} {k : Nat} {f : Addr} {name qual : PySem.Str} {params : Arguments} {body : List Stmt} {scope : Scope} {dV kV doc pm cdv ct oc : Value} {an od : Option Addr}
    {osl : Array (Option Value)} {N ps : List PySem.Str} {sp : Addr × Obj → Sp} (at_ : K.lookup f = some ⟨oc, od, .func (PySem.W.fnOf name qual params body scope dV kV doc pm an cdv ct), osl⟩) (code : PySem.W.codeIn K cdv qual = true) (S : FnScope N ps scope)
    (len : ∀ p vs H Q E, sp p vs H Q E → vs.length = ps.length)
    (bd : ∀ (A : Around) (outer : List Env) (s : Shared) (H : Hp) (vs : List V) (Q : VK) (E : XK) (p : Addr × Obj), L2H.Hot1 A p → L2H.RoomH k (A.deeper (envOfC qual scope s.heap.objs.size f cdv)) → sp p vs H Q E →
      ∃ t, PSs (L2H.cxH CX0 P w K mg base N qual scope f cdv A outer s H E p) body t ∧ t { nx := fun _ G => Q .non G, rt := Q } (L2.start N vs) H) :
    FnHp P w K mg base (k + 1) f (PySem.W.fnOf name qual params body scope dV kV doc pm an cdv ct) ps sp := by
  refine ⟨len, fun A outer s H args us vs Q E p hr hot pin e0 hb r q => ?_⟩
  have lv := len _ _ _ _ _ q
  have kin : K.In s.heap := e0.mod.kin.keeps fun b o e => (e0.bs b o e).1
  have lim : s.heap.NoLimit := e0.mod.nolimit.keeps fun b o e => (e0.bs b o e).1
  have kinds : ∀ y ∈ ps.zip us, scope.names.lookup y.1 = some .local ∨ (scope.names.lookup y.1 = some .cell ∧ ((cellsFrom (s.heap.objs.size + 1) scope.names []).lookup y.1).isSome = true) := fun ⟨n, v⟩ hy =>
    (S.par n (List.of_mem_zip hy).1).elim .inl fun z => .inr ⟨z, PySem.W.cellsFrom_some _ _ _ (.inl z)⟩
  refine codeAny_call_function hr.depth (kin _ _ at_) rfl S.co S.gen rfl (PySem.W.codeRec_of kin code) (hb _ _ _ _ ?_)
  refine wpAny_newFunctionEnv_cells S.kind kinds fun env he s1 made => ?_
  subst he
  refine ⟨lim.keeps made.toInCall.keep, codeAny_func ?_⟩
  obtain ⟨t, ht, tq⟩ := bd A outer s H vs Q E p hot (hr.deeper _) q
  have I : Inv (L2H.cxH CX0 P w K mg base N qual scope f cdv A outer s H E p) [] (L2.start N vs) H s1 := L2H.inv_startH S pin e0 lv r made
  refine wpAny_mono (ht.run [] s1 (L2.start N vs) H _ I tq) (fun fl s2 ended => ?_) fun _ _ z => z
  have fin : ∀ {σ2 : L2.St} {H2 : Hp} {v : V} {u : Value}, Inv (L2H.cxH CX0 P w K mg base N qual scope f cdv A outer s H E p) [] σ2 H2 s2 → RelV v u → Q v H2 → CE outer P w H s Q u s2 :=
    fun {σ2 H2 v u} J rv z => ⟨v, H2, J.os, J.bare, J.base, J.hok, rv, z⟩
  match fl, ended with
  | .ret u, ⟨v, _, _, J, rv, z⟩ => exact fin J rv z
  | .next, ⟨_, _, J, z⟩ => exact fin (v := V.non) (u := Value.none) J rfl z
  | .brk, ⟨_, _, _, z⟩ => exact z.elim
  | .cont, ⟨_, _, _, z⟩ => exact z.elim
theorem pe_hot {X : Cx} {x : PySem.Str} {p pos : Pos} {k : Nat} {f a : Addr} {fd : FuncData} {ps : List PySem.Str} {sp : Addr × Obj → Sp} {e : Expr} {ta : TA} {oe : Obj} {cls : Value} {d : Option Addr} {pn : List (Addr × Obj)}
    (F : FnHp X.prog X.w X.K X.mg X.base k f fd ps sp) (hr : Room k X.A) (hz : L2N.Zn cls d oe) (hf : ∃ vs, oe.data = .fields vs) (hg : Gl (X.suite a ((a, oe) :: pn)) x) (hm : X.mg x = some (.ref f)) (hk : PySem.W.keepIn X.K (.ref f) = true) (hb : Binds X.K fd ps [])
    (ha : PA (X.suite a ((a, oe) :: pn)) [e] ta) (hdb : (x == ("__debug__" : PySem.Str)) = false := by decide) (he : starEach [e] X.env = (false, eval e X.env) :: starEach [] X.env := by rfl) (hpl : (backTo pos (starEach [] X.env)).any (·.1) = false := by rfl) :
    PE (X.suite a ((a, oe) :: pn)) (.Call (.Name x p) [e] [] pos) (fun σ H Q => ta σ H fun vs H1 => sp (a, oe) vs H1 Q E0) := by
  refine ⟨fun pins s σ H Q I start => ?_⟩
  refine wpAny_Call_Name_kw (ld_glob I hg hm ?_ hdb)
  refine PySem.W.callWith_K (h₀ := X.base) I.ok.mod.kin hk (thn (ha.run pos pins s σ H _ I start) fun us s1 ⟨vs, H1, I1, r, q⟩ => ⟨I1.kIn, ?_⟩) he hpl
  obtain ⟨fs, hfs⟩ := hf
  have hot : L2H.Hot1 (X.suite a ((a, oe) :: pn)).A (a, oe) := ⟨rfl, fs, hfs, hz.2.2 fs hfs⟩
  have lv : us.length = ps.length := by rw [← r.length]; exact F.len _ _ _ _ _ q
  have b := hb s1 us I1.kIn (by rw [List.append_nil]; exact lv)
  rw [List.append_nil] at b
  obtain ⟨p1, p2, p3, p4, p5⟩ := I1.pin (a, oe) (List.mem_append_left _ List.mem_cons_self)
  have pin : L2H.PinOk X.stack H1 s1 (a, oe) := ⟨p1, p2, fun hm => (List.mem_cons.mp (I1.stkSub a hm)).elim p3 p4, p5⟩
  refine wpAny_call (codeAny_mono (F.run _ X.stack s1 H1 ⟨us, []⟩ us vs Q E0 (a, oe) ⟨hr.dp, hr.un⟩ hot pin I1.env0 b r q) fun rr s2 ended => ?_)
  match rr, ended with
  | .error _, ended => exact absurd ended id
  | .ok (.ret u), ended => exact I1.after ended
  | .ok .next, ended => exact ended.elim
  | .ok .brk, ended => exact ended.elim
  | .ok .cont, ended => exact ended.elim
theorem instP {X : Cx} {a D : Addr} {oe : Obj} {d : Option Addr} {pins : List (Addr × Obj)} {σ : L2.St} {H : Hp} {s : Shared} (m : (a, oe) ∈ X.pn) (hc : oe.cls = .ref D) (ed : oe.dict = d) (hf : ∃ vs, oe.data = .fields vs) (xd : HasXd H d) (I : Inv X pins σ H s) :
    ∃ od, PySem.W.InstAt s.heap a oe D (some od) := by
  obtain ⟨vs, hv⟩ := hf
  obtain ⟨dd, fs, e, hdd⟩ := xd
  have got := (I.pin (a, oe) (List.mem_append_left _ m)).1
  have x : ObjOk X.prog X.w H s.heap dd (.xd fs) := I.hok dd _ hdd
  obtain ⟨mA, hns, _⟩ := x
  obtain ⟨od, ho, _⟩ := lookIn_ns hns
  refine ⟨od, got, hc, ?_, ?_⟩
  · unfold PySem.W.notCls
    rw [hv]
  · rw [ed, e]
    exact ho
def rIsE (K : PySem.W.Frag) (D a : Addr) (d : Option Addr) : List V → Hp → VK → Prop := fun xs H Q => ∃ (c : V) (u : Value) (b : Bool), xs = [.ref a, c] ∧ HasXd H d ∧ ClsV c u ∧ PySem.W.kitOne K (.ref D) u = some b ∧ Q (.bl b) H
def rIsET (K : PySem.W.Frag) (D a : Addr) (d : Option Addr) : List V → Hp → VK → Prop := fun xs H Q => ∃ (tp : Addr) (cs : List V) (us : List Value) (b : Bool), xs = [.ref a, .ref tp] ∧ HasXd H d ∧ H tp = some (.tup cs) ∧ Paired ClsV cs us ∧ PySem.W.kitAny K (.ref D) us = some b ∧ Q (.bl b) H
section
variable {X : Cx} {a D : Addr} {oe : Obj} {d : Option Addr}
theorem call_isE (T : ErrT X.K D) (m : (a, oe) ∈ X.pn) (hc : oe.cls = .ref D) (ed : oe.dict = d) (hf : ∃ vs, oe.data = .fields vs) : CallR X (.builtin "isinstance") (rIsE X.K D a d) := by
  rintro pins s σ H xs us Q I r ⟨c, u, b, rfl, xd, k, e, q⟩
  obtain ⟨v1, v2, rfl, r1, r2⟩ := vals2 r
  cases r1
  have e2 := k.eq r2
  subst e2
  obtain ⟨od, J⟩ := instP m hc ed hf xd I
  exact PySem.W.kia_one (kit_err T) I.kIn J e (fun z => nomatch z) fun tk => ⟨.bl b, H, I.tok tk, rfl, q⟩
theorem call_isET (T : ErrT X.K D) (m : (a, oe) ∈ X.pn) (hc : oe.cls = .ref D) (ed : oe.dict = d) (hf : ∃ vs, oe.data = .fields vs) : CallR X (.builtin "isinstance") (rIsET X.K D a d) := by
  rintro pins s σ H xs us Q I r ⟨tp, cs, ws, b, rfl, xd, hT, k, e, q⟩
  obtain ⟨v1, v2, rfl, r1, r2⟩ := vals2 r
  cases r1
  cases r2
  obtain ⟨od, J⟩ := instP m hc ed hf xd I
  have tup : ObjOk X.prog X.w H s.heap tp (.tup cs) := I.hok tp _ hT
  obtain ⟨_, its, rv, ⟨oc, oo, dt, sl⟩, h1, h2, n, h3⟩ := tup
  have e3 := ClsV.all k rv
  subst e3
  simp only at h2 h3
  subst h2 h3
  exact PySem.W.kia_tup (kit_err T) I.kIn J h1 e (fun z => nomatch z) fun tk => ⟨.bl b, H, I.tok tk, rfl, q⟩
end
end Mk

set_option Elab.async false
set_option linter.unusedVariables false
set_option maxRecDepth 100000
set_option maxHeartbeats 8000000
namespace Mk
open PySem L2 Pk PySem.Spec PyProof.Rows
/-! a try whose except clauses each bind the error to a name; the error's address is none of the ground's -/
def endsAs (D : Ends) (i : Nat) : Ends := { nx := fun r G => D.nx (r.set i none) G, rt := D.rt, bk := fun r G => D.bk (r.set i none) G, ct := fun r G => D.ct (r.set i none) G }
def wishAs (K : PySem.W.Frag) (out : WX) (D : Ends) : List (Value × Nat × (Addr → Value → Option Addr → TS)) → WX
  | [] => out
  | (c, i, ts) :: r => fun cls d σ H => ∃ b, PySem.W.exmOne K cls c = some b ∧ (b = true → ∀ a, H a = none → ts a cls d (endsAs D i) (σ.set i (some (.ref a))) H) ∧ (b = false → wishAs K out D r cls d σ H)
inductive HdsAs (X : Cx) : List ExceptHandler → List (Value × Nat × (Addr → Value → Option Addr → TS)) → Prop
  | nil : HdsAs X [] []
  | cons {x n : PySem.Str} {c : Value} {i : Nat} {ts : Addr → Value → Option Addr → TS} {st : Stmt} {sts : List Stmt} {p1 p2 : Pos} {hs : List ExceptHandler} {l : List (Value × Nat × (Addr → Value → Option Addr → TS))}
      (nc : Names X x c) (ni : X.N[i]? = some n) (nl : X.env.kindOf n = some .local)
      (su : ∀ (a : Addr) (oe : Obj) (cls : Value) (d : Option Addr) (pn : List (Addr × Obj)), L2N.Zn cls d oe → (∃ vs, oe.data = .fields vs) → X.base.get? a = none → PSs (X.suite a ((a, oe) :: pn)) (st :: sts) (ts a cls d)) (r : HdsAs X hs l) :
      HdsAs X (.ExceptHandler (some (.Name x p1)) (some n) (st :: sts) p2 :: hs) ((c, i, ts) :: l)
section
variable {X : Cx} {body : List Stmt} {e0 : ExceptHandler} {es : List ExceptHandler} {cl : List (Value × Nat × (Addr → Value → Option Addr → TS))} {pos : Pos} {tb : WX → TS} {out : WX}
theorem ps_tryAs (sk : X.stack = X.env :: X.outer) (fr : X.env.frame = some X.env.locals) (nd : X.N.Nodup) (tk : L2N.Takes X out)
    (bd : ∀ (W : WX) (pn : List (Addr × Obj)) (xe : Value → Shared → Prop), L2N.Takes (X.tr pn xe) W → PassesOwn (model X.prog X.w) X.A X.env xe → PSs (X.tr pn xe) body (tb W))
    (hds : HdsAs X (e0 :: es) cl) : PS X (.Try body (e0 :: es) [] [] pos) (fun D σ H => tb (wishAs X.K out D cl) D σ H) := by
  refine ⟨fun pins s σ H D I0 start => ?_⟩
  have okX := I0.ok
  have frA : X.A.frames = some (X.env :: X.outer) := by rw [okX.frames, sk]
  refine wpAny_Try_except ?_
  refine wpAny_mono ((bd (wishAs X.K out D cl) (X.pn ++ pins) (fun e s₁ => wpAny (model X.prog X.w) X.A (noteFrame e X.env) (fun _ s₂ => wpAny (model X.prog X.w) X.A (setFlight e none) (fun _ s₃ =>
    wpAny (model X.prog X.w) X.A (handleBy e X.env (e0 :: es)) (SP X pins D) X.xe s₃) X.xe s₂) X.xe s₁) (fun u sE air => ?_) PassesOwn.looking).run [] s σ H D (I0.toTry _) start) (fun fl s1 ended => ?_) (fun _ _ q => q)
  · obtain ⟨a, G, sG, pinsT, σE, HE, cls, d, rfl, JT, nb, up, sky, na, os, ag, wish⟩ := air
    have J : Inv X pins σE HE sG := JT.ofTry okX
    have skyX : Sky G (X.env :: X.outer) a (L2N.Zn cls d) X.env.locals sE.heap := by rw [← sk]; exact sky
    show wpAny (model X.prog X.w) X.A (noteFrame (.ref a) X.env) _ _ _
    refine L2N.Sky.land L2N.Zn.steady frA fr skyX fun hA flA upA => ?_
    have JA : Inv X pins σE HE { sE with heap := hA } := J.landed nb flA.1 (up.trans upA) os ag
    obtain ⟨oA, vA, gA, zA, dA⟩ := flA.there
    have off : a ∉ frs (X.env :: X.outer) := fun hm => by
      obtain ⟨_, oz, ez, nf⟩ := flA.2.2.1.mem hm
      rw [gA] at ez; cases ez
      exact nf _ dA
    have offL : a ≠ X.env.locals := fun z => off (List.mem_filterMap.mpr ⟨X.env, List.mem_cons_self, by rw [fr, z]⟩)
    have offF : a ∉ X.fs := fun hm => by
      obtain ⟨ev, he, q⟩ := List.mem_filterMap.mp hm
      exact off (List.mem_filterMap.mpr ⟨ev, List.mem_cons_of_mem _ he, q⟩)
    have noBase : X.base.get? a = none := by
      cases q : X.base.get? a with
      | none => rfl
      | some o =>
        have z := nb a o (J.bk a o q) (by rw [sk]; exact off)
        rw [flA.2.1] at z
        cases z
    have SA := JA.suite gA dA na offL offF
    have go : ∀ {hs : List ExceptHandler} {l : List (Value × Nat × (Addr → Value → Option Addr → TS))}, HdsAs X hs l → wishAs X.K out D l cls d σE HE →
        wpAny (model X.prog X.w) X.A (handleBy (.ref a) X.env hs) (SP X pins D) X.xe { sE with heap := hA } := by
      intro hs l hk
      induction hk with
      | nil =>
        intro w
        refine wpAny_handleBy_nil ?_
        obtain ⟨k1, k2, k3, oz, vz, T, oT, tz, gz, _, dz, f1, _⟩ := id flA
        unfold PySem.passOn
        refine wpAny_bind (wpAny_field gz dz f1 ?_)
        rw [if_neg (show ¬ ((Value.ref T == Value.none) = true) from by simp)]
        have on : wpAny (model X.prog X.w) X.A (setFlight (.ref a) X.env.frame) (fun _ s4 => wpAny (model X.prog X.w) X.A (throw (.ref a) : Sem Flow) (SP X pins D) X.xe s4) X.xe { sE with heap := hA } := by
          rw [fr]
          refine HandSPX.setFlight_upZ flA fun hB hhB upB => wpAny_throw (tk _ _ ?_)
          exact ⟨a, G, sG, pins, σE, HE, cls, d, rfl, J, nb, (up.trans upA).trans upB, .inr (.inr (by rw [sk]; exact hhB)), na, os, ag, w⟩
        first
          | exact wpAny_bind (wpAny_pure (wpAny_bind on))
          | exact wpAny_bind on
      | @cons x n c i ts st sts p1 p2 hs2 l2 nc ni nl su r ih =>
        intro w
        obtain ⟨b, eb, yes, no⟩ := w
        refine wpAny_handleBy_cons (codeAny_handlers_test ?_) (by intro q; cases q)
        have looks : PySem.W.Looks (model X.prog X.w) hA (typeOf (.ref a)) cls := fun A Q E s k q => wpAny_typeOf_ref (k _ _ gA) (by rw [zA.1]; exact q)
        have match_ := PySem.W.exm_one (M := model X.prog X.w) (JA.kIn) looks eb
        have test : ∀ {Q : Value → Shared → Prop} {E : Value → Shared → Prop}, Q c { sE with heap := hA } → wpAny (model X.prog X.w) (X.A.mark (some (.ref a))) (eval (.Name x p1) X.env) Q E { sE with heap := hA } := fun {Q E} q => by
          obtain ⟨hg, hdbg, hm | ⟨hm, hv, hnn⟩⟩ := nc
          · exact ld_glob (X := X.suite a ((a, oA) :: (X.pn ++ pins))) SA hg hm q hdbg
          · exact ld_blt (X := X.suite a ((a, oA) :: (X.pn ++ pins))) SA hg hm hv q hnn hdbg
        refine test (match_.here ?_)
        cases b with
        | true =>
          refine codeAny_handlers_suite_as ?_
          refine HandSPX.lands_againZ flA fun hB flB upB => ?_
          have JB : Inv X pins σE HE { sE with heap := hB } := J.landed nb flB.1 ((up.trans upA).trans upB) os ag
          obtain ⟨oB, vB, gB, zB, dB⟩ := flB.there
          have SB := JB.suite gB dB na offL offF
          refine store_ok (X := X.suite a ((a, oB) :: (X.pn ++ pins))) (v := .ref a) SB nd ni (.inl nl) rfl (fun sC SC => ?_) (.inr nl)
          refine wpAny_mono ((su a oB cls d (X.pn ++ pins) zB ⟨_, dB⟩ noBase).run [] sC _ HE _ SC (yes rfl a na)) (fun fl sD ended => ?_) (fun _ _ z => False.elim z)
          have gone : ∀ {σD : L2.St} {HD : Hp} {Q : Shared → Prop}, Inv (X.suite a ((a, oB) :: (X.pn ++ pins))) [] σD HD sD → (∀ sF, Inv X pins (σD.set i none) HD sF → Q sF) →
              wpAny (model X.prog X.w) X.A (do bindName X.env n .none; unbindBehindTheSuite X.env n p2) (fun _ sF => Q sF) X.xe sD := fun {σD HD Q} S q => gone_ok (S.unsuite okX) nd ni nl q
          match fl, ended with
          | .next, ended =>
            obtain ⟨_, _, S, q⟩ := ended
            exact gone S fun _ JF => ⟨_, _, JF, q⟩
          | .brk, ended =>
            obtain ⟨_, _, S, q⟩ := ended
            exact gone S fun _ JF => ⟨_, _, JF, q⟩
          | .cont, ended =>
            obtain ⟨_, _, S, q⟩ := ended
            exact gone S fun _ JF => ⟨_, _, JF, q⟩
          | .ret u, ended =>
            obtain ⟨_, _, _, S, rv, q⟩ := ended
            exact gone S fun _ JF => ⟨_, _, _, JF, rv, q⟩
        | false =>
          show wpAny _ X.A (handleBy (.ref a) X.env hs2) _ _ _
          exact ih (no rfl)
    exact go hds wish
  · match fl, ended with
    | .next, ended =>
      obtain ⟨_, _, JF, q⟩ := ended
      exact wpAny_execs_nil ⟨_, _, JF.ofTry okX, q⟩
    | .brk, ended =>
      obtain ⟨_, _, JF, q⟩ := ended
      exact ⟨_, _, JF.ofTry okX, q⟩
    | .cont, ended =>
      obtain ⟨_, _, JF, q⟩ := ended
      exact ⟨_, _, JF.ofTry okX, q⟩
    | .ret u, ended =>
      obtain ⟨_, _, _, JF, rv, q⟩ := ended
      exact ⟨_, _, _, JF.ofTry okX, rv, q⟩
end
end Mk

set_option Elab.async false
set_option linter.unusedVariables false
set_option maxRecDepth 100000
set_option maxHeartbeats 8000000
namespace Mk
open PySem L2 Pk PySem.Spec PyProof.Rows
/-! _law_plain -/
/-- the classes that the law names: twenty-one addresses but NoSuchProgram and BadText -/
structure ErrsN (mg : PySem.Str → Option Value) (R a1 a2 a3 a4 a5 a6 a7 a8 a9 b1 b2 b3 b4 b5 b6 b7 b8 : Addr) : Prop where
  gR : mg "RecallError" = some (.ref R)
  m1 : mg "BadCode" = some (.ref a1)
  m2 : mg "BadDeed" = some (.ref a2)
  m3 : mg "BadLine" = some (.ref a3)
  m4 : mg "BadPaper" = some (.ref a4)
  m5 : mg "BadSplice" = some (.ref a5)
  m6 : mg "BadStanding" = some (.ref a6)
  m7 : mg "BadSurface" = some (.ref a7)
  m8 : mg "BadToken" = some (.ref a8)
  m9 : mg "BadTree" = some (.ref a9)
  n1 : mg "BadGrammar" = some (.ref b1)
  n2 : mg "BadMachine" = some (.ref b2)
  n3 : mg "DoubleName" = some (.ref b3)
  n4 : mg "Guesses" = some (.ref b4)
  n5 : mg "NoSuchProcedure" = some (.ref b5)
  n6 : mg "NothingToUndo" = some (.ref b6)
  n7 : mg "TooLong" = some (.ref b7)
  n8 : mg "UnlikeLetters" = some (.ref b8)
  vE : mg "ValueError" = none
/-- an error's class D beside them -/
structure ErrsK (K : PySem.W.Frag) (D R a1 a2 a3 a4 a5 a6 a7 a8 a9 b1 b2 b3 b4 b5 b6 b7 b8 : Addr) : Prop where
  T : ErrT K D
  kA : PySem.W.kitAny K (.ref D) [.ref a1, .ref a2, .ref a3, .ref a4, .ref a5, .ref a6, .ref a7, .ref a8, .ref a9] = some false
  kB : PySem.W.kitAny K (.ref D) [.ref b1, .ref b2, .ref b3, .ref b4, .ref b5, .ref b6, .ref b7, .ref b8] = some false
  kR : PySem.W.kitOne K (.ref D) (.ref R) = some true
  kV : PySem.W.kitOne K (.ref D) (.type "ValueError") = some true
abbrev nPlainE : List PySem.Str := ["e"]
theorem scPlainE : FnScope nPlainE ["e"] (defScope sPlainE) := ⟨rfl, rfl, rfl, by decide +kernel, rfl, by decide +kernel, by decide +kernel⟩
theorem pairs_ref : ∀ l : List Addr, Paired ClsV (l.map V.ref) (l.map Value.ref)
  | [] => .nil
  | a :: l => .cons (.own a) (pairs_ref l)
section
variable {P : Program} {w : World} {K : PySem.W.Frag} {mg : PySem.Str → Option Value} {base : Heap}
def spPlainE (C CT : Addr) : Addr × Obj → Sp := fun p vs H Q _ => ∃ (D : Addr) (d : Option Addr), (D = C ∨ D = CT) ∧ vs = [.ref p.1] ∧ p.2.cls = .ref D ∧ p.2.dict = d ∧ (∃ fs, p.2.data = .fields fs) ∧ HasXd H d ∧ ∀ H', Same H H' → Q (.bl true) H'
theorem xd_mono {H H' : Hp} {d : Option Addr} (h : HasXd H d) (s : Same H H') : HasXd H' d := by
  obtain ⟨dd, fs, e, h⟩ := h
  exact ⟨dd, fs, e, s _ _ h⟩
theorem ok_plainE {f C CT R a1 a2 a3 a4 a5 a6 a7 a8 a9 b1 b2 b3 b4 b5 b6 b7 b8 : Addr} {fd : FuncData} (F : Fun K "_law_plain" "_law_plain" sPlainE f fd) (T : TM mg) (N : ErrsN mg R a1 a2 a3 a4 a5 a6 a7 a8 a9 b1 b2 b3 b4 b5 b6 b7 b8) (E1 : ErrsK K C R a1 a2 a3 a4 a5 a6 a7 a8 a9 b1 b2 b3 b4 b5 b6 b7 b8) (E2 : ErrsK K CT R a1 a2 a3 a4 a5 a6 a7 a8 a9 b1 b2 b3 b4 b5 b6 b7 b8) :
    FnHp P w K mg base 1 f fd ["e"] (spPlainE C CT) := by
  obtain ⟨_, _, _, _, _, _, _, _, _, rfl, lk, cd⟩ := F.ex
  refine fn_hp lk cd scPlainE (fun p vs H Q E h => ?_) (fun A outer s H vs Q E p hot hr h => ?_)
  · obtain ⟨_, _, _, rfl, _⟩ := h
    rfl
  · obtain ⟨D, d, eD, rfl, hc, hd, hf, hx, k⟩ := h
    have ED : ErrsK K D R a1 a2 a3 a4 a5 a6 a7 a8 a9 b1 b2 b3 b4 b5 b6 b7 b8 := by rcases eD with rfl | rfl <;> assumption
    obtain ⟨a, oe⟩ := p
    have mem : (a, oe) ∈ [(a, oe)] := List.mem_cons_self
    refine ⟨_, pss_cons (ps_if (pt_val (pe_callB (r := rIsET K D a d) (call_isET ED.T mem hc hd hf) (by rfl) T.isi (by decide +kernel) (pa_cons (pv 0) (pa_cons (pe_tup (pa_cons (pe_glob (v := .ref a1) (by rfl) N.m1 rfl) (pa_cons (pe_glob (v := .ref a2) (by rfl) N.m2 rfl) (pa_cons (pe_glob (v := .ref a3) (by rfl) N.m3 rfl) (pa_cons (pe_glob (v := .ref a4) (by rfl) N.m4 rfl) (pa_cons (pe_glob (v := .ref a5) (by rfl) N.m5 rfl) (pa_cons (pe_glob (v := .ref a6) (by rfl) N.m6 rfl) (pa_cons (pe_glob (v := .ref a7) (by rfl) N.m7 rfl) (pa_cons (pe_glob (v := .ref a8) (by rfl) N.m8 rfl) (pa_cons (pe_glob (v := .ref a9) (by rfl) N.m9 rfl) pa_nil)))))))))) pa_nil)))) (pss_one (ps_ret pe_bl)) pss_nil)
      (pss_cons (ps_if (pt_val (pe_callB (r := rIsET K D a d) (call_isET ED.T mem hc hd hf) (by rfl) T.isi (by decide +kernel) (pa_cons (pv 0) (pa_cons (pe_tup (pa_cons (pe_glob (v := .ref b1) (by rfl) N.n1 rfl) (pa_cons (pe_glob (v := .ref b2) (by rfl) N.n2 rfl) (pa_cons (pe_glob (v := .ref b3) (by rfl) N.n3 rfl) (pa_cons (pe_glob (v := .ref b4) (by rfl) N.n4 rfl) (pa_cons (pe_glob (v := .ref b5) (by rfl) N.n5 rfl) (pa_cons (pe_glob (v := .ref b6) (by rfl) N.n6 rfl) (pa_cons (pe_glob (v := .ref b7) (by rfl) N.n7 rfl) (pa_cons (pe_glob (v := .ref b8) (by rfl) N.n8 rfl) pa_nil))))))))) pa_nil)))) (pss_one (ps_ret pe_bl)) pss_nil)
      (pss_one (ps_ret (pe_and (pe_callB (r := rIsE K D a d) (call_isE ED.T mem hc hd hf) (by rfl) T.isi (by decide +kernel) (pa_cons (pv 0) (pa_cons (pe_glob (v := .ref R) (by rfl) N.gR rfl) pa_nil))) (pe_one (pe_callB (r := rIsE K D a d) (call_isE ED.T mem hc hd hf) (by rfl) T.isi (by decide +kernel) (pa_cons (pv 0) (pa_cons (pe_bltn (v := .ty "ValueError") (by rfl) N.vE PyProof.Rows.Boot.«ValueError» rfl) pa_nil)))))))), ?_⟩
    refine ⟨_, rfl, (by show 9 ≤ sizeLine; decide), fun t1 h1 => ⟨t1, _, _, false, rfl, xd_mono hx (same_new h1), upd_same, pairs_ref [a1, a2, a3, a4, a5, a6, a7, a8, a9], ED.kA, false, rfl, iteF ?_⟩⟩
    refine ⟨_, rfl, (by show 8 ≤ sizeLine; decide), fun t2 h2 => ⟨t2, _, _, false, rfl, xd_mono (xd_mono hx (same_new h1)) (same_new h2), upd_same, pairs_ref [b1, b2, b3, b4, b5, b6, b7, b8], ED.kB, false, rfl, iteF ?_⟩⟩
    have hx2 := xd_mono (xd_mono hx (same_new h1 (o := .tup [V.ref a1, V.ref a2, V.ref a3, V.ref a4, V.ref a5, V.ref a6, V.ref a7, V.ref a8, V.ref a9]))) (same_new h2 (o := .tup [V.ref b1, V.ref b2, V.ref b3, V.ref b4, V.ref b5, V.ref b6, V.ref b7, V.ref b8]))
    refine ⟨_, rfl, _, _, true, rfl, hx2, .own R, ED.kR, ?_⟩
    refine ⟨_, rfl, iteT ?_⟩
    refine ⟨_, rfl, _, _, true, rfl, hx2, .ty _, ED.kV, ?_⟩
    exact k _ ((same_new h1).trans (same_new h2))
end
end Mk

set_option Elab.async false
set_option linter.all false
set_option maxRecDepth 100000
set_option maxHeartbeats 4000000
/-! text[::-1] -/
namespace Rv
open PySem PySem.Spec PyProof.Rows L2 Builtin.Str
def revS (z : Str) : Str := ⟨z.cps.toList.reverse.toArray⟩
theorem range_down (n : Nat) : strSliceIndices none none (-1) n = (List.range n).map fun k => n - 1 - k := by
  have e : strSliceIndices none none (-1) n = sliceRange ((n : Int) - 1) (-1) (-1) := rfl
  rw [e]
  unfold sliceRange
  have c : (if (-1 : Int) > 0 then (if (n : Int) - 1 < -1 then (-1 - ((n : Int) - 1) + -1 - 1) / -1 else 0) else (if (n : Int) - 1 > -1 then ((n : Int) - 1 - -1 - -1 - 1) / (- -1) else 0)) = (n : Int) := by
    rw [if_neg (by decide)]
    split
    · have : - (-1 : Int) = 1 := rfl
      rw [this, Int.ediv_one]
      omega
    · omega
  show (List.range (if (-1 : Int) > 0 then (if (n : Int) - 1 < -1 then (-1 - ((n : Int) - 1) + -1 - 1) / -1 else 0) else (if (n : Int) - 1 > -1 then ((n : Int) - 1 - -1 - -1 - 1) / (- -1) else 0)).toNat).map _ = _
  rw [c, Int.toNat_natCast]
  refine List.map_congr_left fun k hk => ?_
  have := List.mem_range.mp hk
  omega
theorem fm_congr {α β : Type} {f g : α → Option β} : ∀ {l : List α}, (∀ x ∈ l, f x = g x) → l.filterMap f = l.filterMap g
  | [], _ => rfl
  | a :: r, h => by
    rw [List.filterMap_cons, List.filterMap_cons, h a List.mem_cons_self, fm_congr fun x m => h x (List.mem_cons_of_mem _ m)]
theorem picked_rev : ∀ (l : List Nat), ((List.range l.length).map fun k => l.length - 1 - k).filterMap (fun i => l[i]?) = l.reverse := by
  intro l
  refine List.ext_getElem? fun i => ?_
  rw [List.filterMap_map]
  by_cases h : i < l.length
  · have e : ∀ k ∈ List.range l.length, ((fun i => l[i]?) ∘ fun k => l.length - 1 - k) k = some (l.reverse.getD k 0) := fun k hk => by
      have := List.mem_range.mp hk
      show l[l.length - 1 - k]? = _
      rw [List.getD_eq_getElem?_getD, List.getElem?_reverse this, List.getElem?_eq_getElem (by omega)]
      rfl
    have g : (List.range l.length).filterMap ((fun i => l[i]?) ∘ fun k => l.length - 1 - k) = (List.range l.length).map fun k => l.reverse.getD k 0 := by
      rw [← List.filterMap_eq_map]
      exact fm_congr e
    rw [g, List.getElem?_map, List.getElem?_range h]
    show some (l.reverse.getD i 0) = _
    rw [List.getD_eq_getElem?_getD, List.getElem?_eq_getElem (by rw [List.length_reverse]; exact h)]
    rfl
  · have z := List.length_filterMap_le ((fun i => l[i]?) ∘ fun k => l.length - 1 - k) (List.range l.length)
    rw [List.length_range] at z
    exact (List.getElem?_eq_none (by omega)).trans (List.getElem?_eq_none (by rw [List.length_reverse]; omega)).symm
theorem picked_str (z : Str) (t2 : Tok) : (slicePicked z none none (some (-1, t2))).filterMap (z.cps[·]?) = z.cps.toList.reverse := by
  have e : slicePicked z none none (some (-1, t2)) = (List.range z.cps.toList.length).map fun k => z.cps.toList.length - 1 - k := by
    show strSliceIndices none none (-1) z.length = _
    rw [range_down, Array.length_toList] <;> rfl
  rw [e, ← picked_rev]
  refine fm_congr fun i _ => ?_
  exact (Array.getElem?_toList ..).symm
section
variable {X : Cx} {e st : Expr} {te ts : TE} {pos p2 : Pos}
theorem pe_rev (he : PE X e te) (hst : PE X st ts) (hs : ∀ o i, subscripted (.Slice none none (some st) p2) false o i = operate [o, i] (getItem o i) := by intro _ _; rfl)
    (ht : ∀ o r, letTemporaryGo e o r = pure () := by intro _ _; with_unfolding_all rfl) :
    PE X (.Subscript e (.Slice none none (some st) p2) pos) (fun σ H Q => te σ H fun x H1 => ts σ H1 fun y H2 => ∃ z, x = .str z ∧ y = .int (-1) ∧ z.length ≤ sizeLine ∧ Q (.str (revS z)) H2) := by
  refine ⟨fun pins s σ H Q I h => ?_⟩
  refine Subscript_ (thn (he.run pins s σ H _ I h) fun v s1 ⟨x, H1, I1, r1, q1⟩ => ?_)
  refine wpAny_Slice ?_
  rw [evalPart_none]
  refine wpAny_pure (wpAny_pure ?_)
  rw [evalPart_some]
  refine thn (hst.run pins s1 σ H1 _ I1 q1) fun u s2 ⟨y, H2, I2, r2, q2⟩ => ?_
  obtain ⟨z, rfl, rfl, hz, q⟩ := q2
  obtain ⟨t, rfl⟩ := r1
  obtain ⟨t2, rfl⟩ := r2
  have I4 : Inv X pins σ H2 { s2 with heap := s2.heap.push { cls := .type "slice", data := .fields #[.none, .none, .int (-1) t2] } } := I2.kept (t' := s2.toks) fun b ob q => Heap.get?_push_of_some _ q
  refine subscriptTail_builtin (T := "str") (typeIs_str _ _ _) F.slot_str_getitem.lookup ?_ (hs _ _) (ht _)
  refine wpAny_getItem_str_slice (l := none) (u := none) (st := some (-1, t2)) ⟨_, Heap.get?_push_size _ rfl, rfl, rfl⟩ rfl ?_
  have c : ((((some ((-1 : Int), t2)).map (·.1)).getD 1 == 1) && (slicePicked z none none (some (-1, t2))).length == z.length) = false := by
    show (((-1 : Int) == 1) && _) = false
    rw [show ((-1 : Int) == 1) = false from rfl, Bool.false_and]
  unfold sliceMade
  rw [if_neg (by rw [c]; exact Bool.false_ne_true), picked_str]
  refine ⟨?_, .str (revS z), H2, I4.tok _, ⟨_, rfl⟩, q⟩
  show (z.cps.toList.reverse.toArray).size ≤ _
  rw [List.size_toArray, List.length_reverse, Array.length_toList]
  exact hz
end
end Rv

set_option Elab.async false
set_option maxRecDepth 100000
set_option maxHeartbeats 4000000
namespace Mk
open PySem L2 Pk
section
variable {P : Program} {w : World} {K : PySem.W.Frag} {mg : PySem.Str → Option Value} {base : Heap}
def mirB (t : PySem.Str) : Bool := decide (V.str t = V.str (Rv.revS t))
def spMir : Sp := fun vs H Q _ => ∃ t : PySem.Str, vs = [.str t] ∧ t.length ≤ 3000000 ∧ Q (.bl (mirB t)) H
theorem scMir : FnScope ["text"] ["text"] (defScope sMirrored) := ⟨rfl, rfl, rfl, by decide +kernel, rfl, by decide +kernel, by decide +kernel⟩
theorem ok_mir {f : Addr} {fd : FuncData} (F : Fun K "is_mirrored" "is_mirrored" sMirrored f fd) : FnOk P w K mg base CX0 1 f fd ["text"] spMir := by
  refine F.ok scMir (fun vs H Q E h => ?_) (fun cdv A outer s H vs Q E hr h => ?_)
  · obtain ⟨t, rfl, _⟩ := h
    rfl
  · obtain ⟨t, rfl, sz, k⟩ := h
    refine ⟨_, pss_one (ps_ret (pe_cmpR op_eq (pv 0) (Rv.pe_rev (pv 0) (pe_un un_neg pe_int)) (nomark _))), ?_⟩
    exact ⟨_, rfl, _, rfl, _, rfl, t, rfl, rfl, Nat.le_trans sz (by decide), rfl, k⟩
def spEven : Sp := fun vs H Q _ => ∃ t : PySem.Str, vs = [.str t] ∧ Q (.bl (decide (V.int (Txt.count t (PySem.Str.ofString "a")) = V.int (Txt.count t (PySem.Str.ofString "b"))))) H
theorem scEven : FnScope ["text"] ["text"] (defScope sEven) := ⟨rfl, rfl, rfl, by decide +kernel, rfl, by decide +kernel, by decide +kernel⟩
theorem ok_even {f : Addr} {fd : FuncData} (F : Fun K "is_even" "is_even" sEven f fd) : FnOk P w K mg base CX0 1 f fd ["text"] spEven := by
  refine F.ok scEven (fun vs H Q E h => ?_) (fun cdv A outer s H vs Q E hr h => ?_)
  · obtain ⟨t, rfl, _⟩ := h
    rfl
  · obtain ⟨t, rfl, k⟩ := h
    refine ⟨_, pss_one (ps_ret (pe_cmpR op_eq (pe_bm PySem.F.plainAttrs_str PySem.F.slot_str_count PySem.F.type_str_count mt_count (pv 0) (pa_cons pe_str pa_nil)) (pe_bm PySem.F.plainAttrs_str PySem.F.slot_str_count PySem.F.type_str_count mt_count (pv 0) (pa_cons pe_str pa_nil)) (nomark _))), ?_⟩
    exact ⟨_, rfl, rfl, t, _, rfl, rfl, _, rfl, rfl, t, _, rfl, rfl, rfl, k⟩
end
end Mk

set_option Elab.async false
set_option maxRecDepth 100000
set_option maxHeartbeats 4000000
namespace Mk
open PySem L2 Pk
section
variable {P : Program} {w : World} {K : PySem.W.Frag} {mg : PySem.Str → Option Value} {base : Heap}
def spCopied : Sp := fun vs H Q _ => ∃ t : PySem.Str, vs = [.str t] ∧ t.length ≤ 3000000 ∧ ∀ H', Same H H' → Q (.bl (decide (Txt.count t (PySem.Str.ofString "c") = 1) && decide ((Txt.partition t (PySem.Str.ofString "c")).1 = (Txt.partition t (PySem.Str.ofString "c")).2.2))) H'
theorem scCopied : FnScope ["text", "before", "_", "behind"] ["text"] (defScope sCopied) := ⟨rfl, rfl, rfl, by decide +kernel, rfl, by decide +kernel, by decide +kernel⟩
theorem ok_copied {f : Addr} {fd : FuncData} (F : Fun K "is_copied" "is_copied" sCopied f fd) : FnOk P w K mg base CX0 1 f fd ["text"] spCopied := by
  refine F.ok scCopied (fun vs H Q E h => ?_) (fun cdv A outer s H vs Q E hr h => ?_)
  · obtain ⟨t, rfl, _⟩ := h
    rfl
  · obtain ⟨t, rfl, sz, k⟩ := h
    have nd := scCopied.nd
    refine ⟨_, pss_cons (ps_asg (pe_bm PySem.F.plainAttrs_str PySem.F.slot_str_partition PySem.F.type_str_partition mt_partition (pv 0) (pa_cons pe_str pa_nil)) (pg_tup (by rfl) (pgs_cons (pg_name (i := 1) nd rfl (Or.inl rfl)) (pgs_cons (pg_name (i := 2) nd rfl (Or.inl rfl)) (pgs_cons (pg_name (i := 3) nd rfl (Or.inl rfl)) pgs_nil)))))
      (pss_one (ps_ret (pe_and (pe_cmpR op_eq (pe_bm PySem.F.plainAttrs_str PySem.F.slot_str_count PySem.F.type_str_count mt_count (pv 0) (pa_cons pe_str pa_nil)) pe_int (nomark _)) (pe_one (pe_cmpR op_eq (pv 1) (pv 3) (nomark _)))))), ?_⟩
    have en : ((PySem.Str.ofString "c").length == 0) = false := by decide +kernel
    refine ⟨_, rfl, rfl, t, _, rfl, rfl, en, Nat.le_trans sz (by decide), fun p np => ⟨p, _, rfl, SqT.of upd_same, rfl, _, _, rfl, _, _, rfl, _, _, rfl, rfl, ?_⟩⟩
    have s1 := same_new (o := HO.tup [.str (Txt.partition t (PySem.Str.ofString "c")).1, .str (Txt.partition t (PySem.Str.ofString "c")).2.1, .str (Txt.partition t (PySem.Str.ofString "c")).2.2]) np
    have k1 := k _ s1
    refine ⟨_, rfl, rfl, t, _, rfl, rfl, rfl, ?_⟩
    refine ⟨_, rfl, ?_⟩
    by_cases c1 : Txt.count t (PySem.Str.ofString "c") = 1
    · rw [decide_eq_true c1, Bool.true_and] at k1
      rw [if_pos (decide_eq_true (by rw [c1]))]
      refine ⟨_, rfl, _, rfl, rfl, ?_⟩
      rw [show decide (V.str (Txt.partition t (PySem.Str.ofString "c")).1 = V.str (Txt.partition t (PySem.Str.ofString "c")).2.2) = decide ((Txt.partition t (PySem.Str.ofString "c")).1 = (Txt.partition t (PySem.Str.ofString "c")).2.2) from decide_eq_decide.mpr ⟨fun z => V.str.inj z, fun z => by rw [z]⟩]
      exact k1
    · rw [decide_eq_false c1, Bool.false_and] at k1
      rw [if_neg (by rw [decide_eq_true_eq]; exact fun z => c1 (V.int.inj z))]
      exact k1
end
end Mk

set_option Elab.async false
set_option maxRecDepth 100000
set_option maxHeartbeats 4000000
namespace Mk
open PySem L2 Pk
theorem op_mulS {X : Cx} : OpR X (binaryOp .Mult) (fun x y H Q => ∃ z n, x = .str z ∧ y = .int n ∧ MulOk z n ∧ Q (.str (Txt.mul z n)) H) := by
  intro pins s σ H x y v u Q I rx ry h
  obtain ⟨z, n, rfl, rfl, ok, q⟩ := h
  obtain ⟨t, rfl⟩ := rx
  obtain ⟨t', rfl⟩ := ry
  exact SB.mul ok fun t' tk => ⟨.str (Txt.mul z n), H, I.tok _, ⟨_, rfl⟩, q⟩
theorem mul_ok {x : PySem.Str} {n : Nat} (l : x.length = 1) (h : n < 168) : MulOk x (n : Int) := by
  refine ⟨?_, fun h1 _ => ?_, fun _ _ => ?_⟩
  · rw [decide_eq_false (by omega), decide_eq_false (by omega)]
    rfl
  · rw [l]
    have z : (1 : Int) ≤ (2 ^ 63 - 1) / (n : Int) := Int.le_ediv_of_mul_le (by omega) (by omega)
    show ¬ (1 : Int) > _
    omega
  · rw [l]
    unfold Builtin.Str.tooLong
    exact decide_eq_false (by
      have : (168 : Nat) ≤ sizeLine := by decide
      omega)
theorem mul_len : ∀ n, n < 168 → (Txt.mul (PySem.Str.ofString "a") ((n : Nat) : Int)).length ≤ 200 ∧ (Txt.mul (PySem.Str.ofString "b") ((n : Nat) : Int)).length ≤ 200 ∧ (Txt.mul (PySem.Str.ofString "c") ((n : Nat) : Int)).length ≤ 200 := by
  decide +kernel
section
variable {P : Program} {w : World} {K : PySem.W.Frag} {mg : PySem.Str → Option Value} {base : Heap}
def inB (x y : PySem.Str) : Bool := !(Builtin.Str.occurrences y x 0 y.length 1).isEmpty
def spFound : Sp := fun vs H Q _ => ∃ t : PySem.Str, vs = [.str t] ∧ t.length ≤ 3000000 ∧ ∀ H', Same H H' → Q (.bl (decide (Txt.count t (PySem.Str.ofString "c") = 1) && inB (Txt.partition t (PySem.Str.ofString "c")).1 (Txt.partition t (PySem.Str.ofString "c")).2.2)) H'
theorem scFound : FnScope ["text", "before", "_", "behind"] ["text"] (defScope sFound) := ⟨rfl, rfl, rfl, by decide +kernel, rfl, by decide +kernel, by decide +kernel⟩
theorem ok_found {f : Addr} {fd : FuncData} (F : Fun K "is_found" "is_found" sFound f fd) : FnOk P w K mg base CX0 1 f fd ["text"] spFound := by
  refine F.ok scFound (fun vs H Q E h => ?_) (fun cdv A outer s H vs Q E hr h => ?_)
  · obtain ⟨t, rfl, _⟩ := h
    rfl
  · obtain ⟨t, rfl, sz, k⟩ := h
    have nd := scFound.nd
    refine ⟨_, pss_cons (ps_asg (pe_bm PySem.F.plainAttrs_str PySem.F.slot_str_partition PySem.F.type_str_partition mt_partition (pv 0) (pa_cons pe_str pa_nil)) (pg_tup (by rfl) (pgs_cons (pg_name (i := 1) nd rfl (Or.inl rfl)) (pgs_cons (pg_name (i := 2) nd rfl (Or.inl rfl)) (pgs_cons (pg_name (i := 3) nd rfl (Or.inl rfl)) pgs_nil)))))
      (pss_one (ps_ret (pe_and (pe_cmpR op_eq (pe_bm PySem.F.plainAttrs_str PySem.F.slot_str_count PySem.F.type_str_count mt_count (pv 0) (pa_cons pe_str pa_nil)) pe_int (nomark _)) (pe_one (pe_cmpR op_in_str (pv 1) (pv 3) rfl))))), ?_⟩
    have en : ((PySem.Str.ofString "c").length == 0) = false := by decide +kernel
    refine ⟨_, rfl, rfl, t, _, rfl, rfl, en, Nat.le_trans sz (by decide), fun p np => ⟨p, _, rfl, SqT.of upd_same, rfl, _, _, rfl, _, _, rfl, _, _, rfl, rfl, ?_⟩⟩
    have s1 := same_new (o := HO.tup [.str (Txt.partition t (PySem.Str.ofString "c")).1, .str (Txt.partition t (PySem.Str.ofString "c")).2.1, .str (Txt.partition t (PySem.Str.ofString "c")).2.2]) np
    have k1 := k _ s1
    refine ⟨_, rfl, rfl, t, _, rfl, rfl, rfl, ?_⟩
    refine ⟨_, rfl, ?_⟩
    by_cases c1 : Txt.count t (PySem.Str.ofString "c") = 1
    · rw [decide_eq_true c1, Bool.true_and] at k1
      rw [if_pos (decide_eq_true (by rw [c1]))]
      exact ⟨_, rfl, _, rfl, _, _, rfl, rfl, k1⟩
    · rw [decide_eq_false c1, Bool.false_and] at k1
      rw [if_neg (by rw [decide_eq_true_eq]; exact fun z => c1 (V.int.inj z))]
      exact k1
abbrev thirds (t : PySem.Str) : PySem.Str := Txt.mul (PySem.Str.ofString "a") ((t.length : Int) / 3) ++ Txt.mul (PySem.Str.ofString "b") ((t.length : Int) / 3) ++ Txt.mul (PySem.Str.ofString "c") ((t.length : Int) / 3)
def spThirds : Sp := fun vs H Q _ => ∃ t : PySem.Str, vs = [.str t] ∧ t.length ≤ 500 ∧ Q (.bl (decide (V.str t = V.str (thirds t)))) H
theorem scThirds : FnScope ["text", "number"] ["text"] (defScope sThirds) := ⟨rfl, rfl, rfl, by decide +kernel, rfl, by decide +kernel, by decide +kernel⟩
theorem ok_thirds {f : Addr} {fd : FuncData} (F : Fun K "is_in_thirds" "is_in_thirds" sThirds f fd) (ml : mg "len" = none) : FnOk P w K mg base CX0 1 f fd ["text"] spThirds := by
  refine F.ok scThirds (fun vs H Q E h => ?_) (fun cdv A outer s H vs Q E hr h => ?_)
  · obtain ⟨t, rfl, _⟩ := h
    rfl
  · obtain ⟨t, rfl, sz, k⟩ := h
    have nd := scThirds.nd
    refine ⟨_, pss_cons (ps_set (i := 1) nd rfl (Or.inl rfl) (pe_op op_fdiv (pe_callB call_len_str (by rfl) ml PySem.boot_len (pa_cons (pv 0) pa_nil)) pe_int))
      (pss_one (ps_ret (pe_cmpR op_eq (pv 0) (pe_op op_add_str (pe_op op_add_str (pe_op op_mulS pe_str (pv 1)) (pe_op op_mulS pe_str (pv 1))) (pe_op op_mulS pe_str (pv 1))) (nomark _)))), ?_⟩
    have eq3 : (t.length : Int) / 3 = ((t.length / 3 : Nat) : Int) := rfl
    have a1 := mul_ok (x := PySem.Str.ofString "a") (n := t.length / 3) (by decide +kernel) (by omega)
    have b1 := mul_ok (x := PySem.Str.ofString "b") (n := t.length / 3) (by decide +kernel) (by omega)
    have c1 := mul_ok (x := PySem.Str.ofString "c") (n := t.length / 3) (by decide +kernel) (by omega)
    obtain ⟨a2, b2, c2⟩ := mul_len (t.length / 3) (by omega)
    rw [← eq3] at a1 b1 c1 a2 b2 c2
    have zz : ∀ z : Nat, z ≤ 1000 → z ≤ sizeLine := fun _ h => Nat.le_trans h (by decide)
    have lab : (Txt.mul (PySem.Str.ofString "a") ((t.length : Int) / 3) ++ Txt.mul (PySem.Str.ofString "b") ((t.length : Int) / 3)).length = (Txt.mul (PySem.Str.ofString "a") ((t.length : Int) / 3)).length + (Txt.mul (PySem.Str.ofString "b") ((t.length : Int) / 3)).length := by
      show (_ ++ _ : Array Nat).size = _
      rw [Array.size_append]
      rfl
    refine ⟨_, rfl, t, rfl, zz _ (by omega), _, _, rfl, rfl, ⟨by decide, by decide⟩, ?_⟩
    refine ⟨_, rfl, _, rfl, _, _, rfl, rfl, a1, _, rfl, _, _, rfl, rfl, b1, _, _, rfl, rfl, zz _ (by omega), _, rfl, _, _, rfl, rfl, c1, _, _, rfl, rfl, zz _ (by rw [lab]; omega), rfl, k⟩
end
end Mk

set_option Elab.async false
set_option maxRecDepth 100000
set_option maxHeartbeats 4000000
namespace Mk
open PySem L2 Pk
section
variable {P : Program} {w : World} {K : PySem.W.Frag} {mg : PySem.Str → Option Value} {base : Heap}
/-! _law_digits: so many digits, each below its size -/
def Digs (sizes row : List Int) : Prop := row.length = sizes.length ∧ ∀ (i : Nat) (s : Int), sizes[i]? = some s → ∃ d, row[i]? = some d ∧ 0 ≤ d ∧ d < s
def spDigits (K : PySem.W.Frag) : Sp := fun vs H Q _ => ∃ (c : Int) (l : Addr) (sizes : List Int), vs = [.int c, .ref l] ∧ SqL K H l (sizes.map V.int) ∧ sizes.length ≤ 10000 ∧ (∀ s ∈ sizes, 0 < s ∧ s < 2 ^ 200) ∧
  ∀ (row : List Int) (p : Addr) (H' : Hp), Digs sizes row → H p = none → Same H H' → H' p = some (.lst (row.map V.int)) → Q (.ref p) H'
theorem map_snoc (row : List Int) (d : Int) : row.map V.int ++ [V.int d] = (row ++ [d]).map V.int := by rw [List.map_append]; rfl
theorem digs_nil : Digs [] [] := ⟨rfl, fun i s e => by simp at e⟩
theorem take_succ_of {α : Type} {l : List α} {i : Nat} {x : α} (h : l[i]? = some x) : l.take (i + 1) = l.take i ++ [x] := by
  rw [List.take_add_one, h]
  rfl
theorem digs_snoc {sizes row : List Int} {i : Nat} {s d : Int} (h : Digs (sizes.take i) row) (e : sizes[i]? = some s) (h0 : 0 ≤ d) (h1 : d < s) : Digs (sizes.take (i + 1)) (row ++ [d]) := by
  rw [take_succ_of e]
  obtain ⟨hl, hd⟩ := h
  refine ⟨by rw [List.length_append, List.length_append, hl]; rfl, fun j t ej => ?_⟩
  by_cases c : j < (sizes.take i).length
  · rw [List.getElem?_append_left c] at ej
    obtain ⟨x, e1, e2⟩ := hd j t ej
    exact ⟨x, by rw [List.getElem?_append_left (by omega)]; exact e1, e2⟩
  · have cj : j = (sizes.take i).length := by
      have q := (List.getElem?_eq_some_iff.mp ej).1
      rw [List.length_append, List.length_singleton] at q
      omega
    rw [cj, List.getElem?_append_right (Nat.le_refl _), Nat.sub_self] at ej
    cases ej
    exact ⟨d, by rw [cj, List.getElem?_append_right (by omega), hl, Nat.sub_self]; rfl, h0, h1⟩
theorem scDigits : FnScope ["cell", "sizes", "row", "rest", "size", "seed", "k", "twice"] ["cell", "sizes"] (defScope sDigits) := ⟨rfl, rfl, rfl, by decide +kernel, rfl, by decide +kernel, by decide +kernel⟩
theorem ok_digits {f : Addr} {fd : FuncData} (F : Fun K "_law_digits" "_law_digits" sDigits f fd) (T : TM mg) : FnOk P w K mg base CX0 1 f fd ["cell", "sizes"] (spDigits K) := by
  refine F.ok scDigits (fun vs H Q E h => ?_) (fun cdv A outer s H vs Q E hr h => ?_)
  · obtain ⟨c, l, sizes, rfl, _⟩ := h
    rfl
  · obtain ⟨c, l, sizes, rfl, hS, hl, hz, k⟩ := h
    refine ⟨_, pss_cons (ps_set (i := 2) scDigits.nd rfl (Or.inl rfl) (pe_lst pa_nil))
      (pss_cons (ps_set (i := 3) scDigits.nd rfl (Or.inl rfl) (pe_callTy call_int1 (by rfl) T.int PyProof.Rows.Boot.int (pa_cons (pv 0) pa_nil)))
      (pss_cons (ps_if (pt_cmp (pc_ge (pv 3) (pe_op op_pow pe_int pe_int)))
        (pss_cons (ps_set (i := 3) scDigits.nd rfl (Or.inl rfl) (pe_op op_sub (pv 3) (pe_op op_pow pe_int pe_int)))
        (pss_cons (ps_for PassesOwn.never rfl (pi_list (pv 1)) (pg_name (i := 4) scDigits.nd rfl (Or.inl rfl))
          (pss_cons (ps_expr (pe_bm PySem.F.plainAttrs_list PySem.F.slot_list_append PySem.F.type_list_append mt_append (pv 2) (pa_cons (pe_op op_mod (pe_callTy call_int1 (by rfl) T.int PyProof.Rows.Boot.int (pa_cons (pv 3) pa_nil)) (pv 4)) pa_nil)))
          (pss_one (ps_set (i := 3) scDigits.nd rfl (Or.inl rfl) (pe_op op_fdivW (pe_callTy call_int1 (by rfl) T.int PyProof.Rows.Boot.int (pa_cons (pv 3) pa_nil)) (pv 4))))))
        (pss_one (ps_ret (pv 2))))) pss_nil)
      (pss_cons (ps_set (i := 5) scDigits.nd rfl (Or.inl rfl) (pe_op op_mod (pe_callTy call_int1 (by rfl) T.int PyProof.Rows.Boot.int (pa_cons (pv 3) pa_nil)) pe_int))
      (pss_cons (ps_for PassesOwn.never rfl (pi_range1 (by rfl) T.range (pa_cons (pe_callB call_len_seq (by rfl) T.len PySem.boot_len (pa_cons (pv 1) pa_nil)) pa_nil)) (pg_name (i := 6) scDigits.nd rfl (Or.inl rfl))
        (pss_cons (ps_set (i := 5) scDigits.nd rfl (Or.inl rfl) (pe_op op_mod (pe_callTy call_int1 (by rfl) T.int PyProof.Rows.Boot.int (pa_cons (pe_op op_add (pe_op op_add (pe_op op_mul (pv 5) pe_int) (pe_op op_mul pe_int (pv 6))) pe_int) pa_nil)) pe_int))
        (pss_cons (ps_set (i := 7) scDigits.nd rfl (Or.inl rfl) (pe_op op_mod (pe_callTy call_int1 (by rfl) T.int PyProof.Rows.Boot.int (pa_cons (pe_op op_mul (pv 5) (pe_op op_add (pe_op op_fdiv (pv 5) pe_int) pe_int)) pa_nil)) pe_int))
        (pss_one (ps_expr (pe_bm PySem.F.plainAttrs_list PySem.F.slot_list_append PySem.F.type_list_append mt_append (pv 2) (pa_cons (pe_op op_mod (pe_op op_fdiv (pv 7) pe_int) (pe_ix ix_list (pv 1) (pv 6) fun _ _ => rfl)) pa_nil)))))))
      (pss_one (ps_ret (pv 2))))))), ?_⟩
    refine ⟨Nat.zero_le _, fun p hp => ?_⟩
    have s0 : Same H (upd H p (.lst [])) := same_new hp
    refine ⟨_, rfl, .inl ⟨c, rfl, ?_⟩⟩
    refine ⟨_, rfl, _, _, rfl, rfl, ⟨by decide, by decide, by decide⟩, _, _, rfl, rfl, _, rfl, ?_⟩
    refine ite2 (fun cc => ?_) (fun cc => ?_)
    · refine ⟨_, rfl, _, _, rfl, rfl, ⟨by decide, by decide, by decide⟩, _, _, rfl, rfl, ?_⟩
      refine ⟨_, rfl, l, rfl, ⟨_, s0.seq hS⟩, for_list (K := K) (a := l) (xs := sizes.map V.int) (fun i σ H' => Same H H' ∧ ∃ (r : Int) (row : List Int) (v : Option V), σ = [some (.int c), some (.ref l), some (.ref p), some (.int r), v, none, none, none] ∧ H' p = some (.lst (row.map V.int)) ∧ Digs (sizes.take i) row)
        ⟨s0, _, [], none, rfl, upd_same, digs_nil⟩ (fun i σ H' _ h => h.1.seq hS) ?_ ?_⟩
      · rintro i y σ H' hi ⟨s1, r, row, v, rfl, hrow, dg⟩
        obtain ⟨u, eu, rfl⟩ := mapInt hi
        obtain ⟨u0, u1⟩ := hz u (List.mem_of_getElem? eu)
        have hi2 : i < sizes.length := (List.getElem?_eq_some_iff.mp eu).1
        have lr : row.length ≤ i := by rw [dg.1, List.length_take]; omega
        refine ⟨_, rfl, .inl ⟨rfl, _, SqL.of hrow⟩, _, rfl, .inl ⟨_, rfl, _, rfl, _, _, rfl, rfl, u0, p, _, _, rfl, rfl, hrow, ?_, ?_⟩⟩
        · rw [List.length_map]
          exact small100k (by omega)
        refine ⟨_, rfl, .inl ⟨_, rfl, _, rfl, _, _, rfl, rfl, ⟨u0, ?_⟩, ?_⟩⟩
        · exact (wide_div (i := r) (b := 200) u0 (by omega) (by decide) (by decide)).2
        refine ⟨same_mut s1 hp, _, row ++ [r % u], _, rfl, ?_, digs_snoc dg eu (Int.emod_nonneg _ (by omega)) (Int.emod_lt_of_pos _ u0)⟩
        rw [upd_same, List.map_append]
        rfl
      · rintro σ H' ⟨s1, r, row, v, rfl, hrow, dg⟩
        rw [List.length_map, List.take_length] at dg
        exact ⟨_, rfl, k row p H' dg hp s1 hrow⟩
    · refine ⟨_, rfl, .inl ⟨_, rfl, _, _, rfl, rfl, (by show (0 : Int) < 2147483629; decide), ?_⟩⟩
      refine ⟨_, rfl, l, _, rfl, .inl (s0.seq hS), ?_⟩
      rw [List.length_map]
      refine ⟨_, rfl, by omega, by omega, for_range (lo := 0) (n := ((sizes.length : Int)).toNat) (fun i σ H' => Same H H' ∧ ∃ (sd : Int) (row : List Int) (v v2 : Option V), σ = [some (.int c), some (.ref l), some (.ref p), some (.int c), none, some (.int sd), v, v2] ∧ 0 ≤ sd ∧ sd < 2 ^ 40 ∧ H' p = some (.lst (row.map V.int)) ∧ Digs (sizes.take i) row)
        ⟨s0, _, [], none, none, rfl, Int.emod_nonneg _ (by decide), Int.lt_trans (Int.emod_lt_of_pos _ (by decide)) (by decide), upd_same, digs_nil⟩ ?_ ?_⟩
      · rintro i σ H' hi ⟨s1, sd, row, v, v2, rfl, h0, h1, hrow, dg⟩
        have hi2 : i < sizes.length := by omega
        have eu : sizes[i]? = some sizes[i] := List.getElem?_eq_getElem hi2
        obtain ⟨u0, u1⟩ := hz _ (List.mem_of_getElem? eu)
        have lr : row.length ≤ i := by rw [dg.1, List.length_take]; omega
        have ei : (0 : Int) + (i : Int) = (i : Int) := by omega
        refine ⟨_, rfl, _, _, rfl, rfl, .inl (by omega), _, rfl, _, _, rfl, rfl, .inl (by decide), _, _, rfl, rfl, _, _, rfl, rfl, .inl ⟨_, rfl, _, _, rfl, rfl, (by show (0 : Int) < 2147483647; decide), ?_⟩⟩
        have b0 := Int.emod_nonneg (sd * 48271 + 974711 * (0 + (i : Int)) + 12345) (show (2147483647 : Int) ≠ 0 by decide)
        have b1 := Int.emod_lt_of_pos (sd * 48271 + 974711 * (0 + (i : Int)) + 12345) (show (0 : Int) < 2147483647 by decide)
        refine ⟨_, rfl, _, rfl, _, _, rfl, rfl, ⟨by decide, by decide⟩, _, _, rfl, rfl, _, _, rfl, rfl, .inl (by omega), .inl ⟨_, rfl, _, _, rfl, rfl, (by show (0 : Int) < 2147483629; decide), ?_⟩⟩
        refine ⟨_, rfl, .inl ⟨rfl, _, SqL.of hrow⟩, _, rfl, _, _, rfl, rfl, ⟨by decide, by decide⟩, _, rfl, _, rfl, l, _, (i : Int), _, rfl, by rw [ei], s1.seq hS, atI_nat (by rw [List.getElem?_map, eu]; rfl), _, _, rfl, rfl, u0, p, _, _, rfl, rfl, hrow, ?_, ?_⟩
        · rw [List.length_map]
          exact small100k (by omega)
        exact ⟨same_mut s1 hp, _, row ++ [_], _, _, rfl, b0, Int.lt_trans b1 (by decide), upd_same.trans (congrArg (fun l => some (HO.lst l)) (map_snoc row _)), digs_snoc dg eu (Int.emod_nonneg _ (by omega)) (Int.emod_lt_of_pos _ u0)⟩
      · rintro σ H' ⟨s1, sd, row, v, v2, rfl, h0, h1, hrow, dg⟩
        rw [Int.toNat_natCast, List.take_length] at dg
        exact ⟨_, rfl, k row p H' dg hp s1 hrow⟩
end
end Mk

set_option Elab.async false
set_option maxRecDepth 100000
set_option maxHeartbeats 4000000
namespace Mk
open PySem L2 Pk
section
variable {P : Program} {w : World} {K : PySem.W.Frag} {mg : PySem.Str → Option Value} {base : Heap}
/-! _law_whole -/
def spWhole : Sp := fun vs H Q _ => ∃ n : Int, vs = [.int n] ∧ Q (.bl true) H
theorem scWhole : FnScope ["value"] ["value"] (defScope sWhole) := ⟨rfl, rfl, rfl, by decide +kernel, rfl, by decide +kernel, by decide +kernel⟩
theorem ok_whole {f : Addr} {fd : FuncData} (F : Fun K "_law_whole" "_law_whole" sWhole f fd) (T : TM mg) : FnOk P w K mg base CX0 1 f fd ["value"] spWhole := by
  refine F.ok scWhole (fun vs H Q E h => ?_) (fun cdv A outer s H vs Q E hr h => ?_)
  · obtain ⟨n, rfl, _⟩ := h
    rfl
  · obtain ⟨n, rfl, k⟩ := h
    refine ⟨_, pss_one (ps_ret (pe_and (pe_callB call_isi (by rfl) T.isi (by decide +kernel) (pa_cons (pv 0) (pa_cons (pe_bltn (v := .ty "int") (by rfl) T.int PyProof.Rows.Boot.int rfl) pa_nil)))
      (pe_one (pe_not (pe_callB call_isi (by rfl) T.isi (by decide +kernel) (pa_cons (pv 0) (pa_cons (pe_bltn (v := .ty "bool") (by rfl) T.bool PyProof.Rows.Boot.bool rfl) pa_nil))))))), ?_⟩
    refine ⟨_, rfl, _, _, _, _, true, rfl, .ty _, .base (.int _), kit_ty (by decide +kernel), _, rfl, ?_⟩
    refine iteT ?_
    refine ⟨_, rfl, _, _, _, _, false, rfl, .ty _, .base (.int _), kit_ty (by decide +kernel), _, rfl, k⟩
/-! _law_same -/
def depthOk : Nat → PyData → Prop
  | _, .none => True
  | _, .bool _ => True
  | _, .int _ => True
  | _, .str _ => True
  | 0, .tuple _ => False
  | n + 1, .tuple ds => ds.length ≤ 100000 ∧ ∀ d ∈ ds, depthOk n d
  | _, .list _ => False
  | _, .dict _ => False
def spSame (K : PySem.W.Frag) (n : Nat) : Sp := fun vs H Q _ => ∃ (x y : V) (d : PyData), vs = [x, y] ∧ Dp K H x d ∧ Dp K H y d ∧ depthOk n d ∧ Q (.bl true) H
theorem scSame : FnScope ["told", "due", "k"] ["told", "due"] (defScope sSame) := ⟨rfl, rfl, rfl, by decide +kernel, rfl, by decide +kernel, by decide +kernel⟩
theorem tyx_tup {H : Hp} {a : Addr} {xs : List V} (h : SqT K H a xs) : TyX K H (.ref a) (.type "tuple") := by
  rcases h with (h | ⟨o, h⟩) | ⟨o, its, n, h, hc, _⟩
  · exact .base (.tup h)
  · exact .fTuple h
  · exact .kTuple h hc
theorem depthOk_list {n : Nat} {ds : List PyData} (h : depthOk n (.list ds)) : False := by cases n <;> exact h
theorem depthOk_dict {n : Nat} {ds : List (PyData × PyData)} (h : depthOk n (.dict ds)) : False := by cases n <;> exact h
def ifThen (s : Stmt) : List Stmt := match s with
  | .If _ b _ _ => b
  | _ => []
theorem same_of {f fW : Addr} {fd fdW : FuncData} (F : Fun K "_law_same" "_law_same" sSame f fd) (T : TM mg) (GW : FnOk P w K mg base CX0 1 fW fdW ["value"] spWhole) (kW : PySem.W.keepIn K (.ref fW) = true) (bW : Binds K fdW ["value"] []) (gW : mg "_law_whole" = some (.ref fW)) (n : Nat)
    (loop : ∀ (cdv : Value) (A : Around) (outer : List Env) (s : Shared) (H : Hp) (E : XK), Room (n + 1) (A.deeper (PyProof.Rows.envOfC "_law_same" (defScope sSame) s.heap.objs.size f cdv)) →
      ∃ tb : TS, PSs (cxOf CX0 P w K mg base ["told", "due", "k"] "_law_same" (defScope sSame) f cdv A outer s H E).nox (ifThen ((defBody sSame).getD 0 (.Pass ⟨0, 0, 0, 0⟩))) tb ∧
        ∀ (ds : List PyData) (D : Ends), depthOk n (.tuple ds) → ∀ (x y : V), Dp K H x (.tuple ds) → Dp K H y (.tuple ds) → D.rt (.bl true) H → tb D [some x, some y, none] H) :
    FnOk P w K mg base CX0 (n + 2) f fd ["told", "due"] (spSame K n) := by
  refine F.ok scSame (fun vs H Q E h => ?_) (fun cdv A outer s H vs Q E hr h => ?_)
  · obtain ⟨x, y, d, rfl, _⟩ := h
    rfl
  · obtain ⟨x, y, d, rfl, hx, hy, hd, k⟩ := h
    have hr1 : Room 1 _ := hr.mono (by omega)
    obtain ⟨tb, hb, hbt⟩ := loop cdv A outer s H E hr
    refine ⟨_, pss_cons (ps_if (pt_val (pe_callB call_isi (by rfl) T.isi (by decide +kernel) (pa_cons (pv 1) (pa_cons (pe_bltn (v := .ty "tuple") (by rfl) T.tuple PyProof.Rows.Boot.tuple rfl) pa_nil)))) hb pss_nil)
      (pss_cons (ps_if (pt_cmp (pc_isN (pv 1))) (pss_one (ps_ret (pe_cmp (pc_isN (pv 0)) rfl))) pss_nil)
      (pss_cons (ps_if (pt_val (pe_callB call_isi (by rfl) T.isi (by decide +kernel) (pa_cons (pv 1) (pa_cons (pe_bltn (v := .ty "bool") (by rfl) T.bool PyProof.Rows.Boot.bool rfl) pa_nil))))
        (pss_one (ps_ret (pe_and (pe_callB call_isi (by rfl) T.isi (by decide +kernel) (pa_cons (pv 0) (pa_cons (pe_bltn (v := .ty "bool") (by rfl) T.bool PyProof.Rows.Boot.bool rfl) pa_nil))) (pe_one (pe_cmpR op_eq (pv 0) (pv 1) (nomark _)))))) pss_nil)
      (pss_cons (ps_if (pt_val (pe_callB call_isi (by rfl) T.isi (by decide +kernel) (pa_cons (pv 1) (pa_cons (pe_bltn (v := .ty "int") (by rfl) T.int PyProof.Rows.Boot.int rfl) pa_nil))))
        (pss_one (ps_ret (pe_and (pe_call GW hr1 (by rfl) gW kW bW .nil pass0 (pa_cons (pv 0) pa_nil)) (pe_one (pe_cmpR op_eq (pv 0) (pv 1) (nomark _)))))) pss_nil)
      (pss_one (ps_ret (pe_and (pe_callB call_isi (by rfl) T.isi (by decide +kernel) (pa_cons (pv 0) (pa_cons (pe_bltn (v := .ty "str") (by rfl) T.str PyProof.Rows.Boot.str rfl) pa_nil))) (pe_one (pe_cmpR op_eq (pv 0) (pv 1) (nomark _))))))))), ?_⟩
    cases d with
    | none =>
      cases hx
      cases hy
      refine ⟨_, rfl, _, _, _, _, false, rfl, .ty _, .base .non, kit_ty (by decide +kernel), _, rfl, ?_⟩
      refine iteF ?_
      refine ⟨_, rfl, _, rfl, ?_⟩
      refine iteT ?_
      exact ⟨_, rfl, k⟩
    | bool b =>
      cases hx
      cases hy
      refine ⟨_, rfl, _, _, _, _, false, rfl, .ty _, .base (.bl _), kit_ty (by decide +kernel), _, rfl, ?_⟩
      refine iteF ?_
      refine ⟨_, rfl, _, rfl, ?_⟩
      refine iteF ?_
      refine ⟨_, rfl, _, _, _, _, true, rfl, .ty _, .base (.bl _), kit_ty (by decide +kernel), _, rfl, ?_⟩
      refine iteT ?_
      refine ⟨_, rfl, _, _, _, _, true, rfl, .ty _, .base (.bl _), kit_ty (by decide +kernel), _, rfl, ?_⟩
      refine iteT ?_
      refine ⟨_, rfl, _, rfl, rfl, ?_⟩
      rw [decide_eq_true rfl]
      exact k
    | int i =>
      cases hx
      cases hy
      refine ⟨_, rfl, _, _, _, _, false, rfl, .ty _, .base (.int _), kit_ty (by decide +kernel), _, rfl, ?_⟩
      refine iteF ?_
      refine ⟨_, rfl, _, rfl, ?_⟩
      refine iteF ?_
      refine ⟨_, rfl, _, _, _, _, false, rfl, .ty _, .base (.int _), kit_ty (by decide +kernel), _, rfl, ?_⟩
      refine iteF ?_
      refine ⟨_, rfl, _, _, _, _, true, rfl, .ty _, .base (.int _), kit_ty (by decide +kernel), _, rfl, ?_⟩
      refine iteT ?_
      refine ⟨_, rfl, _, rfl, _, rfl, ?_⟩
      refine iteT ?_
      refine ⟨_, rfl, _, rfl, rfl, ?_⟩
      rw [decide_eq_true rfl]
      exact k
    | str z =>
      cases hx
      cases hy
      refine ⟨_, rfl, _, _, _, _, false, rfl, .ty _, .base (.str _), kit_ty (by decide +kernel), _, rfl, ?_⟩
      refine iteF ?_
      refine ⟨_, rfl, _, rfl, ?_⟩
      refine iteF ?_
      refine ⟨_, rfl, _, _, _, _, false, rfl, .ty _, .base (.str _), kit_ty (by decide +kernel), _, rfl, ?_⟩
      refine iteF ?_
      refine ⟨_, rfl, _, _, _, _, false, rfl, .ty _, .base (.str _), kit_ty (by decide +kernel), _, rfl, ?_⟩
      refine iteF ?_
      refine ⟨_, rfl, _, _, _, _, true, rfl, .ty _, .base (.str _), kit_ty (by decide +kernel), _, rfl, ?_⟩
      refine iteT ?_
      refine ⟨_, rfl, _, rfl, rfl, ?_⟩
      rw [decide_eq_true rfl]
      exact k
    | list ds => exact (depthOk_list hd).elim
    | tuple ds =>
      have hx' := hx
      have hy' := hy
      cases hx with
      | tup hsx hax =>
        cases hy with
        | tup hsy hay =>
          refine ⟨_, rfl, _, _, _, _, true, rfl, .ty _, tyx_tup hsy, kit_ty (by decide +kernel), _, rfl, ?_⟩
          refine iteT ?_
          exact hbt ds _ hd _ _ hx' hy' k
    | dict ds => exact (depthOk_dict hd).elim
theorem ok_same {f fW : Addr} {fd fdW : FuncData} (F : Fun K "_law_same" "_law_same" sSame f fd) (T : TM mg) (FW : Fun K "_law_whole" "_law_whole" sWhole fW fdW) (bW : Binds K fdW ["value"] []) (gW : mg "_law_whole" = some (.ref fW))
    (bS : Binds K fd ["told", "due"] []) (gS : mg "_law_same" = some (.ref f)) : ∀ n : Nat, FnOk P w K mg base CX0 (n + 2) f fd ["told", "due"] (spSame K n) := by
  have GW : FnOk P w K mg base CX0 1 fW fdW ["value"] spWhole := ok_whole FW T
  intro n
  induction n with
  | zero => exact same_of F T GW FW.kp bW gW 0 fun cdv A outer s H E hr => ⟨_, pss_never, fun ds D hd => hd.elim⟩
  | succ n ih =>
    refine same_of F T GW FW.kp bW gW (n + 1) fun cdv A outer s H E hr => ?_
    refine ⟨_, pss_cons (ps_if (PW.pt (pw_or (pt_not (pt_val (pe_callB call_isi (by rfl) T.isi (by decide +kernel) (pa_cons (pv 0) (pa_cons (pe_bltn (v := .ty "tuple") (by rfl) T.tuple PyProof.Rows.Boot.tuple rfl) pa_nil)))))
        (pw_or1 (pt_cmpR op_ne (pe_callB call_len_seq (by rfl) T.len PySem.boot_len (pa_cons (pv 0) pa_nil)) (pe_callB call_len_seq (by rfl) T.len PySem.boot_len (pa_cons (pv 1) pa_nil)) (nomark _))))) (pss_one (ps_ret pe_bl)) pss_nil)
      (pss_cons (ps_for PassesOwn.never rfl (pi_range1 (by rfl) T.range (pa_cons (pe_callB call_len_seq (by rfl) T.len PySem.boot_len (pa_cons (pv 1) pa_nil)) pa_nil)) (pg_name (i := 2) scSame.nd rfl (Or.inl rfl))
        (pss_one (ps_if (pt_not (pt_val (pe_call ih hr (by rfl) gS F.kp bS .nil pass0 (pa_cons (pe_ix ix_seq (pv 0) (pv 2) fun _ _ => rfl) (pa_cons (pe_ix ix_seq (pv 1) (pv 2) fun _ _ => rfl) pa_nil))))) (pss_one (ps_ret pe_bl)) pss_nil)))
      (pss_one (ps_ret pe_bl))), fun ds D hd x y hx hy k => ?_⟩
    cases hx with
    | @tup a xs _ hsx hax =>
    cases hy with
    | @tup b ys _ hsy hay =>
    have lx := dpa_len hax
    have ly := dpa_len hay
    refine ⟨_, rfl, _, _, _, _, true, rfl, .ty _, tyx_tup hsx, kit_ty (by decide +kernel), _, rfl, ?_⟩
    refine iteF ?_
    refine ⟨_, rfl, a, xs, rfl, .inr hsx, _, rfl, b, ys, rfl, .inr hsy, rfl, _, rfl, ?_⟩
    refine iteNS (by rw [lx, ly]) ?_
    have hl : ys.length ≤ 100000 := by rw [ly]; exact hd.1
    refine ⟨_, rfl, b, ys, rfl, .inr hsy, _, rfl, by omega, by omega, for_range (lo := 0) (n := ((ys.length : Int)).toNat) (fun i σ H' => H' = H ∧ ∃ v : Option V, σ = [some (.ref a), some (.ref b), v])
      ⟨rfl, none, rfl⟩ ?_ ?_⟩
    · rintro i σ H' hi ⟨rfl, v, rfl⟩
      have hi' : i < ys.length := by omega
      have ex : xs[i]? = some xs[i] := List.getElem?_eq_getElem (by omega)
      have ey : ys[i]? = some ys[i] := List.getElem?_eq_getElem hi'
      obtain ⟨d1, e1, q1⟩ := dpa_get hax ex
      obtain ⟨d2, e2, q2⟩ := dpa_get hay ey
      rw [e1] at e2
      cases e2
      have ei : (0 : Int) + (i : Int) = (i : Int) := by omega
      refine ⟨_, rfl, _, rfl, .inr (.inl ⟨a, xs, (i : Int), _, rfl, by rw [ei], hsx, atI_nat ex, _, rfl, _, rfl, .inr (.inl ⟨b, ys, (i : Int), _, rfl, by rw [ei], hsy, atI_nat ey, ?_⟩)⟩)⟩
      refine ⟨_, _, d1, rfl, q1, q2, hd.2 d1 (List.mem_of_getElem? e1), _, rfl, ?_⟩
      refine iteF ?_
      exact ⟨rfl, _, rfl⟩
    · rintro σ H' ⟨rfl, v, rfl⟩
      exact k
end
end Mk

set_option Elab.async false
set_option linter.unusedVariables false
set_option maxRecDepth 100000
set_option maxHeartbeats 4000000
namespace Mk
open PySem L2 Pk
/-! a list of bools made over a range -/
def blL (f : Nat → Bool) (n : Nat) : List V := ((List.range n).map f).map V.bl
theorem blL_succ (f : Nat → Bool) (n : Nat) : blL f (n + 1) = blL f n ++ [V.bl (f n)] := by
  unfold blL
  rw [List.range_succ, List.map_append, List.map_append]
  rfl
theorem blL_len (f : Nat → Bool) (n : Nat) : (blL f n).length = n := by
  unfold blL
  rw [List.length_map, List.length_map, List.length_range]
theorem any_blL (f : Nat → Bool) (n : Nat) : ((List.range n).map f).any id = (List.range n).any f := by
  rw [List.any_map] <;> rfl
theorem all_blL (f : Nat → Bool) (n : Nat) : ((List.range n).map f).all id = (List.range n).all f := by
  rw [List.all_map] <;> rfl
/-- how a list of bools stands -/
def BlS (f : Nat → Bool) (H : Hp) (D : Addr) (i : Nat) (H' : Hp) : Prop := Same H H' ∧ H' D = some (.lst (blL f i))
theorem BlS.zero {f : Nat → Bool} {H H1 : Hp} {D : Addr} (s : Same H H1) (hD : H1 D = none) : BlS f H D 0 (upd H1 D (.lst [])) := ⟨s.trans (same_new hD), upd_same⟩
theorem BlS.put {f : Nat → Bool} {H H1 H2 : Hp} {D : Addr} {i : Nat} (h : BlS f H D i H1) (s : Same H1 H2) (hf : H D = none) (hi : i ≤ 5000) (b : Bool) (e : b = f i) :
    ∃ acc, H2 D = some (.lst acc) ∧ acc.length < sizeLine ∧ BlS f H D (i + 1) (upd H2 D (.lst (acc ++ [V.bl b]))) := by
  refine ⟨_, s _ _ h.2, by rw [blL_len]; exact Nat.lt_of_le_of_lt hi (by decide), same_mut (h.1.trans s) hf, ?_⟩
  rw [upd_same, blL_succ, e]
theorem free_of {H H' : Hp} {D : Addr} (s : Same H H') (h : H' D = none) : H D = none := by
  cases e : H D with
  | none => rfl
  | some o => rw [s _ _ e] at h; exact absurd h (by simp)
/-! parts of a text -/
theorem cut_from (t : PySem.Str) (k : Nat) : (cutS t (some (k : Int)) none).cps.toList = t.cps.toList.drop (min k t.length) := by
  show (((t.cps.toList.drop (HT.sIx t.length 0 (some (k : Int)))).take (HT.sIx t.length t.length none - HT.sIx t.length 0 (some (k : Int)))).toArray).toList = _
  rw [HT.sIx_nat, HT.sIx_none]
  show (t.cps.toList.drop (min k t.length)).take (t.length - min k t.length) = _
  refine List.take_of_length_le ?_
  rw [List.length_drop]
  exact Nat.le_refl _
theorem cut_to (t : PySem.Str) (k : Nat) : (cutS t none (some (k : Int))).cps.toList = t.cps.toList.take (min k t.length) := by
  show (((t.cps.toList.drop (HT.sIx t.length 0 none)).take (HT.sIx t.length t.length (some (k : Int)) - HT.sIx t.length 0 none)).toArray).toList = _
  rw [HT.sIx_nat, HT.sIx_none]
  show (t.cps.toList.drop 0).take (min k t.length - 0) = _
  rfl
theorem cut_mid (t : PySem.Str) (a b : Nat) : (cutS t (some (a : Int)) (some (b : Int))).cps.toList = (t.cps.toList.drop (min a t.length)).take (min b t.length - min a t.length) := by
  show (((t.cps.toList.drop (HT.sIx t.length 0 (some (a : Int)))).take (HT.sIx t.length t.length (some (b : Int)) - HT.sIx t.length 0 (some (a : Int)))).toArray).toList = _
  rw [HT.sIx_nat, HT.sIx_nat]
theorem str_ext {x y : PySem.Str} (h : x.cps.toList = y.cps.toList) : x = y := by
  cases x; cases y
  exact congrArg _ (Array.toList_inj.mp h)
theorem str_dec (x y : PySem.Str) : decide (V.str x = V.str y) = decide (x.cps.toList = y.cps.toList) := decide_eq_decide.mpr ⟨fun z => by rw [V.str.inj z], fun z => by rw [str_ext z]⟩
theorem len_of (t : PySem.Str) : t.cps.toList.length = t.length := Array.length_toList
theorem cut_le (t : PySem.Str) (lo hi : Option Int) : (cutS t lo hi).length ≤ t.length := by
  rw [← len_of, ← len_of]
  show (((t.cps.toList.drop (HT.sIx t.length 0 lo)).take (HT.sIx t.length t.length hi - HT.sIx t.length 0 lo)).toArray).toList.length ≤ _
  rw [List.toList_toArray, List.length_take, List.length_drop]
  omega
/-- a palindrome -/
def pal (l : List Nat) : Bool := decide (l = l.reverse)
theorem mir_pal (t : PySem.Str) : mirB t = pal t.cps.toList := by
  unfold mirB pal
  rw [str_dec]
  unfold Rv.revS
  rw [List.toList_toArray]
theorem pe_bmK {X : Cx} {T : String} {name : PySem.Str} {id : String} {r : V → List V → Hp → VK → Prop} {o e : Expr} {es : List Expr} {to : TE} {t : TA} {apos cpos : Pos} (K : PySem.W.Frag) (hK : X.K = K) (pa : PlainAttrs T) (slot : Slot T name id) (hty : typeOf (.builtin id) = pure (.type "method_descriptor")) (hm : MtR X id r) (ho : PE X o to) (ha : PA X (e :: es) t)
    (hbase : attributeBase o name X.env (eval o X.env) = eval o X.env := by rfl)
    (hfew : ((backTo cpos (starEach (e :: es) X.env)).all (fun x => !x.1) && (backToKw cpos (keywordEach [] X.env)).all (fun x => x.1.isSome)
      && decide ((e :: es).length + ([] : List Keyword).length + (if ([] : List Keyword).isEmpty then 0 else 1) < 30)) = true := by rfl)
    (hline : (apos.endLine == cpos.line) = true := by rfl) (hs : starEach (e :: es) X.env = (false, eval e X.env) :: starEach es X.env := by rfl) (hplain : (backTo cpos (starEach es X.env)).any (·.1) = false := by rfl) :
    PE X (.Call (.Attribute o name apos) (e :: es) [] cpos) (tBM K T r to t) := by
  subst hK
  exact pe_bm pa slot hty hm ho ha hbase hfew hline hs hplain
def rStarts : V → List V → Hp → VK → Prop := fun x xs H Q => ∃ a b, x = .str a ∧ xs = [.str b] ∧ Q (.bl (Txt.startswith a b)) H
section
variable {P : Program} {w : World} {K : PySem.W.Frag} {mg : PySem.Str → Option Value} {base : Heap}
/-- a judge of texts -/
def spJ (f : List Nat → Bool) : Sp := fun vs H Q _ => ∃ t : PySem.Str, vs = [.str t] ∧ t.length ≤ 400 ∧ ∀ H', Same H H' → Q (.bl (f t.cps.toList)) H'
/-! is_bordered -/
def bordB (l : List Nat) : Bool := (List.range (l.length - 1)).any fun i => decide (l.take (l.length - (1 + i)) = l.drop (1 + i))
abbrev nBordered : List PySem.Str := ["text", "size"]
theorem scBordered : FnScope nBordered ["text"] (defScope sBordered) := ⟨rfl, rfl, rfl, by decide +kernel, rfl, by decide +kernel, by decide +kernel⟩
theorem starts_cut (t : PySem.Str) (k : Nat) (h : k ≤ t.length) : Txt.startswith t (cutS t (some (k : Int)) none) = decide (t.cps.toList.take (t.cps.toList.length - k) = t.cps.toList.drop k) := by
  have e := cut_from t k
  rw [Nat.min_eq_left h] at e
  have le : (cutS t (some (k : Int)) none).length = t.length - k := by rw [← len_of, e, List.length_drop, len_of]
  unfold Txt.startswith
  rw [StrLaws.subAt_eq, e, List.drop_zero, le, len_of]
  rw [decide_eq_true (by omega), Bool.true_and]
  exact Bool.eq_iff_iff.mpr ⟨fun z => decide_eq_true (eq_of_beq z), fun z => beq_iff_eq.mpr (of_decide_eq_true z)⟩
theorem ok_bordered {f : Addr} {fd : FuncData} (F : Fun K "is_bordered" "is_bordered" sBordered f fd) (T : TM mg) : FnOk P w K mg base CX0 1 f fd ["text"] (spJ bordB) := by
  refine F.ok scBordered (fun vs H Q E h => ?_) (fun cdv A outer s H vs Q E hr h => ?_)
  · obtain ⟨t, rfl, _⟩ := h
    rfl
  · obtain ⟨t, rfl, sz, k⟩ := h
    have nd := scBordered.nd
    refine ⟨_, (pss_one (ps_ret (pe_callB (cr_any rfl) (by rfl) T.any (by decide +kernel) (pa_cons (pe_lc (own := [("size", 1)]) (g := gName 1) (tt := tYes) (by rfl) nd (pi_range2 (by rfl) T.range (pa_cons pe_int (pa_cons (pe_callB call_len_str (by rfl) T.len PySem.boot_len (pa_cons (pv 0) pa_nil)) pa_nil))) (blkOk_by (own := [("size", 1)]) (N := nBordered) (sc := defScope sBordered) (by decide +kernel)) (fun _ _ _ _ _ => pg_name (i := 1) nd rfl (Or.inl rfl)) (fun _ _ _ _ _ => pts_nil) (fun _ _ _ _ _ => (pe_bmK (r := rStarts) K rfl PySem.F.plainAttrs_str PySem.F.slot_str_startswith PySem.F.type_str_startswith mt_startswith (pv 0) (pa_cons (pe_slice sl_str (pv 0) (po_some (pv 1)) po_none) pa_nil)))) pa_nil)))), ?_⟩
    have hn : t.length ≤ sizeLine := Nat.le_trans sz (by decide)
    refine ⟨_, rfl, t, rfl, hn, 1, _, rfl, ⟨by omega, by omega, by omega, by omega⟩, fun D hD => lc_range (lo := 1) (n := ((t.length : Int) - 1).toNat) (BlS (fun i => decide (t.cps.toList.take (t.cps.toList.length - (1 + i)) = t.cps.toList.drop (1 + i))) H D) (BlS.zero (Same.refl _) hD) ?_ ?_⟩
    · intro i H2 hi hB
      refine ⟨rfl, ?_⟩
      refine ⟨_, rfl, rfl, _, rfl, _, rfl, _, rfl, t, rfl, hn, t, _, rfl, rfl, ?_⟩
      refine hB.put (Same.refl _) hD (by omega) _ ?_
      rw [show (1 : Int) + (i : Int) = ((1 + i : Nat) : Int) by omega]
      exact starts_cut t (1 + i) (by omega)
    · rintro H2 ⟨s2, hD2⟩
      refine ⟨D, _, rfl, SqL.of hD2, ?_⟩
      rw [any_blL]
      have e : ((t.length : Int) - 1).toNat = t.cps.toList.length - 1 := by rw [len_of]; omega
      rw [e]
      exact k H2 s2
end
end Mk

set_option Elab.async false
set_option linter.unusedVariables false
set_option maxRecDepth 100000
set_option maxHeartbeats 4000000
namespace Mk
open PySem L2 Pk
section
variable {P : Program} {w : World} {K : PySem.W.Frag} {mg : PySem.Str → Option Value} {base : Heap}
/-! has_mirrored_start -/
def mstB (l : List Nat) : Bool := (List.range (l.length - 1)).any fun i => pal (l.take (2 + i))
abbrev nMst : List PySem.Str := ["text", "size"]
theorem scMst : FnScope nMst ["text"] (defScope sMirStart) := ⟨rfl, rfl, rfl, by decide +kernel, rfl, by decide +kernel, by decide +kernel⟩
theorem ok_mst {f : Addr} {fd : FuncData} (F : Fun K "has_mirrored_start" "has_mirrored_start" sMirStart f fd) (T : TM mg) (GM : Got P w K mg base "is_mirrored" 1 ["text"] spMir) : FnOk P w K mg base CX0 2 f fd ["text"] (spJ mstB) := by
  refine F.ok scMst (fun vs H Q E h => ?_) (fun cdv A outer s H vs Q E hr h => ?_)
  · obtain ⟨t, rfl, _⟩ := h
    rfl
  · obtain ⟨t, rfl, sz, k⟩ := h
    have nd := scMst.nd
    have h1 := hr
    refine ⟨_, (pss_one (ps_ret (pe_callB (cr_any rfl) (by rfl) T.any (by decide +kernel) (pa_cons (pe_lc (own := [("size", 1)]) (g := gName 1) (tt := tYes) (by rfl) nd (pi_range2 (by rfl) T.range (pa_cons pe_int (pa_cons (pe_op op_add (pe_callB call_len_str (by rfl) T.len PySem.boot_len (pa_cons (pv 0) pa_nil)) pe_int) pa_nil))) (blkOk_by (own := [("size", 1)]) (N := nMst) (sc := defScope sMirStart) (by decide +kernel)) (fun _ _ _ _ _ => pg_name (i := 1) nd rfl (Or.inl rfl)) (fun _ _ _ _ _ => pts_nil) (fun _ _ _ _ _ => (pe_got GM h1 (by rfl) (pa_cons (pe_slice sl_str (pv 0) po_none (po_some (pv 1))) pa_nil)))) pa_nil)))), ?_⟩
    have hn : t.length ≤ sizeLine := Nat.le_trans sz (by decide)
    refine ⟨_, rfl, t, rfl, hn, _, _, rfl, rfl, 2, _, rfl, ⟨by omega, by omega, by omega, by omega⟩, fun D hD => lc_range (lo := 2) (n := ((t.length : Int) + 1 - 2).toNat) (BlS (fun i => pal (t.cps.toList.take (2 + i))) H D) (BlS.zero (Same.refl _) hD) ?_ ?_⟩
    · intro i H2 hi hB
      refine ⟨rfl, ?_⟩
      refine ⟨_, rfl, _, rfl, _, rfl, t, rfl, hn, _, rfl, Nat.le_trans (cut_le ..) (Nat.le_trans sz (by decide)), ?_⟩
      refine hB.put (Same.refl _) hD (by omega) _ ?_
      rw [mir_pal, show (2 : Int) + (i : Int) = ((2 + i : Nat) : Int) by omega, cut_to, Nat.min_eq_left (by omega)]
    · rintro H2 ⟨s2, hD2⟩
      refine ⟨D, _, rfl, SqL.of hD2, ?_⟩
      rw [any_blL]
      have e : ((t.length : Int) + 1 - 2).toNat = t.cps.toList.length - 1 := by rw [len_of]; omega
      rw [e]
      exact k H2 s2
/-! is_two_mirrors -/
def twoB (l : List Nat) : Bool := (List.range (l.length - 1)).any fun i => pal (l.take (1 + i)) && pal (l.drop (1 + i))
theorem scTwo : FnScope nMst ["text"] (defScope sTwoMir) := ⟨rfl, rfl, rfl, by decide +kernel, rfl, by decide +kernel, by decide +kernel⟩
theorem ok_two {f : Addr} {fd : FuncData} (F : Fun K "is_two_mirrors" "is_two_mirrors" sTwoMir f fd) (T : TM mg) (GM : Got P w K mg base "is_mirrored" 1 ["text"] spMir) : FnOk P w K mg base CX0 2 f fd ["text"] (spJ twoB) := by
  refine F.ok scTwo (fun vs H Q E h => ?_) (fun cdv A outer s H vs Q E hr h => ?_)
  · obtain ⟨t, rfl, _⟩ := h
    rfl
  · obtain ⟨t, rfl, sz, k⟩ := h
    have nd := scTwo.nd
    have h1 := hr
    refine ⟨_, (pss_one (ps_ret (pe_callB (cr_any rfl) (by rfl) T.any (by decide +kernel) (pa_cons (pe_lc (own := [("size", 1)]) (g := gName 1) (tt := tYes) (by rfl) nd (pi_range2 (by rfl) T.range (pa_cons pe_int (pa_cons (pe_callB call_len_str (by rfl) T.len PySem.boot_len (pa_cons (pv 0) pa_nil)) pa_nil))) (blkOk_by (own := [("size", 1)]) (N := nMst) (sc := defScope sTwoMir) (by decide +kernel)) (fun _ _ _ _ _ => pg_name (i := 1) nd rfl (Or.inl rfl)) (fun _ _ _ _ _ => pts_nil) (fun _ _ _ _ _ => (pe_and (pe_got GM h1 (by rfl) (pa_cons (pe_slice sl_str (pv 0) po_none (po_some (pv 1))) pa_nil)) (pe_one (pe_got GM h1 (by rfl) (pa_cons (pe_slice sl_str (pv 0) (po_some (pv 1)) po_none) pa_nil)))))) pa_nil)))), ?_⟩
    have hn : t.length ≤ sizeLine := Nat.le_trans sz (by decide)
    refine ⟨_, rfl, t, rfl, hn, 1, _, rfl, ⟨by omega, by omega, by omega, by omega⟩, fun D hD => lc_range (lo := 1) (n := ((t.length : Int) - 1).toNat) (BlS (fun i => pal (t.cps.toList.take (1 + i)) && pal (t.cps.toList.drop (1 + i))) H D) (BlS.zero (Same.refl _) hD) ?_ ?_⟩
    · intro i H2 hi hB
      have e1 : mirB (cutS t none (some ((1 : Int) + (i : Int)))) = pal (t.cps.toList.take (1 + i)) := by
        rw [mir_pal, show (1 : Int) + (i : Int) = ((1 + i : Nat) : Int) by omega, cut_to, Nat.min_eq_left (by omega)]
      have e2 : mirB (cutS t (some ((1 : Int) + (i : Int))) none) = pal (t.cps.toList.drop (1 + i)) := by
        rw [mir_pal, show (1 : Int) + (i : Int) = ((1 + i : Nat) : Int) by omega, cut_from, Nat.min_eq_left (by omega)]
      refine ⟨rfl, ?_⟩
      refine ⟨_, rfl, _, rfl, _, rfl, t, rfl, hn, _, rfl, Nat.le_trans (cut_le ..) (Nat.le_trans sz (by decide)), _, rfl, ?_⟩
      rw [e1]
      refine ite2 (fun c => ?_) (fun c => ?_)
      · refine ⟨_, rfl, _, rfl, _, rfl, t, rfl, hn, _, rfl, Nat.le_trans (cut_le ..) (Nat.le_trans sz (by decide)), ?_⟩
        refine hB.put (Same.refl _) hD (by omega) _ ?_
        rw [e2, c, Bool.true_and]
      · refine hB.put (Same.refl _) hD (by omega) _ ?_
        rw [Bool.eq_false_iff.mpr c, Bool.false_and]
    · rintro H2 ⟨s2, hD2⟩
      refine ⟨D, _, rfl, SqL.of hD2, ?_⟩
      rw [any_blL]
      have e : ((t.length : Int) - 1).toNat = t.cps.toList.length - 1 := by rw [len_of]; omega
      rw [e]
      exact k H2 s2
end
end Mk

set_option Elab.async false
set_option linter.unusedVariables false
set_option maxRecDepth 100000
set_option maxHeartbeats 4000000
namespace Mk
open PySem L2 Pk
/-- brackets a and b: how many stand open, none at the first below zero -/
def balGo : Int → List Nat → Option Int
  | d, [] => some d
  | d, c :: r => if (if c = 97 then d + 1 else if c = 98 then d - 1 else d) < 0 then none else balGo (if c = 97 then d + 1 else if c = 98 then d - 1 else d) r
def balB (l : List Nat) : Bool := decide (balGo 0 l = some 0)
theorem sgn_a (c : Nat) : decide (V.str ⟨#[c]⟩ = V.str (PySem.Str.ofString "a")) = decide (c = 97) := by
  have e : PySem.Str.ofString "a" = ⟨#[97]⟩ := by decide +kernel
  rw [e]
  exact decide_eq_decide.mpr ⟨fun z => by simpa using z, fun z => by rw [z]⟩
theorem sgn_b (c : Nat) : decide (V.str ⟨#[c]⟩ = V.str (PySem.Str.ofString "b")) = decide (c = 98) := by
  have e : PySem.Str.ofString "b" = ⟨#[98]⟩ := by decide +kernel
  rw [e]
  exact decide_eq_decide.mpr ⟨fun z => by simpa using z, fun z => by rw [z]⟩
section
variable {P : Program} {w : World} {K : PySem.W.Frag} {mg : PySem.Str → Option Value} {base : Heap}
abbrev nBal : List PySem.Str := ["text", "opened", "letter"]
theorem scBal : FnScope nBal ["text"] (defScope sBalanced) := ⟨rfl, rfl, rfl, by decide +kernel, rfl, by decide +kernel, by decide +kernel⟩
theorem ok_bal {f : Addr} {fd : FuncData} (F : Fun K "is_balanced" "is_balanced" sBalanced f fd) (T : TM mg) : FnOk P w K mg base CX0 1 f fd ["text"] (spJ balB) := by
  refine F.ok scBal (fun vs H Q E h => ?_) (fun cdv A outer s H vs Q E hr h => ?_)
  · obtain ⟨t, rfl, _⟩ := h
    rfl
  · obtain ⟨t, rfl, sz, k⟩ := h
    have nd := scBal.nd
    refine ⟨_, (pss_cons (ps_set (i := 1) nd rfl (Or.inl rfl) pe_int)
      (pss_cons (ps_for PassesOwn.never rfl (pi_str (pv 0)) (pg_name (i := 2) nd rfl (Or.inl rfl))
        (C8.pss_cut (ps_if (pt_cmpR op_eq (pv 2) pe_str (nomark _))
          (pss_one (ps_aug (i := 1) nd rfl (Or.inl rfl) pe_int ip_add))
          (pss_one (ps_if (pt_cmpR op_eq (pv 2) pe_str (nomark _))
            (pss_one (ps_aug (i := 1) nd rfl (Or.inl rfl) pe_int ip_sub))
            pss_nil)))
        (pss_one (ps_if (pt_cmpR op_lt (pv 1) pe_int (nomark _))
          (pss_one (ps_ret pe_bl))
          pss_nil))))
      (pss_one (ps_ret (pe_cmpR op_eq (pv 1) pe_int (nomark _)))))), ?_⟩
    refine ⟨_, rfl, t, rfl, for_it walk_str (fun j σ H' => H' = H ∧ ∃ (d : Int) (v : Option V), σ = [some (.str t), some (.int d), v] ∧ balGo 0 t.cps.toList = balGo d (t.cps.toList.drop j))
      ⟨rfl, 0, none, rfl, rfl⟩ (fun _ _ _ _ _ => trivial) ?_ ?_⟩
    · rintro j v σ H1 H2 hj ⟨rfl, d, v5, rfl, hd⟩ ⟨rfl, c, hc, rfl⟩
      have ec : t.cps.toList.drop j = c :: t.cps.toList.drop (j + 1) := by
        have h1 : j < t.cps.toList.length := by rw [Array.length_toList]; exact hj
        have h2 : t.cps.toList[j] = c := by
          have := hc
          rw [← Array.getElem?_toList, List.getElem?_eq_getElem h1] at this
          exact Option.some.inj this
        rw [List.drop_eq_getElem_cons h1, h2]
      rw [ec] at hd
      obtain ⟨d', ed⟩ : ∃ d', d' = (if c = 97 then d + 1 else if c = 98 then d - 1 else d) := ⟨_, rfl⟩
      have hd : balGo 0 t.cps.toList = if d' < 0 then none else balGo d' (t.cps.toList.drop (j + 1)) := by rw [hd, ed]; rfl
      dsimp only [gName]
      refine ⟨fun σ' H' => σ' = [some (.str t), some (.int d'), some (.str ⟨#[c]⟩)] ∧ H' = H2, ?_, ?_⟩
      · refine ⟨_, rfl, rfl, ?_⟩
        rw [sgn_a]
        refine ⟨_, rfl, ite2 (fun z => ?_) (fun z => ?_)⟩
        · exact ⟨_, rfl, _, _, rfl, rfl, by rw [ed, if_pos (of_decide_eq_true z)] <;> rfl, rfl⟩
        · have z : ¬ c = 97 := fun y => z (decide_eq_true y)
          refine ⟨_, rfl, rfl, ?_⟩
          rw [sgn_b]
          refine ⟨_, rfl, ite2 (fun y => ?_) (fun y => ?_)⟩
          · exact ⟨_, rfl, _, _, rfl, rfl, by rw [ed, if_neg z, if_pos (of_decide_eq_true y)] <;> rfl, rfl⟩
          · exact ⟨by rw [ed, if_neg z, if_neg fun x => y (decide_eq_true x)] <;> rfl, rfl⟩
      · rintro σ' H' ⟨rfl, rfl⟩
        refine ⟨_, rfl, _, _, rfl, rfl, _, rfl, ite2 (fun z => ?_) (fun z => ?_)⟩
        · rw [if_pos (of_decide_eq_true z)] at hd
          have k1 := k _ (Same.refl _)
          rw [show balB t.cps.toList = false from decide_eq_false (by rw [hd]; exact nofun)] at k1
          exact k1
        · rw [if_neg fun x => z (decide_eq_true x)] at hd
          exact ⟨rfl, d', _, rfl, hd⟩
    · rintro σ H1 ⟨rfl, d, v, rfl, hd⟩
      have el : t.cps.toList.drop t.cps.size = [] := List.drop_of_length_le (by rw [Array.length_toList]; exact Nat.le_refl _)
      rw [el] at hd
      have k1 := k _ (Same.refl _)
      rw [show balB t.cps.toList = decide (V.int d = V.int 0) from decide_eq_decide.mpr ⟨fun z => by rw [hd] at z; exact congrArg V.int (Option.some.inj z), fun z => by rw [hd, V.int.inj z]; rfl⟩] at k1
      exact ⟨_, rfl, rfl, k1⟩
/-! is_power -/
def powB (l : List Nat) : Bool := decide (l.length ∈ [1, 2, 4, 8, 16, 32, 64, 128, 256])
abbrev nPow : List PySem.Str := ["text", "power"]
theorem scPow : FnScope nPow ["text"] (defScope sPower) := ⟨rfl, rfl, rfl, by decide +kernel, rfl, by decide +kernel, by decide +kernel⟩
theorem pow_end {n k : Nat} (h : n ≤ 400) (k9 : k ≤ 9) (hk : k = 0 ∨ 2 ^ (k - 1) < n) (h2 : n ≤ 2 ^ k) : decide (n ∈ [1, 2, 4, 8, 16, 32, 64, 128, 256]) = decide (V.int ((2 ^ k : Nat) : Int) = V.int (n : Int)) := by
  refine decide_eq_decide.mpr ⟨fun z => congrArg V.int ?_, fun z => ?_⟩
  · have : (2 ^ k : Nat) = n := by
      simp only [List.mem_cons, List.not_mem_nil, or_false] at z
      match k, k9 with
      | 0, _ => omega
      | 1, _ => omega
      | 2, _ => omega
      | 3, _ => omega
      | 4, _ => omega
      | 5, _ => omega
      | 6, _ => omega
      | 7, _ => omega
      | 8, _ => omega
      | 9, _ => omega
    rw [this]
  · have z : (2 ^ k : Nat) = n := by
      have := V.int.inj z
      exact Int.ofNat.inj this
    simp only [List.mem_cons, List.not_mem_nil, or_false]
    match k, k9 with
    | 0, _ => omega
    | 1, _ => omega
    | 2, _ => omega
    | 3, _ => omega
    | 4, _ => omega
    | 5, _ => omega
    | 6, _ => omega
    | 7, _ => omega
    | 8, _ => omega
    | 9, _ => omega
theorem ok_pow {f : Addr} {fd : FuncData} (F : Fun K "is_power" "is_power" sPower f fd) (T : TM mg) : FnOk P w K mg base CX0 1 f fd ["text"] (spJ powB) := by
  refine F.ok scPow (fun vs H Q E h => ?_) (fun cdv A outer s H vs Q E hr h => ?_)
  · obtain ⟨t, rfl, _⟩ := h
    rfl
  · obtain ⟨t, rfl, sz, k⟩ := h
    have nd := scPow.nd
    have hn : t.length ≤ sizeLine := Nat.le_trans sz (by decide)
    refine ⟨_, (pss_cons (ps_set (i := 1) nd rfl (Or.inl rfl) pe_int)
      (pss_cons (ps_while PassesOwn.never (pt_cmpR op_lt (pv 1) (pe_callB call_len_str (by rfl) T.len PySem.boot_len (pa_cons (pv 0) pa_nil)) (nomark _))
        (pss_one (ps_set (i := 1) nd rfl (Or.inl rfl) (pe_op op_mul (pv 1) pe_int))))
      (pss_one (ps_ret (pe_cmpR op_eq (pv 1) (pe_callB call_len_str (by rfl) T.len PySem.boot_len (pa_cons (pv 0) pa_nil)) (nomark _)))))), ?_⟩
    refine ⟨fun m σ H' => H' = H ∧ ∃ j : Nat, m + j = 9 ∧ σ = [some (.str t), some (.int ((2 ^ j : Nat) : Int))] ∧ (j = 0 ∨ 2 ^ (j - 1) < t.length), ⟨9, rfl, 0, rfl, rfl, .inl rfl⟩, ?_⟩
    rintro m σ H1 ⟨rfl, j, ej, rfl, hj⟩
    refine ⟨_, rfl, _, rfl, t, rfl, hn, _, _, rfl, rfl, _, rfl, ite2 (fun c => ?_) (fun c => ?_)⟩
    · have c : 2 ^ j < t.length := by
        have := of_decide_eq_true c
        omega
      have j9 : j < 9 := by
        rcases Nat.lt_or_ge j 9 with h | h
        · exact h
        · have := Nat.pow_le_pow_right (show 0 < 2 by decide) h
          have e : (2 : Nat) ^ 9 = 512 := by decide
          omega
      refine ⟨fun σ' H' => H' = H1 ∧ σ' = [some (.str t), some (.int ((2 ^ (j + 1) : Nat) : Int))], ?_, ?_⟩
      · rintro σ' H' ⟨rfl, rfl⟩
        exact ⟨m - 1, by omega, rfl, j + 1, by omega, rfl, .inr c⟩
      · refine ⟨_, rfl, _, _, rfl, rfl, .inr (by decide), rfl, ?_⟩
        rw [show ((2 ^ (j + 1) : Nat) : Int) = ((2 ^ j : Nat) : Int) * 2 by rw [Nat.pow_succ]; exact Int.natCast_mul ..]
        rfl
    · have c : ¬ 2 ^ j < t.length := fun z => c (decide_eq_true (by omega))
      refine ⟨_, rfl, _, rfl, t, rfl, hn, rfl, ?_⟩
      have k1 := k _ (Same.refl _)
      rw [show powB t.cps.toList = decide (V.int ((2 ^ j : Nat) : Int) = V.int (t.length : Int)) by unfold powB; rw [len_of]; exact pow_end sz (by omega) hj (by omega)] at k1
      exact k1
end
end Mk

set_option Elab.async false
set_option linter.unusedVariables false
set_option maxRecDepth 100000
set_option maxHeartbeats 4000000
namespace Mk
open PySem L2 Pk
/-- ends of texts of even mirrors, up to 2 k -/
def evL (l : List Nat) : Nat → List Nat
  | 0 => [0]
  | k + 1 => if (evL l k).any (fun b => pal ((l.drop b).take (2 * (k + 1) - b))) = true then evL l k ++ [2 * (k + 1)] else evL l k
def evB (l : List Nat) : Bool := decide (l.length ∈ evL l (l.length / 2))
theorem evL_le (l : List Nat) : ∀ k, ∀ b ∈ evL l k, b ≤ 2 * k ∧ b % 2 = 0
  | 0, b, m => by
    rw [show evL l 0 = [0] from rfl, List.mem_singleton] at m
    subst m
    exact ⟨Nat.le_refl _, rfl⟩
  | k + 1, b, m => by
    have m : b ∈ if (evL l k).any (fun b => pal ((l.drop b).take (2 * (k + 1) - b))) = true then evL l k ++ [2 * (k + 1)] else evL l k := m
    split at m
    · rcases List.mem_append.mp m with h | h
      · have := evL_le l k b h
        omega
      · rw [List.mem_singleton] at h
        omega
    · have := evL_le l k b m
      omega
theorem evL_len (l : List Nat) : ∀ k, (evL l k).length ≤ k + 1
  | 0 => Nat.le_refl _
  | k + 1 => by
    show (if (evL l k).any (fun b => pal ((l.drop b).take (2 * (k + 1) - b))) = true then evL l k ++ [2 * (k + 1)] else evL l k).length ≤ _
    have := evL_len l k
    split
    · rw [List.length_append]
      show _ + 1 ≤ _
      omega
    · omega
/-- the dict of the ends -/
def evD (E : List Nat) : List (Key × V) := E.map fun b : Nat => (.inl (b : Int), .bl true)
theorem evD_val (E : List Nat) (n : Nat) : (valV (evD E) (.inl (n : Int) : Key)).isSome = decide (n ∈ E) := by
  rw [← valV_any]
  unfold evD
  rw [List.any_map]
  by_cases h : n ∈ E
  · rw [decide_eq_true h]
    exact List.any_eq_true.mpr ⟨n, h, decide_eq_true rfl⟩
  · rw [decide_eq_false h]
    refine Bool.eq_false_iff.mpr fun z => ?_
    obtain ⟨b, mb, eb⟩ := List.any_eq_true.mp z
    have e : (Sum.inl (b : Int) : Key) = .inl (n : Int) := of_decide_eq_true eb
    have e := Sum.inl.inj e
    have e : b = n := by omega
    exact h (e ▸ mb)
theorem evD_put {E : List Nat} {n : Nat} (h : ¬ n ∈ E) : putK (evD E) (.inl (n : Int)) (.bl true) = evD (E ++ [n]) := by
  have e : valV (evD E) (.inl (n : Int) : Key) = none := by
    have := evD_val E n
    rw [decide_eq_false h] at this
    exact Option.not_isSome_iff_eq_none.mp (by rw [this]; exact Bool.false_ne_true)
  rw [putK_new _ e]
  unfold evD
  rw [List.map_append]
  rfl
theorem rgc_ev : ∀ n : Nat, n < 401 → Builtin.Range.small 2 ((n : Int) + 1) 2 = true ∧ Builtin.Range.rangeSize 2 ((n : Int) + 1) 2 = ((n / 2 : Nat) : Int) := by decide +kernel
/-- bools of a list -/
def blM {α : Type} (f : α → Bool) (l : List α) : List V := (l.map f).map V.bl
section
variable {P : Program} {w : World} {K : PySem.W.Frag} {mg : PySem.Str → Option Value} {base : Heap}
abbrev nEv : List PySem.Str := ["text", "ends", "end", "begin"]
theorem scEv : FnScope nEv ["text"] (defScope sEvenMir) := ⟨rfl, rfl, rfl, by decide +kernel, rfl, by decide +kernel, by decide +kernel⟩
theorem ok_ev {f : Addr} {fd : FuncData} (F : Fun K "is_even_mirrors" "is_even_mirrors" sEvenMir f fd) (T : TM mg) (GM : Got P w K mg base "is_mirrored" 1 ["text"] spMir) : FnOk P w K mg base CX0 2 f fd ["text"] (spJ evB) := by
  refine F.ok scEv (fun vs H Q E h => ?_) (fun cdv A outer s H vs Q E hr h => ?_)
  · obtain ⟨t, rfl, _⟩ := h
    rfl
  · obtain ⟨t, rfl, sz, k⟩ := h
    have nd := scEv.nd
    have h1 := hr
    have hu := hu_of hr
    have hn : t.length ≤ sizeLine := Nat.le_trans sz (by decide)
    refine ⟨_, (pss_cons (ps_set (i := 1) nd rfl (Or.inl rfl) (pe_disp (pps_cons pe_int pe_bl pps_nil) rfl rfl (List.cons_ne_nil _ _) (by decide)))
      (pss_cons (ps_for PassesOwn.never rfl (pi_range3 (by rfl) T.range (pa_cons pe_int (pa_cons (pe_op op_add (pe_callB call_len_str (by rfl) T.len PySem.boot_len (pa_cons (pv 0) pa_nil)) pe_int) (pa_cons pe_int pa_nil)))) (pg_name (i := 2) nd rfl (Or.inr rfl))
        (pss_one (ps_if (pt_val (pe_lock (pe_callB (cr_any rfl) (by rfl) T.any (by decide +kernel) (pa_cons (pe_lc (own := [("begin", 3)]) (g := gName 3) (tt := tYes) (by rfl) nd (pi_keys (pv 1)) (blkOk_by (own := [("begin", 3)]) (N := nEv) (sc := defScope sEvenMir) (by decide +kernel)) (fun _ _ _ _ _ => pg_name (i := 3) nd rfl (Or.inl rfl)) (fun _ _ _ _ _ => pts_nil) (fun _ _ _ _ _ => (pe_got GM h1 (by rfl) (pa_cons (pe_slice sl_str (pv 0) (po_some (pv 3)) (po_some (pv 2))) pa_nil)))) pa_nil))))
          (pss_one (ps_dput hu (pv 1) (pv 2) pe_bl rfl))
          pss_nil)))
      (pss_one (ps_ret (pe_cmp (pc_din hu (pe_callB call_len_str (by rfl) T.len PySem.boot_len (pa_cons (pv 0) pa_nil)) (pv 1)) rfl))))), ?_⟩
    intro p hp
    refine ⟨upd_same, [(.inl 0, .bl true)], rfl, by decide, ?_⟩
    rw [upd_upd, show mergeK [] [((Sum.inl 0 : Key), V.bl true)] = evD (evL t.cps.toList 0) from rfl]
    have s1 := same_new (o := HO.dK (evD (evL t.cps.toList 0))) hp
    dsimp only [gName]
    obtain ⟨r1, r2⟩ := rgc_ev t.length (by omega)
    refine ⟨_, rfl, t, rfl, hn, _, _, rfl, rfl, 2, _, 2, t.length / 2, rfl, ⟨by decide, by decide, r1, r2⟩, for_rangeC (lo := 2) (c := 2) (n := t.length / 2) (fun i σ H' => Same H H' ∧ H' p = some (.dK (evD (evL t.cps.toList i))) ∧ ∃ v2 : Option V, σ = [some (.str t), some (.ref p), v2, none])
      ⟨s1, upd_same, none, rfl⟩ ?_ ?_⟩
    · rintro i σ H1 hi ⟨sa, hp1, v2, rfl⟩
      refine ⟨p, _, hp1, trivial, fun od => ?_⟩
      obtain ⟨E, eE⟩ : ∃ E, E = evL t.cps.toList i := ⟨_, rfl⟩
      obtain ⟨f, ef⟩ : ∃ f : Nat → Bool, f = fun b => pal ((t.cps.toList.drop b).take (2 * (i + 1) - b)) := ⟨_, rfl⟩
      have eS : evL t.cps.toList (i + 1) = if E.any f = true then E ++ [2 * (i + 1)] else E := by rw [eE, ef] <;> rfl
      have lE : E.length ≤ 401 := by have := evL_len t.cps.toList i; rw [eE]; omega
      have hE : ∀ b ∈ E, b ≤ 2 * i ∧ b % 2 = 0 := by rw [eE]; exact evL_le _ i
      rw [← eE] at hp1 ⊢
      refine ⟨_, rfl, p, od, rfl, .inl ⟨_, upd_same, fun L hL => ?_⟩⟩
      have LD : L ≠ p := fun e => by rw [e, upd_same] at hL; cases hL
      have hL1 : H1 L = none := by rw [upd_ne LD] at hL; exact hL
      have hL0 : H L = none := free_of sa hL1
      have lD : (evD E).length = E.length := List.length_map ..
      refine lc_it walk_keys (fun j H' => H' = upd (upd H1 p (.frz od (.dK (evD E)))) L (.lst (((E.take j).map f).map V.bl))) rfl ?_ ?_ ?_
      · rintro j H' _ rfl
        rw [upd_ne LD.symm, upd_same]
      · rintro j y H3 H4 hj rfl ⟨rfl, c, u, e, rfl⟩
        obtain ⟨b, eb, rfl⟩ : ∃ b : Nat, E[j]? = some b ∧ c = .inl (b : Int) := by
          unfold evD at e
          rw [List.getElem?_map] at e
          obtain ⟨b, e1, e2⟩ := Option.map_eq_some_iff.mp e
          exact ⟨b, e1, (congrArg Prod.fst e2).symm⟩
        have hb := hE b (List.mem_of_getElem? eb)
        refine ⟨rfl, ?_⟩
        refine ⟨_, rfl, _, rfl, _, rfl, _, rfl, _, rfl, t, rfl, hn, _, rfl, Nat.le_trans (cut_le ..) (Nat.le_trans sz (by decide)), ?_⟩
        refine ⟨_, upd_same, ?_, ?_⟩
        · rw [List.length_map, List.length_map, List.length_take]
          exact Nat.lt_of_le_of_lt (Nat.le_trans (Nat.min_le_right _ _) lE) (by decide)
        · have ev : mirB (cutS t (some (b : Int)) (some ((2 : Int) + (i : Int) * 2))) = f b := by
            rw [mir_pal, show (2 : Int) + (i : Int) * 2 = ((2 * (i + 1) : Nat) : Int) by omega, cut_mid, Nat.min_eq_left (by omega), Nat.min_eq_left (by omega), ef]
          rw [upd_upd, take_succ_of eb, List.map_append, List.map_append]
          show upd _ _ (HO.lst (_ ++ [V.bl (mirB (cutS t (some (b : Int)) (some ((2 : Int) + (i : Int) * 2))))])) = _
          rw [ev]
          rfl
      · rintro H3 rfl
        rw [lD, List.take_length]
        refine ⟨L, _, rfl, SqL.of upd_same, by rw [upd_ne LD.symm, upd_same], ?_⟩
        rw [show (E.map f).any id = E.any f by rw [List.any_map] <;> rfl]
        have sN : Same H (upd (upd (upd H1 p (.frz od (.dK (evD E)))) L (.lst ((E.map f).map V.bl))) p (.dK (evD E))) := same_mut (same_mut (same_mut sa hp) hL0) hp
        refine ⟨_, rfl, ite2 (fun c => ?_) (fun c => ?_)⟩
        · have nE : ¬ 2 * (i + 1) ∈ E := fun m => by have := hE _ m; omega
          refine ⟨_, rfl, _, rfl, p, _, rfl, DPut.k (k := .inl ((2 : Int) + (i : Int) * 2)) upd_same ?_, ?_⟩
          · rw [lD]
            exact Nat.lt_of_le_of_lt lE (by decide)
          · rw [eS, if_pos c, show ((Sum.inl ((2 : Int) + (i : Int) * 2)) : Key) = .inl ((2 * (i + 1) : Nat) : Int) from congrArg Sum.inl (by omega), evD_put nE]
            exact ⟨same_mut sN hp, upd_same, _, rfl⟩
        · rw [eS, if_neg c]
          exact ⟨sN, upd_same, _, rfl⟩
    · rintro σ H1 ⟨sa, hp1, v2, rfl⟩
      have k1 := k _ sa
      refine ⟨_, rfl, t, rfl, hn, _, rfl, p, _, rfl, DGet.k (k := .inl (t.length : Int)) hp1, ?_⟩
      rw [evD_val]
      unfold evB at k1
      rw [len_of] at k1
      exact k1
end
end Mk

set_option Elab.async false
set_option linter.unusedVariables false
set_option maxRecDepth 100000
set_option maxHeartbeats 4000000
namespace Mk
open PySem L2 Pk
/-! how often one letter stands in a text, and where first -/
theorem at_one (t : PySem.Str) (c k : Nat) : StrLaws.At t ⟨#[c]⟩ t.length k ↔ t.cps.toList[k]? = some c := by
  have e1 : (⟨#[c]⟩ : PySem.Str).length = 1 := rfl
  unfold StrLaws.At
  rw [StrLaws.subAt_eq, e1]
  have e2 : (⟨#[c]⟩ : PySem.Str).cps.toList = [c] := rfl
  rw [e2]
  rw [List.take_one, List.head?_drop]
  constructor
  · rintro ⟨_, h⟩
    have h := eq_of_beq h
    cases e : t.cps.toList[k]? with
    | none => rw [e] at h; cases h
    | some d =>
      rw [e] at h
      exact congrArg some (List.cons.inj h).1
  · intro h
    have hk := (List.getElem?_eq_some_iff.mp h).1
    rw [len_of] at hk
    rw [h]
    exact ⟨hk, beq_iff_eq.mpr rfl⟩
theorem chain_count (t : PySem.Str) (c : Nat) : ∀ (cuts : List Nat) (a f : Nat), StrLaws.ChainG t ⟨#[c]⟩ t.length a cuts f → (∀ k, f ≤ k → ¬ StrLaws.At t ⟨#[c]⟩ t.length k) → (t.cps.toList.drop a).count c = cuts.length
  | [], a, f, h, hn => by
    have e : f = a := h
    subst e
    refine List.count_eq_zero.mpr fun m => ?_
    obtain ⟨i, hi⟩ := List.mem_iff_getElem?.mp m
    rw [List.getElem?_drop] at hi
    exact hn (f + i) (by omega) ((at_one t c _).mpr hi)
  | p :: r, a, f, h, hn => by
    obtain ⟨ap, hA, hno, hr⟩ := h
    have hr : StrLaws.ChainG t ⟨#[c]⟩ t.length (p + 1) r f := hr
    have ih := chain_count t c r (p + 1) f hr hn
    have hp := (at_one t c p).mp hA
    have e1 : t.cps.toList.drop a = (t.cps.toList.drop a).take (p - a) ++ t.cps.toList.drop p := by
      have := (List.take_append_drop (p - a) (t.cps.toList.drop a)).symm
      rw [List.drop_drop, show a + (p - a) = p by omega] at this
      exact this
    have hk := (List.getElem?_eq_some_iff.mp hp).1
    have e2 : t.cps.toList.drop p = c :: t.cps.toList.drop (p + 1) := by
      rw [List.drop_eq_getElem_cons hk]
      congr 1
      exact (List.getElem?_eq_some_iff.mp hp).2
    have z : ((t.cps.toList.drop a).take (p - a)).count c = 0 := by
      refine List.count_eq_zero.mpr fun m => ?_
      obtain ⟨i, hi⟩ := List.mem_iff_getElem?.mp m
      rw [List.getElem?_take] at hi
      split at hi
      · rw [List.getElem?_drop] at hi
        exact hno (a + i) (by omega) (by omega) ((at_one t c _).mpr hi)
      · cases hi
    rw [e1, List.count_append, z, e2, List.count_cons_self, ih, List.length_cons]
    omega
theorem count_one (t : PySem.Str) (c : Nat) : Txt.count t ⟨#[c]⟩ = ((t.cps.toList.count c : Nat) : Int) := by
  obtain ⟨f, h1, h2⟩ := StrLaws.occ_tight t ⟨#[c]⟩ (Nat.le_refl _)
  have := chain_count t c _ 0 f h1 h2
  rw [List.drop_zero] at this
  unfold Txt.count
  rw [this]
/-- before and behind the first c -/
def fore (l : List Nat) : List Nat := l.takeWhile (· != 99)
def aft (l : List Nat) : List Nat := (l.dropWhile (· != 99)).drop 1
theorem fore_no (l : List Nat) : 99 ∉ fore l := fun m => by
  have : ∀ l : List Nat, 99 ∉ l.takeWhile (· != 99) := fun l => by
    induction l with
    | nil => exact List.not_mem_nil
    | cons a r ih =>
      rw [List.takeWhile_cons]
      split
      · rename_i h
        intro m
        rcases List.mem_cons.mp m with h2 | h2
        · rw [← h2] at h
          exact absurd h (by decide)
        · exact ih h2
      · exact List.not_mem_nil
  exact this l m
theorem parted {l : List Nat} (h : 99 ∈ l) : l = fore l ++ 99 :: aft l := by
  unfold fore aft
  induction l with
  | nil => cases h
  | cons a r ih =>
    rw [List.takeWhile_cons, List.dropWhile_cons]
    by_cases e : a = 99
    · subst e
      rfl
    · have e1 : (a != 99) = true := bne_iff_ne.mpr e
      rw [if_pos e1, if_pos e1]
      have m : 99 ∈ r := (List.mem_cons.mp h).resolve_left fun z => e z.symm
      rw [List.cons_append, ← ih m]
theorem part_c {t : PySem.Str} (h : 99 ∈ t.cps.toList) : Txt.partition t (PySem.Str.ofString "c") = (⟨(fore t.cps.toList).toArray⟩, PySem.Str.ofString "c", ⟨(aft t.cps.toList).toArray⟩) := by
  have ec : PySem.Str.ofString "c" = ⟨#[99]⟩ := by decide +kernel
  have e : t = ⟨(fore t.cps.toList).toArray⟩ ++ (⟨#[99]⟩ : PySem.Str) ++ ⟨(aft t.cps.toList).toArray⟩ := by
    refine str_ext ?_
    show t.cps.toList = (((fore t.cps.toList).toArray ++ #[99]) ++ (aft t.cps.toList).toArray).toList
    rw [Array.toList_append, Array.toList_append, List.toList_toArray, List.toList_toArray, List.append_assoc]
    exact parted h
  rw [ec]
  conv => lhs; rw [e]
  exact TL.partition_app (s := 99) (S := []) rfl (by rw [show TL.tl ⟨(fore t.cps.toList).toArray⟩ = fore t.cps.toList from rfl]; exact fore_no _)
theorem count_c (t : PySem.Str) : Txt.count t (PySem.Str.ofString "c") = ((t.cps.toList.count 99 : Nat) : Int) := by
  rw [show PySem.Str.ofString "c" = ⟨#[99]⟩ by decide +kernel]
  exact count_one t 99
theorem count_a (t : PySem.Str) : Txt.count t (PySem.Str.ofString "a") = ((t.cps.toList.count 97 : Nat) : Int) := by
  rw [show PySem.Str.ofString "a" = ⟨#[97]⟩ by decide +kernel]
  exact count_one t 97
theorem count_b (t : PySem.Str) : Txt.count t (PySem.Str.ofString "b") = ((t.cps.toList.count 98 : Nat) : Int) := by
  rw [show PySem.Str.ofString "b" = ⟨#[98]⟩ by decide +kernel]
  exact count_one t 98
/-- w stands in l -/
def stands (w l : List Nat) : Bool := (List.range (l.length + 1 - w.length)).any fun k => decide ((l.drop k).take w.length = w)
theorem in_stands (x y : PySem.Str) : inB x y = stands x.cps.toList y.cps.toList := by
  refine Bool.eq_iff_iff.mpr ?_
  unfold inB
  rw [StrLaws.found_iff]
  unfold stands
  rw [List.any_eq_true]
  constructor
  · rintro ⟨i, h1, h2⟩
    refine ⟨i, List.mem_range.mpr (by rw [len_of, len_of]; omega), decide_eq_true ?_⟩
    rw [StrLaws.subAt_eq] at h2
    rw [len_of]
    exact eq_of_beq h2
  · rintro ⟨i, h1, h2⟩
    have h1 := List.mem_range.mp h1
    rw [len_of, len_of] at h1
    refine ⟨i, by omega, ?_⟩
    rw [StrLaws.subAt_eq]
    have h2 := of_decide_eq_true h2
    rw [len_of] at h2
    exact beq_iff_eq.mpr h2
def copB (l : List Nat) : Bool := decide (l.count 99 = 1) && decide (fore l = aft l)
def fouB (l : List Nat) : Bool := decide (l.count 99 = 1) && stands (fore l) (aft l)
theorem cop_eq (t : PySem.Str) : (decide (Txt.count t (PySem.Str.ofString "c") = 1) && decide ((Txt.partition t (PySem.Str.ofString "c")).1 = (Txt.partition t (PySem.Str.ofString "c")).2.2)) = copB t.cps.toList := by
  unfold copB
  rw [count_c]
  by_cases h : t.cps.toList.count 99 = 1
  · have m : 99 ∈ t.cps.toList := List.count_pos_iff.mp (by omega)
    rw [part_c m, decide_eq_true h, decide_eq_true (by omega)]
    congr 1
    exact decide_eq_decide.mpr ⟨fun z => by have := congrArg (fun x : PySem.Str => x.cps.toList) z; exact this, fun z => by rw [z]⟩
  · rw [decide_eq_false h, decide_eq_false (by omega)]
    rfl
theorem fou_eq (t : PySem.Str) : (decide (Txt.count t (PySem.Str.ofString "c") = 1) && inB (Txt.partition t (PySem.Str.ofString "c")).1 (Txt.partition t (PySem.Str.ofString "c")).2.2) = fouB t.cps.toList := by
  unfold fouB
  rw [count_c]
  by_cases h : t.cps.toList.count 99 = 1
  · have m : 99 ∈ t.cps.toList := List.count_pos_iff.mp (by omega)
    rw [part_c m, decide_eq_true h, decide_eq_true (by omega), in_stands]
  · rw [decide_eq_false h, decide_eq_false (by omega)]
    rfl
def eveB (l : List Nat) : Bool := decide (l.count 97 = l.count 98)
theorem eve_eq (t : PySem.Str) : decide (V.int (Txt.count t (PySem.Str.ofString "a")) = V.int (Txt.count t (PySem.Str.ofString "b"))) = eveB t.cps.toList := by
  rw [count_a, count_b]
  exact decide_eq_decide.mpr ⟨fun z => by have := V.int.inj z; omega, fun z => by rw [z]⟩
end Mk

set_option Elab.async false
set_option linter.unusedVariables false
set_option maxRecDepth 100000
set_option maxHeartbeats 4000000
namespace Mk
open PySem L2 Pk
theorem rep_cps : ∀ (m : Nat) (a acc : Array Nat), ((List.replicate m a).foldl (· ++ ·) acc).toList = acc.toList ++ (List.replicate m a.toList).flatten
  | 0, _, _ => by simp
  | m + 1, a, acc => by
    rw [List.replicate_succ, List.foldl_cons, rep_cps m, Array.toList_append, List.replicate_succ, List.flatten_cons, List.append_assoc]
theorem mul_tl (x : PySem.Str) (q : Nat) : (Txt.mul x (q : Int)).cps.toList = (List.replicate q x.cps.toList).flatten := by
  unfold Txt.mul
  by_cases c : (q : Int) < 1
  · rw [if_pos c, show q = 0 by omega] <;> rfl
  · rw [if_neg c]
    by_cases d : ((q : Int) == 1 || x.length == 0) = true
    · rw [if_pos d]
      rw [Bool.or_eq_true, beq_iff_eq, beq_iff_eq] at d
      rcases d with d | d
      · rw [show q = 1 by omega, List.replicate_succ, List.replicate_zero, List.flatten_cons, List.flatten_nil, List.append_nil]
      · have e : x.cps.toList = [] := List.eq_nil_of_length_eq_zero (by rw [Array.length_toList]; exact d)
        rw [e]
        exact (List.flatten_replicate_nil).symm
    · rw [if_neg d]
      show ((List.replicate (q : Int).toNat x.cps).foldl (· ++ ·) #[]).toList = _
      rw [Int.toNat_natCast, rep_cps] <;> rfl
theorem mulOk {x : PySem.Str} {q : Nat} (h : x.length * q ≤ 10000000) (hq : q ≤ 10000000) : MulOk x (q : Int) := by
  refine ⟨?_, fun h1 h2 => ?_, fun _ _ => ?_⟩
  · rw [decide_eq_false (by omega), decide_eq_false (by omega)] <;> rfl
  · have hx : x.length ≤ 10000000 := by
      have q1 : 1 ≤ q := by omega
      have := Nat.mul_le_mul_left x.length q1
      omega
    have z : (x.length : Int) ≤ (2 ^ 63 - 1) / (q : Int) := by
      refine Int.le_ediv_of_mul_le (by omega) ?_
      have e : (x.length : Int) * (q : Int) = ((x.length * q : Nat) : Int) := by rw [Int.natCast_mul]
      rw [e]
      omega
    omega
  · unfold Builtin.Str.tooLong
    refine decide_eq_false ?_
    have : (10000000 : Nat) ≤ sizeLine := by decide
    rw [Int.toNat_natCast]
    omega
theorem mul_one (c m : Nat) : (Txt.mul ⟨#[c]⟩ (m : Int)).cps.toList = List.replicate m c := by
  rw [mul_tl]
  show (List.replicate m [c]).flatten = _
  induction m with
  | zero => rfl
  | succ m ih => rw [List.replicate_succ, List.flatten_cons, ih] <;> rfl
theorem app_tl (x y : PySem.Str) : (x ++ y).cps.toList = x.cps.toList ++ y.cps.toList := by
  show (x.cps ++ y.cps).toList = _
  rw [Array.toList_append]
/-- so many a, b, c -/
def abc (m : Nat) : List Nat := List.replicate m 97 ++ List.replicate m 98 ++ List.replicate m 99
theorem abc_tl (m : Nat) : (Txt.mul (PySem.Str.ofString "a") (m : Int) ++ Txt.mul (PySem.Str.ofString "b") (m : Int) ++ Txt.mul (PySem.Str.ofString "c") (m : Int)).cps.toList = abc m := by
  rw [show PySem.Str.ofString "a" = ⟨#[97]⟩ by decide +kernel, show PySem.Str.ofString "b" = ⟨#[98]⟩ by decide +kernel, show PySem.Str.ofString "c" = ⟨#[99]⟩ by decide +kernel, app_tl, app_tl, mul_one, mul_one, mul_one] <;> rfl
def thrB (l : List Nat) : Bool := decide (l = abc (l.length / 3))
theorem thr_eq (t : PySem.Str) : decide (V.str t = V.str (thirds t)) = thrB t.cps.toList := by
  unfold thrB
  have e : (t.length : Int) / 3 = ((t.length / 3 : Nat) : Int) := rfl
  rw [str_dec]
  unfold thirds
  rw [e, abc_tl, len_of]
theorem thr_a (l : List Nat) : decide (l = abc (l.count 97)) = thrB l := by
  unfold thrB
  refine decide_eq_decide.mpr ⟨fun z => ?_, fun z => ?_⟩
  · have e : l.length = 3 * l.count 97 := by
      have := congrArg List.length z
      unfold abc at this
      rw [List.length_append, List.length_append, List.length_replicate, List.length_replicate, List.length_replicate] at this
      omega
    rw [show l.length / 3 = l.count 97 by omega]
    exact z
  · have e : l.count 97 = l.length / 3 := by
      have := congrArg (List.count 97) z
      unfold abc at this
      rw [List.count_append, List.count_append, List.count_replicate_self, List.count_replicate, List.count_replicate] at this
      simpa using this
    rw [e]
    exact z
section
variable {P : Program} {w : World} {K : PySem.W.Frag} {mg : PySem.Str → Option Value} {base : Heap}
theorem okJ_mir {f : Addr} {fd : FuncData} (F : Fun K "is_mirrored" "is_mirrored" sMirrored f fd) : FnOk P w K mg base CX0 1 f fd ["text"] (spJ pal) :=
  (ok_mir F).imp fun vs H Q E h => by
    obtain ⟨t, rfl, sz, k⟩ := h
    have k1 := k _ (Same.refl _)
    rw [← mir_pal] at k1
    exact ⟨t, rfl, by omega, k1⟩
theorem okJ_even {f : Addr} {fd : FuncData} (F : Fun K "is_even" "is_even" sEven f fd) : FnOk P w K mg base CX0 1 f fd ["text"] (spJ eveB) :=
  (ok_even F).imp fun vs H Q E h => by
    obtain ⟨t, rfl, sz, k⟩ := h
    have k1 := k _ (Same.refl _)
    rw [← eve_eq] at k1
    exact ⟨t, rfl, k1⟩
theorem okJ_cop {f : Addr} {fd : FuncData} (F : Fun K "is_copied" "is_copied" sCopied f fd) : FnOk P w K mg base CX0 1 f fd ["text"] (spJ copB) :=
  (ok_copied F).imp fun vs H Q E h => by
    obtain ⟨t, rfl, sz, k⟩ := h
    rw [← cop_eq] at k
    exact ⟨t, rfl, by omega, k⟩
theorem okJ_fou {f : Addr} {fd : FuncData} (F : Fun K "is_found" "is_found" sFound f fd) : FnOk P w K mg base CX0 1 f fd ["text"] (spJ fouB) :=
  (ok_found F).imp fun vs H Q E h => by
    obtain ⟨t, rfl, sz, k⟩ := h
    rw [← fou_eq] at k
    exact ⟨t, rfl, by omega, k⟩
theorem okJ_thr {f : Addr} {fd : FuncData} (F : Fun K "is_in_thirds" "is_in_thirds" sThirds f fd) (T : TM mg) : FnOk P w K mg base CX0 1 f fd ["text"] (spJ thrB) :=
  (ok_thirds F T.len).imp fun vs H Q E h => by
    obtain ⟨t, rfl, sz, k⟩ := h
    have k1 := k _ (Same.refl _)
    rw [← thr_eq] at k1
    exact ⟨t, rfl, by omega, k1⟩
end
end Mk

set_option Elab.async false
set_option linter.unusedVariables false
set_option maxRecDepth 100000
set_option maxHeartbeats 4000000
namespace Mk
open PySem L2 Pk
/-! signs that a repr may show -/
abbrev asc (t : PySem.Str) : Prop := ∀ c ∈ t.cps.toList, c < 1114112
theorem asc_app {a b : PySem.Str} (ha : asc a) (hb : asc b) : asc (a ++ b) := fun c m => by
  rw [app_tl] at m
  exact (List.mem_append.mp m).elim (ha c) (hb c)
theorem asc_cut {a : PySem.Str} {lo hi : Option Int} (ha : asc a) : asc (cutS a lo hi) := fun c m => by
  have m : c ∈ ((a.cps.toList.drop (HT.sIx a.length 0 lo)).take (HT.sIx a.length a.length hi - HT.sIx a.length 0 lo)).toArray.toList := m
  rw [List.toList_toArray] at m
  exact ha c (List.mem_of_mem_drop (List.mem_of_mem_take m))
theorem asc_mul {a : PySem.Str} {q : Int} (ha : asc a) : asc (Txt.mul a q) := fun c m => by
  have e : Txt.mul a q = Txt.mul a ((q.toNat : Nat) : Int) := by
    unfold Txt.mul
    rw [Int.toNat_natCast]
    by_cases h : q < 1
    · rw [if_pos h, if_pos (by omega)]
    · rw [Int.toNat_of_nonneg (by omega)]
  rw [e, mul_tl] at m
  obtain ⟨w, mw, mc⟩ := List.mem_flatten.mp m
  rw [(List.mem_replicate.mp mw).2] at mc
  exact ha c mc
theorem asc_rev {a : PySem.Str} (ha : asc a) : asc (Rv.revS a) := fun c m => by
  have m : c ∈ (a.cps.toList.reverse.toArray).toList := m
  rw [List.toList_toArray] at m
  exact ha c (List.mem_reverse.mp m)
theorem asc_sub {a : PySem.Str} {i j : Nat} (ha : asc a) : asc (Builtin.Str.strSub a i j) := fun c m => by
  have m : c ∈ (a.cps.extract i j).toList := m
  rw [Array.toList_extract] at m
  exact ha c (List.mem_of_mem_drop (List.mem_of_mem_take m))
theorem asc_glued {z : PySem.Str} (hz : asc z) : ∀ (l : List PySem.Str) (acc : Array Nat), (∀ c ∈ acc.toList, c < 1114112) → (∀ p ∈ l, asc p) → ∀ c ∈ (l.foldl (fun acc p => acc ++ z.cps ++ p.cps) acc).toList, c < 1114112
  | [], acc, h, _ => h
  | p :: l, acc, h, hl => by
    rw [List.foldl_cons]
    refine asc_glued hz l _ (fun c m => ?_) fun q mq => hl q (List.mem_cons_of_mem _ mq)
    rw [Array.toList_append, Array.toList_append] at m
    rcases List.mem_append.mp m with m | m
    · exact (List.mem_append.mp m).elim (h c) (hz c)
    · exact hl p List.mem_cons_self c m
theorem asc_repl {x y z : PySem.Str} (hx : asc x) (hz : asc z) : asc (Txt.replace x y z) := by
  unfold Txt.replace
  split
  · exact hx
  · have ps : ∀ p ∈ Builtin.Str.partsBetween x (Builtin.Str.occurrences x y 0 x.length (x.length + 1)) y.length, asc p := fun p m => by
      unfold Builtin.Str.partsBetween at m
      obtain ⟨ij, _, rfl⟩ := List.mem_map.mp m
      exact asc_sub hx
    generalize Builtin.Str.partsBetween x (Builtin.Str.occurrences x y 0 x.length (x.length + 1)) y.length = l at ps
    unfold Builtin.Str.glued
    cases l with
    | nil => exact fun c m => absurd m List.not_mem_nil
    | cons p l => exact asc_glued hz l p.cps (ps p List.mem_cons_self) fun q mq => ps q (List.mem_cons_of_mem _ mq)
end Mk

set_option Elab.async false
set_option linter.unusedVariables false
set_option maxRecDepth 100000
set_option maxHeartbeats 4000000
namespace Mk
open PySem L2 Pk
theorem rev_len (t : PySem.Str) : (Rv.revS t).length = t.length := by
  rw [← len_of, ← len_of]
  show (t.cps.toList.reverse.toArray).toList.length = _
  rw [List.toList_toArray, List.length_reverse]
theorem anyL_congr {α : Type} {f g : α → Bool} : ∀ {l : List α}, (∀ x ∈ l, f x = g x) → l.any f = l.any g
  | [], _ => rfl
  | a :: r, h => by
    rw [List.any_cons, List.any_cons, h a List.mem_cons_self, anyL_congr fun x m => h x (List.mem_cons_of_mem _ m)]
theorem app_len (x y : PySem.Str) : (x ++ y).length = x.length + y.length := by
  rw [← len_of, app_tl, List.length_append, len_of, len_of]
theorem inV_ints (n : Nat) (E : List Nat) : inV (V.int (n : Int)) (E.map fun b : Nat => V.int (b : Int)) = decide (n ∈ E) := by
  unfold inV
  rw [List.any_map]
  refine Bool.eq_iff_iff.mpr ⟨fun h => ?_, fun h => ?_⟩
  · obtain ⟨b, m, hb⟩ := List.any_eq_true.mp h
    have e : (b : Int) = (n : Int) := by simpa [eqV] using hb
    have e : b = n := by omega
    exact decide_eq_true (e ▸ m)
  · exact List.any_eq_true.mpr ⟨n, of_decide_eq_true h, by simp [eqV]⟩
section
variable {P : Program} {w : World} {K : PySem.W.Frag} {mg : PySem.Str → Option Value} {base : Heap}
/-! _law_back, _law_mirror, _law_fold -/
def spBack : Sp := fun vs H Q _ => ∃ t : PySem.Str, vs = [.str t] ∧ t.length ≤ 3000000 ∧ Q (.str (Rv.revS t)) H
theorem scBack : FnScope ["text"] ["text"] (defScope sBack) := ⟨rfl, rfl, rfl, by decide +kernel, rfl, by decide +kernel, by decide +kernel⟩
theorem ok_back {f : Addr} {fd : FuncData} (F : Fun K "_law_back" "_law_back" sBack f fd) : FnOk P w K mg base CX0 1 f fd ["text"] spBack := by
  refine F.ok scBack (fun vs H Q E h => ?_) (fun cdv A outer s H vs Q E hr h => ?_)
  · obtain ⟨t, rfl, _⟩ := h
    rfl
  · obtain ⟨t, rfl, sz, k⟩ := h
    refine ⟨_, (pss_one (ps_ret (Rv.pe_rev (pv 0) (pe_un un_neg pe_int)))), ?_⟩
    exact ⟨_, rfl, _, rfl, t, rfl, rfl, Nat.le_trans sz (by decide), k⟩
def spMirL : Sp := fun vs H Q _ => ∃ t : PySem.Str, vs = [.str t] ∧ t.length ≤ 3000000 ∧ Q (.bl (pal t.cps.toList)) H
theorem scMirL : FnScope ["text"] ["text"] (defScope sMirror) := ⟨rfl, rfl, rfl, by decide +kernel, rfl, by decide +kernel, by decide +kernel⟩
theorem ok_mirL {f : Addr} {fd : FuncData} (F : Fun K "_law_mirror" "_law_mirror" sMirror f fd) (GB : Got P w K mg base "_law_back" 1 ["text"] spBack) : FnOk P w K mg base CX0 2 f fd ["text"] spMirL := by
  refine F.ok scMirL (fun vs H Q E h => ?_) (fun cdv A outer s H vs Q E hr h => ?_)
  · obtain ⟨t, rfl, _⟩ := h
    rfl
  · obtain ⟨t, rfl, sz, k⟩ := h
    have h1 := hr
    refine ⟨_, (pss_one (ps_ret (pe_cmpR op_eq (pv 0) (pe_got GB h1 (by rfl) (pa_cons (pv 0) pa_nil)) (nomark _)))), ?_⟩
    rw [← mir_pal] at k
    exact ⟨_, rfl, _, rfl, t, rfl, sz, rfl, k⟩
def spFold : Sp := fun vs H Q _ => ∃ t : PySem.Str, vs = [.str t] ∧ t.length ≤ 3000000 ∧ ∀ u : PySem.Str, u.length = t.length → (asc t → asc u) → Q (.str u) H
theorem scFold : FnScope ["part", "half"] ["part"] (defScope sFold) := ⟨rfl, rfl, rfl, by decide +kernel, rfl, by decide +kernel, by decide +kernel⟩
theorem ok_fold {f : Addr} {fd : FuncData} (F : Fun K "_law_fold" "_law_fold" sFold f fd) (T : TM mg) (GB : Got P w K mg base "_law_back" 1 ["text"] spBack) : FnOk P w K mg base CX0 2 f fd ["part"] spFold := by
  refine F.ok scFold (fun vs H Q E h => ?_) (fun cdv A outer s H vs Q E hr h => ?_)
  · obtain ⟨t, rfl, _⟩ := h
    rfl
  · obtain ⟨t, rfl, sz, k⟩ := h
    have h1 := hr
    have nd := scFold.nd
    have hn : t.length ≤ sizeLine := Nat.le_trans sz (by decide)
    refine ⟨_, (pss_cons (ps_set (i := 1) nd rfl (Or.inl rfl) (pe_op op_fdiv (pe_callB call_len_str (by rfl) T.len PySem.boot_len (pa_cons (pv 0) pa_nil)) pe_int))
      (pss_one (ps_ret (pe_op op_add_str (pe_slice sl_str (pv 0) po_none (po_some (pe_op op_sub (pe_callB call_len_str (by rfl) T.len PySem.boot_len (pa_cons (pv 0) pa_nil)) (pv 1)))) (pe_got GB h1 (by rfl) (pa_cons (pe_slice sl_str (pv 0) po_none (po_some (pv 1))) pa_nil)))))), ?_⟩
    refine ⟨_, rfl, t, rfl, hn, _, _, rfl, rfl, ⟨by decide, by decide⟩, ?_⟩
    have e1 : (t.length : Int) / 2 = ((t.length / 2 : Nat) : Int) := rfl
    have e2 : (t.length : Int) - ((t.length / 2 : Nat) : Int) = ((t.length - t.length / 2 : Nat) : Int) := by omega
    have l1 : (cutS t none (some ((t.length - t.length / 2 : Nat) : Int))).length = t.length - t.length / 2 := by
      rw [← len_of, cut_to, List.length_take, len_of]
      omega
    have l2 : (Rv.revS (cutS t none (some ((t.length / 2 : Nat) : Int)))).length = t.length / 2 := by
      rw [rev_len, ← len_of, cut_to, List.length_take, len_of]
      omega
    refine ⟨_, rfl, _, rfl, t, rfl, hn, _, rfl, _, _, rfl, rfl, _, rfl, t, rfl, hn, ?_⟩
    rw [e1, e2]
    have hL : (cutS t none (some ((t.length - t.length / 2 : Nat) : Int)) ++ Rv.revS (cutS t none (some ((t.length / 2 : Nat) : Int)))).length = t.length := by
      rw [app_len, l1, l2]
      omega
    exact ⟨_, rfl, _, rfl, _, rfl, t, rfl, hn, _, rfl, Nat.le_trans (cut_le ..) sz, _, _, rfl, rfl, Nat.le_trans (Nat.le_of_eq ((app_len _ _).symm.trans hL)) hn, k _ hL fun ha => asc_app (asc_cut ha) (asc_rev (asc_cut ha))⟩
/-! _law_stands -/
def spStands : Sp := fun vs H Q _ => ∃ x t : PySem.Str, vs = [.str x, .str t] ∧ x.length ≤ 4000 ∧ t.length ≤ 4000 ∧ ∀ H', Same H H' → Q (.bl (stands x.cps.toList t.cps.toList)) H'
abbrev nStands : List PySem.Str := ["word", "text", "k"]
theorem scStands : FnScope nStands ["word", "text"] (defScope sStands) := ⟨rfl, rfl, rfl, by decide +kernel, rfl, by decide +kernel, by decide +kernel⟩
theorem ok_stands {f : Addr} {fd : FuncData} (F : Fun K "_law_stands" "_law_stands" sStands f fd) (T : TM mg) : FnOk P w K mg base CX0 1 f fd ["word", "text"] spStands := by
  refine F.ok scStands (fun vs H Q E h => ?_) (fun cdv A outer s H vs Q E hr h => ?_)
  · obtain ⟨x, t, rfl, _⟩ := h
    rfl
  · obtain ⟨x, t, rfl, sx, sz, k⟩ := h
    have nd := scStands.nd
    have hx : x.length ≤ sizeLine := Nat.le_trans sx (by decide)
    have hn : t.length ≤ sizeLine := Nat.le_trans sz (by decide)
    refine ⟨_, (pss_one (ps_ret (pe_callB (cr_any rfl) (by rfl) T.any (by decide +kernel) (pa_cons (pe_lc (own := [("k", 2)]) (g := gName 2) (tt := tYes) (by rfl) nd (pi_range1 (by rfl) T.range (pa_cons (pe_op op_add (pe_op op_sub (pe_callB call_len_str (by rfl) T.len PySem.boot_len (pa_cons (pv 1) pa_nil)) (pe_callB call_len_str (by rfl) T.len PySem.boot_len (pa_cons (pv 0) pa_nil))) pe_int) pa_nil)) (blkOk_by (own := [("k", 2)]) (N := nStands) (sc := defScope sStands) (by decide +kernel)) (fun _ _ _ _ _ => pg_name (i := 2) nd rfl (Or.inl rfl)) (fun _ _ _ _ _ => pts_nil) (fun _ _ _ _ _ => (pe_cmpR op_eq (pe_slice sl_str (pv 1) (po_some (pv 2)) (po_some (pe_op op_add (pv 2) (pe_callB call_len_str (by rfl) T.len PySem.boot_len (pa_cons (pv 0) pa_nil))))) (pv 0) (nomark _)))) pa_nil)))), ?_⟩
    refine ⟨_, rfl, t, rfl, hn, _, rfl, x, rfl, hx, _, _, rfl, rfl, _, _, rfl, rfl, _, rfl, by omega, by omega, fun D hD => lc_range (lo := 0) (n := ((t.length : Int) - (x.length : Int) + 1).toNat) (BlS (fun i => decide ((t.cps.toList.drop i).take x.cps.toList.length = x.cps.toList)) H D) (BlS.zero (Same.refl _) hD) ?_ ?_⟩
    · intro i H2 hi hB
      refine ⟨rfl, ?_⟩
      refine ⟨_, rfl, _, rfl, _, rfl, _, rfl, _, rfl, x, rfl, hx, _, _, rfl, rfl, _, rfl, t, rfl, hn, _, rfl, rfl, ?_⟩
      refine hB.put (Same.refl _) hD (by omega) _ ?_
      rw [str_dec, show (0 : Int) + (i : Int) = ((i : Nat) : Int) by omega, show ((i : Nat) : Int) + (x.length : Int) = ((i + x.length : Nat) : Int) by omega, cut_mid, Nat.min_eq_left (by omega), Nat.min_eq_left (by omega), len_of, show i + x.length - i = x.length by omega]
    · rintro H2 ⟨s2, hD2⟩
      refine ⟨D, _, rfl, SqL.of hD2, ?_⟩
      rw [any_blL]
      have e : ((t.length : Int) - (x.length : Int) + 1).toNat = t.cps.toList.length + 1 - x.cps.toList.length := by rw [len_of, len_of]; omega
      rw [e]
      exact k H2 s2
/-! _law_evens -/
abbrev nEvL : List PySem.Str := ["text", "ends", "end", "begin"]
theorem scEvL : FnScope nEvL ["text"] (defScope sEvens) := ⟨rfl, rfl, rfl, by decide +kernel, rfl, by decide +kernel, by decide +kernel⟩
theorem ok_evL {f : Addr} {fd : FuncData} (F : Fun K "_law_evens" "_law_evens" sEvens f fd) (T : TM mg) (GMi : Got P w K mg base "_law_mirror" 2 ["text"] spMirL) : FnOk P w K mg base CX0 3 f fd ["text"] (spJ evB) := by
  refine F.ok scEvL (fun vs H Q E h => ?_) (fun cdv A outer s H vs Q E hr h => ?_)
  · obtain ⟨t, rfl, _⟩ := h
    rfl
  · obtain ⟨t, rfl, sz, k⟩ := h
    have nd := scEvL.nd
    have h2 := hr
    have hn : t.length ≤ sizeLine := Nat.le_trans sz (by decide)
    refine ⟨_, (pss_cons (ps_set (i := 1) nd rfl (Or.inl rfl) (pe_lst (pa_cons pe_int pa_nil)))
      (pss_cons (ps_for PassesOwn.never rfl (pi_range2 (by rfl) T.range (pa_cons pe_int (pa_cons (pe_op op_add (pe_callB call_len_str (by rfl) T.len PySem.boot_len (pa_cons (pv 0) pa_nil)) pe_int) pa_nil))) (pg_name (i := 2) nd rfl (Or.inr rfl))
        (pss_one (ps_if (pt_val (pe_callB (cr_any rfl) (by rfl) T.any (by decide +kernel) (pa_cons (pe_lc (own := [("begin", 3)]) (g := gName 3) (tt := tYes) (by rfl) nd (pi_list (pv 1)) (blkOk_by (own := [("begin", 3)]) (N := nEvL) (sc := defScope sEvens) (by decide +kernel)) (fun _ _ _ _ _ => pg_name (i := 3) nd rfl (Or.inl rfl)) (fun _ _ _ _ _ => pts_nil) (fun _ _ _ _ _ => (pe_and (pe_cmpR op_eq (pe_op op_mod (pe_callTy call_int1 (by rfl) T.int PyProof.Rows.Boot.int (pa_cons (pe_op op_sub (pv 2) (pv 3)) pa_nil)) pe_int) pe_int (nomark _)) (pe_one (pe_got GMi h2 (by rfl) (pa_cons (pe_slice sl_str (pv 0) (po_some (pv 3)) (po_some (pv 2))) pa_nil)))))) pa_nil)))
          (pss_one (ps_expr (pe_bm PySem.F.plainAttrs_list PySem.F.slot_list_append PySem.F.type_list_append mt_append (pv 1) (pa_cons (pv 2) pa_nil))))
          pss_nil)))
      (pss_one (ps_ret (pe_cmpR op_in_seq (pe_callB call_len_str (by rfl) T.len PySem.boot_len (pa_cons (pv 0) pa_nil)) (pv 1) rfl))))), ?_⟩
    refine ⟨by decide, fun p hp => ?_⟩
    have s1 := same_new (o := HO.lst [V.int 0]) hp
    have e0 : (upd H p (.lst [V.int 0])) p = some (.lst ((evL t.cps.toList 0).map fun b : Nat => V.int (b : Int))) := upd_same
    dsimp only [gName]
    refine ⟨_, rfl, t, rfl, hn, _, _, rfl, rfl, 1, _, rfl, ⟨by omega, by omega, by omega, by omega⟩, for_range (lo := 1) (n := ((t.length : Int) + 1 - 1).toNat) (fun i σ H' => Same H H' ∧ H' p = some (.lst ((evL t.cps.toList (i / 2)).map fun b : Nat => V.int (b : Int))) ∧ ∃ v2 : Option V, σ = [some (.str t), some (.ref p), v2, none])
      ⟨s1, e0, none, rfl⟩ ?_ ?_⟩
    · rintro i σ H1 hi ⟨sa, hp1, v2, rfl⟩
      have il : i < t.length := by omega
      obtain ⟨E, eE⟩ : ∃ E, E = evL t.cps.toList (i / 2) := ⟨_, rfl⟩
      obtain ⟨f, ef⟩ : ∃ f : Nat → Bool, f = fun b => decide ((i + 1 - b) % 2 = 0) && pal ((t.cps.toList.drop b).take (i + 1 - b)) := ⟨_, rfl⟩
      have lE : E.length ≤ 401 := by have := evL_len t.cps.toList (i / 2); rw [eE]; omega
      have hE : ∀ b ∈ E, b ≤ i ∧ b % 2 = 0 := by
        rw [eE]
        intro b m
        have := evL_le _ _ b m
        omega
      have eS : evL t.cps.toList ((i + 1) / 2) = if E.any f = true then E ++ [i + 1] else E := by
        by_cases o : (i + 1) % 2 = 0
        · have e1 : (i + 1) / 2 = i / 2 + 1 := by omega
          have e2 : 2 * (i / 2 + 1) = i + 1 := by omega
          have e3 : E.any f = E.any fun b => pal ((t.cps.toList.drop b).take (2 * (i / 2 + 1) - b)) := by
            refine anyL_congr fun b m => ?_
            have hb := hE b m
            rw [ef, e2]
            show (decide ((i + 1 - b) % 2 = 0) && _) = _
            rw [decide_eq_true (by omega), Bool.true_and]
          rw [e1, e3]
          show (if (evL t.cps.toList (i / 2)).any _ = true then evL t.cps.toList (i / 2) ++ [2 * (i / 2 + 1)] else _) = _
          rw [← eE, e2]
        · have e1 : (i + 1) / 2 = i / 2 := by omega
          have e3 : E.any f = false := by
            refine Bool.eq_false_iff.mpr fun z => ?_
            obtain ⟨b, m, hb⟩ := List.any_eq_true.mp z
            have hb2 := hE b m
            rw [ef] at hb
            have hb3 := of_decide_eq_true (Bool.and_eq_true_iff.mp hb).1
            omega
          rw [e1, e3, if_neg Bool.false_ne_true, eE]
      rw [← eE] at hp1
      refine ⟨_, rfl, p, rfl, ⟨_, SqL.of hp1⟩, fun D hD => ?_⟩
      have hD0 : H D = none := free_of sa hD
      have pD : p ≠ D := fun e => by rw [← e, hp1] at hD; cases hD
      refine lc_list (K := K) (a := p) (xs := E.map fun b : Nat => V.int (b : Int)) (fun j H' => H' = upd H1 D (.lst (((E.take j).map f).map V.bl))) rfl (fun j H' _ h => ?_) ?_ ?_
      · subst h
        exact SqL.of (by rw [upd_ne pD]; exact hp1)
      · rintro j x H3 ej rfl
        rw [List.getElem?_map] at ej
        obtain ⟨b, eb, rfl⟩ := Option.map_eq_some_iff.mp ej
        have hb := hE b (List.mem_of_getElem? eb)
        have eI : ((1 : Int) + (i : Int) - (b : Int)) % 2 = (((i + 1 - b) % 2 : Nat) : Int) := by omega
        have ev : pal (cutS t (some (b : Int)) (some ((1 : Int) + (i : Int)))).cps.toList = pal ((t.cps.toList.drop b).take (i + 1 - b)) := by
          rw [show (1 : Int) + (i : Int) = ((i + 1 : Nat) : Int) by omega, cut_mid, Nat.min_eq_left (by omega), Nat.min_eq_left (by omega)]
        have fin : ∀ bb : Bool, bb = f b → ∃ acc, (upd H1 D (.lst (((E.take j).map f).map V.bl))) D = some (.lst acc) ∧ acc.length < sizeLine ∧ upd (upd H1 D (.lst (((E.take j).map f).map V.bl))) D (.lst (acc ++ [V.bl bb])) = upd H1 D (.lst (((E.take (j + 1)).map f).map V.bl)) := by
          intro bb e
          refine ⟨_, upd_same, ?_, ?_⟩
          · rw [List.length_map, List.length_map, List.length_take]
            exact Nat.lt_of_le_of_lt (Nat.le_trans (Nat.min_le_right _ _) lE) (by decide)
          · rw [upd_upd, take_succ_of eb, List.map_append, List.map_append, e]
            rfl
        refine ⟨rfl, ?_⟩
        refine ⟨_, rfl, _, rfl, _, _, rfl, rfl, .inl ⟨_, rfl, _, _, rfl, rfl, (by show (0 : Int) < 2; decide), rfl, _, rfl, ?_⟩⟩
        refine ite2 (fun c => ?_) (fun c => ?_)
        · have c1 : (i + 1 - b) % 2 = 0 := by
            have := V.int.inj (of_decide_eq_true c)
            omega
          refine ⟨_, rfl, _, rfl, _, rfl, _, rfl, _, rfl, t, rfl, hn, _, rfl, Nat.le_trans (cut_le ..) (Nat.le_trans sz (by decide)), fin _ ?_⟩
          rw [ev, ef]
          show _ = (decide ((i + 1 - b) % 2 = 0) && _)
          rw [decide_eq_true c1, Bool.true_and]
        · have c1 : ¬ (i + 1 - b) % 2 = 0 := fun z => c (decide_eq_true (by show V.int _ = V.int 0; rw [eI, z]; rfl))
          refine fin _ ?_
          rw [ef]
          show _ = (decide ((i + 1 - b) % 2 = 0) && _)
          rw [decide_eq_false c1, Bool.false_and]
      · rintro H3 rfl
        rw [List.length_map, List.take_length]
        refine ⟨D, _, rfl, SqL.of upd_same, ?_⟩
        rw [show (E.map f).any id = E.any f by rw [List.any_map] <;> rfl]
        have sN : Same H (upd H1 D (.lst ((E.map f).map V.bl))) := sa.trans (same_new hD)
        refine ⟨_, rfl, ite2 (fun c => ?_) (fun c => ?_)⟩
        · refine ⟨_, rfl, .inl ⟨rfl, _, SqL.of (by rw [upd_ne pD]; exact hp1)⟩, _, rfl, p, _, _, rfl, rfl, (by rw [upd_ne pD]; exact hp1), ?_, ?_⟩
          · rw [List.length_map]
            exact Nat.lt_of_le_of_lt lE (by decide)
          · rw [eS, if_pos c]
            refine ⟨same_mut sN hp, ?_, _, rfl⟩
            rw [upd_same, List.map_append, show (1 : Int) + (i : Int) = ((i + 1 : Nat) : Int) by omega]
            rfl
        · rw [eS, if_neg c]
          exact ⟨sN, by rw [upd_ne pD]; exact hp1, _, rfl⟩
    · rintro σ H1 ⟨sa, hp1, v2, rfl⟩
      have k1 := k _ sa
      rw [show ((t.length : Int) + 1 - 1).toNat = t.length by omega] at hp1
      have e2 : inV (V.int (t.length : Int)) ((evL t.cps.toList (t.length / 2)).map fun b : Nat => V.int (b : Int)) = evB t.cps.toList := by
        unfold evB
        rw [len_of]
        exact inV_ints _ _
      refine ⟨_, rfl, t, rfl, hn, _, rfl, p, _, rfl, .inl (SqL.of hp1), rfl, ?_, ?_⟩
      · rw [List.all_map]
        exact List.all_eq_true.mpr fun _ _ => rfl
      · show Q (.bl (inV _ _)) H1
        rw [e2]
        exact k1
end
end Mk

set_option Elab.async false
set_option linter.unusedVariables false
set_option maxRecDepth 100000
set_option maxHeartbeats 4000000
namespace Mk
open PySem L2 Pk
/-! bordered, the other way -/
theorem any_turn (f : Nat → Bool) (m : Nat) : (List.range m).any f = (List.range m).any fun i => f (m - 1 - i) := by
  refine Bool.eq_iff_iff.mpr ⟨fun h => ?_, fun h => ?_⟩
  · obtain ⟨i, m1, h1⟩ := List.any_eq_true.mp h
    have := List.mem_range.mp m1
    refine List.any_eq_true.mpr ⟨m - 1 - i, List.mem_range.mpr (by omega), ?_⟩
    rw [show m - 1 - (m - 1 - i) = i by omega]
    exact h1
  · obtain ⟨i, m1, h1⟩ := List.any_eq_true.mp h
    have := List.mem_range.mp m1
    exact List.any_eq_true.mpr ⟨m - 1 - i, List.mem_range.mpr (by omega), h1⟩
theorem bord_turn (l : List Nat) : ((List.range (l.length - 1)).any fun i => decide (l.take (1 + i) = l.drop (l.length - (1 + i)))) = bordB l := by
  unfold bordB
  rw [any_turn]
  refine anyL_congr fun i m => ?_
  have := List.mem_range.mp m
  rw [show 1 + (l.length - 1 - 1 - i) = l.length - (1 + i) by omega, show l.length - (l.length - (1 + i)) = 1 + i by omega]
/-! heights -/
def hgt (l : List Nat) : Int := (l.count 97 : Int) - (l.count 98 : Int)
theorem hgt_cons (c : Nat) (r : List Nat) : hgt (c :: r) = (if c = 97 then 1 else if c = 98 then -1 else 0) + hgt r := by
  unfold hgt
  rw [List.count_cons, List.count_cons]
  by_cases a : c = 97
  · subst a
    simp
    omega
  · by_cases b : c = 98
    · subst b
      simp
      omega
    · rw [if_neg a, if_neg b, if_neg (by simpa using a), if_neg (by simpa using b)]
      omega
theorem bal_some : ∀ (l : List Nat) (d e : Int), balGo d l = some e → e = d + hgt l ∧ ∀ k, 1 ≤ k → k ≤ l.length → 0 ≤ d + hgt (l.take k)
  | [], d, e, h => ⟨by have : some d = some e := h; rw [← Option.some.inj this]; show d = d + 0; omega, fun k h1 h2 => absurd (Nat.le_trans h1 h2) (by decide)⟩
  | c :: r, d, e, h => by
    have h : (if (if c = 97 then d + 1 else if c = 98 then d - 1 else d) < 0 then none else balGo (if c = 97 then d + 1 else if c = 98 then d - 1 else d) r) = some e := h
    have ed : (if c = 97 then d + 1 else if c = 98 then d - 1 else d) = d + (if c = 97 then 1 else if c = 98 then -1 else 0) := by
      split
      · rfl
      · split
        · rfl
        · omega
    rw [ed] at h
    by_cases nn : d + (if c = 97 then 1 else if c = 98 then -1 else 0) < 0
    · rw [if_pos nn] at h
      cases h
    · rw [if_neg nn] at h
      obtain ⟨h1, h2⟩ := bal_some r _ e h
      refine ⟨by rw [h1, hgt_cons]; omega, fun k k1 k2 => ?_⟩
      obtain ⟨j, rfl⟩ : ∃ j, k = j + 1 := ⟨k - 1, by omega⟩
      rw [List.take_succ_cons, hgt_cons]
      by_cases z : j = 0
      · subst z
        show 0 ≤ d + (_ + 0)
        omega
      · have := h2 j (by omega) (by rw [List.length_cons] at k2; omega)
        omega
theorem bal_of : ∀ (l : List Nat) (d : Int), (∀ k, 1 ≤ k → k ≤ l.length → 0 ≤ d + hgt (l.take k)) → balGo d l = some (d + hgt l)
  | [], d, h => by show some d = some (d + 0); rw [Int.add_zero]
  | c :: r, d, h => by
    show (if (if c = 97 then d + 1 else if c = 98 then d - 1 else d) < 0 then none else balGo (if c = 97 then d + 1 else if c = 98 then d - 1 else d) r) = _
    have ed : (if c = 97 then d + 1 else if c = 98 then d - 1 else d) = d + (if c = 97 then 1 else if c = 98 then -1 else 0) := by
      split
      · rfl
      · split
        · rfl
        · omega
    have h0 := h 1 (Nat.le_refl _) (by rw [List.length_cons]; omega)
    rw [List.take_succ_cons, hgt_cons] at h0
    have h0 : 0 ≤ d + ((if c = 97 then 1 else if c = 98 then -1 else 0) + 0) := h0
    rw [ed, if_neg (by omega), bal_of r _ fun k k1 k2 => ?_, hgt_cons]
    · congr 1
      omega
    · have := h (k + 1) (by omega) (by rw [List.length_cons]; omega)
      rw [List.take_succ_cons, hgt_cons] at this
      omega
/-- the heights of a text -/
def hts (l : List Nat) : List Int := (List.range (l.length + 1)).map fun k => hgt (l.take k)
theorem bal_hts (l : List Nat) (m : Int) (hm : m ∈ hts l) (hl : ∀ x ∈ hts l, m ≤ x) : (decide (m = 0) && decide (hgt l = 0)) = balB l := by
  have h0 : (0 : Int) ∈ hts l := List.mem_map.mpr ⟨0, List.mem_range.mpr (by omega), rfl⟩
  have m0 := hl 0 h0
  unfold balB
  refine Bool.eq_iff_iff.mpr ⟨fun h => ?_, fun h => ?_⟩
  · obtain ⟨a, b⟩ := Bool.and_eq_true_iff.mp h
    have a := of_decide_eq_true a
    have b := of_decide_eq_true b
    refine decide_eq_true ?_
    rw [bal_of l 0 fun k k1 k2 => ?_, b]
    · rfl
    · have := hl (hgt (l.take k)) (List.mem_map.mpr ⟨k, List.mem_range.mpr (by omega), rfl⟩)
      omega
  · obtain ⟨h1, h2⟩ := bal_some l 0 0 (of_decide_eq_true h)
    have hg : hgt l = 0 := by omega
    rw [decide_eq_true hg, Bool.and_true]
    refine decide_eq_true ?_
    obtain ⟨k, mk, ek⟩ := List.mem_map.mp hm
    have := List.mem_range.mp mk
    by_cases z : k = 0
    · subst z
      exact ek.symm
    · have := h2 k (by omega) (by omega)
      have ek : hgt (l.take k) = m := ek
      omega
/-! where c stands -/
def spotsL (l : List Nat) : List Nat := (List.range l.length).filter fun k => decide (l[k]? = some 99)
theorem spots_snoc (l : List Nat) (a : Nat) : spotsL (l ++ [a]) = spotsL l ++ (if a = 99 then [l.length] else []) := by
  unfold spotsL
  rw [List.length_append, show [a].length = 1 from rfl, List.range_succ, List.filter_append]
  congr 1
  · refine List.filter_congr fun k m => ?_
    have := List.mem_range.mp m
    rw [List.getElem?_append_left this]
  · rw [List.filter_cons, List.getElem?_append_right (Nat.le_refl _), Nat.sub_self]
    by_cases h : a = 99
    · subst h
      rw [if_pos rfl, if_pos (by simp)] <;> rfl
    · rw [if_neg h, if_neg (by simpa using h)] <;> rfl
theorem spots_len (l : List Nat) : (spotsL l).length = l.count 99 := by
  have : ∀ r : List Nat, (spotsL r.reverse).length = r.reverse.count 99 := fun r => by
    induction r with
    | nil => rfl
    | cons a r ih =>
      rw [List.reverse_cons, spots_snoc, List.length_append, ih, List.count_append]
      congr 1
      by_cases h : a = 99
      · subst h
        rfl
      · rw [if_neg h]
        symm
        exact List.count_eq_zero.mpr (by simpa using fun z => h z.symm)
  have h := this l.reverse
  rw [List.reverse_reverse] at h
  exact h
theorem spots_first {l : List Nat} (h : 99 ∈ l) : ∃ r, spotsL l = (fore l).length :: r := by
  have e := parted h
  have hn := fore_no l
  generalize fore l = p at e hn
  generalize aft l = q at e
  subst e
  have : ∀ q : List Nat, ∃ r, spotsL (p ++ 99 :: q.reverse) = p.length :: r := fun q => by
    induction q with
    | nil =>
      refine ⟨[], ?_⟩
      show spotsL (p ++ [99]) = _
      rw [spots_snoc, if_pos rfl]
      have : spotsL p = [] := by
        refine List.eq_nil_of_length_eq_zero ?_
        rw [spots_len]
        exact List.count_eq_zero.mpr hn
      rw [this] <;> rfl
    | cons a q ih =>
      obtain ⟨r, er⟩ := ih
      rw [List.reverse_cons, ← List.cons_append, ← List.append_assoc, spots_snoc, er]
      exact ⟨_, rfl⟩
  have h2 := this q.reverse
  rw [List.reverse_reverse] at h2
  exact h2
theorem fore_take {l : List Nat} (h : 99 ∈ l) : l.take (fore l).length = fore l := by
  exact (congrArg (List.take (fore l).length) (parted h)).trans (List.take_left' rfl)
theorem aft_drop {l : List Nat} (h : 99 ∈ l) : l.drop ((fore l).length + 1) = aft l := by
  have e : l = (fore l ++ [99]) ++ aft l := by
    rw [List.append_assoc]
    exact parted h
  exact (congrArg (List.drop ((fore l).length + 1)) e).trans (List.drop_left' (by rw [List.length_append] <;> rfl))
end Mk

set_option Elab.async false
set_option linter.unusedVariables false
set_option maxRecDepth 100000
set_option maxHeartbeats 8000000
namespace Mk
open PySem L2 Pk
def rCount : V → List V → Hp → VK → Prop := fun x xs H Q => ∃ a b, x = .str a ∧ xs = [.str b] ∧ Q (.int (Txt.count a b)) H
def judge (x : PySem.Str) (l : List Nat) : Bool :=
  if x = PySem.Str.ofString "mirrored" then pal l else
  if x = PySem.Str.ofString "found" then fouB l else
  if x = PySem.Str.ofString "bordered" then bordB l else
  if x = PySem.Str.ofString "mirrorstart" then mstB l else
  if x = PySem.Str.ofString "balanced" then balB l else
  if x = PySem.Str.ofString "evenly" then eveB l else
  if x = PySem.Str.ofString "copied" then copB l else
  if x = PySem.Str.ofString "thirds" then thrB l else
  if x = PySem.Str.ofString "power" then powB l else
  if x = PySem.Str.ofString "twomirrors" then twoB l else
  if x = PySem.Str.ofString "evenmirrors" then evB l else
  true
theorem cut_c {t : PySem.Str} (h : 99 ∈ t.cps.toList) : (cutS t none (some ((fore t.cps.toList).length : Int))).cps.toList = fore t.cps.toList ∧ (cutS t (some (((fore t.cps.toList).length : Int) + 1)) none).cps.toList = aft t.cps.toList := by
  have l1 : (fore t.cps.toList).length + 1 ≤ t.length := by
    have := congrArg List.length (parted h)
    rw [List.length_append, List.length_cons, len_of] at this
    omega
  constructor
  · rw [cut_to, Nat.min_eq_left (by omega), fore_take h]
  · rw [show ((fore t.cps.toList).length : Int) + 1 = (((fore t.cps.toList).length + 1 : Nat) : Int) by omega, cut_from, Nat.min_eq_left l1, aft_drop h]
theorem mul_len3 (m : Nat) : (Txt.mul (PySem.Str.ofString "a") (m : Int)).length = m ∧ (Txt.mul (PySem.Str.ofString "b") (m : Int)).length = m ∧ (Txt.mul (PySem.Str.ofString "c") (m : Int)).length = m := by
  rw [show PySem.Str.ofString "a" = ⟨#[97]⟩ by decide +kernel, show PySem.Str.ofString "b" = ⟨#[98]⟩ by decide +kernel, show PySem.Str.ofString "c" = ⟨#[99]⟩ by decide +kernel]
  refine ⟨?_, ?_, ?_⟩ <;> rw [← len_of, mul_one, List.length_replicate]
section
variable {P : Program} {w : World} {K : PySem.W.Frag} {mg : PySem.Str → Option Value} {base : Heap}
def spGood : Sp := fun vs H Q _ => ∃ x t : PySem.Str, vs = [.str x, .str t] ∧ t.length ≤ 400 ∧ ∀ H', Same H H' → Q (.bl (judge x t.cps.toList)) H'
abbrev nGood : List PySem.Str := ["name", "text", "n", "spots", "lone", "heights", "many", "k"]
theorem scGood : FnScope nGood ["name", "text"] (defScope sGood) := ⟨rfl, rfl, rfl, by decide +kernel, rfl, by decide +kernel, by decide +kernel⟩
theorem ok_good {f : Addr} {fd : FuncData} (F : Fun K "_law_good" "_law_good" sGood f fd) (T : TM mg) (TN : mg "min" = none) (GMi : Got P w K mg base "_law_mirror" 2 ["text"] spMirL) (GS : Got P w K mg base "_law_stands" 1 ["word", "text"] spStands) (GE : Got P w K mg base "_law_evens" 3 ["text"] (spJ evB)) :
    FnOk P w K mg base CX0 4 f fd ["name", "text"] spGood := by
  refine F.ok scGood (fun vs H Q E h => ?_) (fun cdv A outer s H vs Q E hr h => ?_)
  · obtain ⟨x, t, rfl, _⟩ := h
    rfl
  · obtain ⟨x, t, rfl, sz, k⟩ := h
    have nd := scGood.nd
    have h1 := hr.mono (show 1 ≤ 3 by decide)
    have h2 := hr.mono (show 2 ≤ 3 by decide)
    have h3 := hr
    have hn : t.length ≤ sizeLine := Nat.le_trans sz (by decide)
    have hm : t.length ≤ 3000000 := Nat.le_trans sz (by decide)
    refine ⟨_, (pss_cons (ps_set (i := 2) nd rfl (Or.inr rfl) (pe_callB call_len_str (by rfl) T.len PySem.boot_len (pa_cons (pv 1) pa_nil)))
      (pss_cons (ps_setLc (i := 3) (own := [("k", 7)]) (g := gName 7) (by rfl) nd rfl rfl (sw_true rfl rfl rfl (by decide +kernel)) (pi_range1 (by rfl) T.range (pa_cons (pv 2) pa_nil)) (blkOk_by (own := [("k", 7)]) (N := nGood) (sc := defScope sGood) (by decide +kernel)) (fun _ _ _ _ _ => pg_name (i := 7) nd rfl (Or.inl rfl)) (fun _ _ _ _ _ => pts_one (pt_cmpR op_eq (pe_ix ix_str (pv 1) (pv 7) fun _ _ => rfl) pe_str (nomark _))) (fun _ _ _ _ _ => (pv 7)))
      (pss_cons (ps_set (i := 4) nd rfl (Or.inl rfl) (pe_cmpR op_eq (pe_callB call_len_seq (by rfl) T.len PySem.boot_len (pa_cons (pv 3) pa_nil)) pe_int (nomark _)))
      (pss_cons (ps_if (pt_cmpR op_eq (pv 0) pe_str (nomark _))
        (pss_one (ps_ret (pe_got GMi h2 (by rfl) (pa_cons (pv 1) pa_nil))))
        pss_nil)
      (pss_cons (ps_if (pt_cmpR op_eq (pv 0) pe_str (nomark _))
        (pss_one (ps_ret (pe_and (pv 4) (pe_one (pe_got GS h1 (by rfl) (pa_cons (pe_slice sl_str (pv 1) po_none (po_some (pe_ix ix_list (pv 3) pe_int fun _ _ => rfl))) (pa_cons (pe_slice sl_str (pv 1) (po_some (pe_op op_add (pe_ix ix_list (pv 3) pe_int fun _ _ => rfl) pe_int)) po_none) pa_nil)))))))
        pss_nil)
      (pss_cons (ps_if (pt_cmpR op_eq (pv 0) pe_str (nomark _))
        (pss_one (ps_ret (pe_callB (cr_any rfl) (by rfl) T.any (by decide +kernel) (pa_cons (pe_lc (own := [("k", 7)]) (g := gName 7) (tt := tYes) (by rfl) nd (pi_range2 (by rfl) T.range (pa_cons pe_int (pa_cons (pv 2) pa_nil))) (blkOk_by (own := [("k", 7)]) (N := nGood) (sc := defScope sGood) (by decide +kernel)) (fun _ _ _ _ _ => pg_name (i := 7) nd rfl (Or.inl rfl)) (fun _ _ _ _ _ => pts_nil) (fun _ _ _ _ _ => (pe_cmpR op_eq (pe_slice sl_str (pv 1) po_none (po_some (pv 7))) (pe_slice sl_str (pv 1) (po_some (pe_op op_sub (pv 2) (pv 7))) po_none) (nomark _)))) pa_nil))))
        pss_nil)
      (pss_cons (ps_if (pt_cmpR op_eq (pv 0) pe_str (nomark _))
        (pss_one (ps_ret (pe_callB (cr_any rfl) (by rfl) T.any (by decide +kernel) (pa_cons (pe_lc (own := [("k", 7)]) (g := gName 7) (tt := tYes) (by rfl) nd (pi_range2 (by rfl) T.range (pa_cons pe_int (pa_cons (pe_op op_add (pv 2) pe_int) pa_nil))) (blkOk_by (own := [("k", 7)]) (N := nGood) (sc := defScope sGood) (by decide +kernel)) (fun _ _ _ _ _ => pg_name (i := 7) nd rfl (Or.inl rfl)) (fun _ _ _ _ _ => pts_nil) (fun _ _ _ _ _ => (pe_got GMi h2 (by rfl) (pa_cons (pe_slice sl_str (pv 1) po_none (po_some (pv 7))) pa_nil)))) pa_nil))))
        pss_nil)
      (pss_cons (ps_if (pt_cmpR op_eq (pv 0) pe_str (nomark _))
        (pss_cons (ps_setLc (i := 5) (own := [("k", 7)]) (g := gName 7) (tt := tYes) (by rfl) nd rfl rfl (sw_true rfl rfl rfl (by decide +kernel)) (pi_range1 (by rfl) T.range (pa_cons (pe_op op_add (pv 2) pe_int) pa_nil)) (blkOk_by (own := [("k", 7)]) (N := nGood) (sc := defScope sGood) (by decide +kernel)) (fun _ _ _ _ _ => pg_name (i := 7) nd rfl (Or.inl rfl)) (fun _ _ _ _ _ => pts_nil) (fun _ _ _ _ _ => (pe_op op_sub (pe_bmK (r := rCount) K rfl PySem.F.plainAttrs_str PySem.F.slot_str_count PySem.F.type_str_count mt_count (pe_slice sl_str (pv 1) po_none (po_some (pv 7))) (pa_cons pe_str pa_nil)) (pe_bmK (r := rCount) K rfl PySem.F.plainAttrs_str PySem.F.slot_str_count PySem.F.type_str_count mt_count (pe_slice sl_str (pv 1) po_none (po_some (pv 7))) (pa_cons pe_str pa_nil)))))
        (pss_one (ps_ret (pe_and (pe_cmpR op_eq (pe_callB (cr_min (by rfl)) (by rfl) TN (by decide +kernel) (pa_cons (pv 5) pa_nil)) pe_int (nomark _)) (pe_one (pe_cmpR op_eq (pe_ix ix_list (pv 5) (pv 2) fun _ _ => rfl) pe_int (nomark _)))))))
        pss_nil)
      (pss_cons (ps_if (pt_cmpR op_eq (pv 0) pe_str (nomark _))
        (pss_one (ps_ret (pe_cmpR op_eq (pe_bm PySem.F.plainAttrs_str PySem.F.slot_str_count PySem.F.type_str_count mt_count (pv 1) (pa_cons pe_str pa_nil)) (pe_bm PySem.F.plainAttrs_str PySem.F.slot_str_count PySem.F.type_str_count mt_count (pv 1) (pa_cons pe_str pa_nil)) (nomark _))))
        pss_nil)
      (pss_cons (ps_if (pt_cmpR op_eq (pv 0) pe_str (nomark _))
        (pss_one (ps_ret (pe_and (pv 4) (pe_one (pe_cmpR op_eq (pe_slice sl_str (pv 1) po_none (po_some (pe_ix ix_list (pv 3) pe_int fun _ _ => rfl))) (pe_slice sl_str (pv 1) (po_some (pe_op op_add (pe_ix ix_list (pv 3) pe_int fun _ _ => rfl) pe_int)) po_none) (nomark _))))))
        pss_nil)
      (pss_cons (ps_if (pt_cmpR op_eq (pv 0) pe_str (nomark _))
        (pss_cons (ps_set (i := 6) nd rfl (Or.inl rfl) (pe_bm PySem.F.plainAttrs_str PySem.F.slot_str_count PySem.F.type_str_count mt_count (pv 1) (pa_cons pe_str pa_nil)))
        (pss_one (ps_ret (pe_cmpR op_eq (pv 1) (pe_op op_add_str (pe_op op_add_str (pe_op op_mulS pe_str (pv 6)) (pe_op op_mulS pe_str (pv 6))) (pe_op op_mulS pe_str (pv 6))) (nomark _)))))
        pss_nil)
      (pss_cons (ps_if (pt_cmpR op_eq (pv 0) pe_str (nomark _))
        (pss_one (ps_ret (pe_cmpR op_in_seq (pv 2) (pe_lst (pa_cons pe_int (pa_cons pe_int (pa_cons pe_int (pa_cons pe_int (pa_cons pe_int (pa_cons pe_int (pa_cons pe_int (pa_cons pe_int (pa_cons pe_int pa_nil)))))))))) rfl)))
        pss_nil)
      (pss_cons (ps_if (pt_cmpR op_eq (pv 0) pe_str (nomark _))
        (pss_one (ps_ret (pe_callB (cr_any rfl) (by rfl) T.any (by decide +kernel) (pa_cons (pe_lc (own := [("k", 7)]) (g := gName 7) (tt := tYes) (by rfl) nd (pi_range2 (by rfl) T.range (pa_cons pe_int (pa_cons (pv 2) pa_nil))) (blkOk_by (own := [("k", 7)]) (N := nGood) (sc := defScope sGood) (by decide +kernel)) (fun _ _ _ _ _ => pg_name (i := 7) nd rfl (Or.inl rfl)) (fun _ _ _ _ _ => pts_nil) (fun _ _ _ _ _ => (pe_and (pe_got GMi h2 (by rfl) (pa_cons (pe_slice sl_str (pv 1) po_none (po_some (pv 7))) pa_nil)) (pe_one (pe_got GMi h2 (by rfl) (pa_cons (pe_slice sl_str (pv 1) (po_some (pv 7)) po_none) pa_nil)))))) pa_nil))))
        pss_nil)
      (pss_cons (ps_if (pt_cmpR op_eq (pv 0) pe_str (nomark _))
        (pss_one (ps_ret (pe_got GE h3 (by rfl) (pa_cons (pv 1) pa_nil))))
        pss_nil)
      (pss_one (ps_ret pe_bl)))))))))))))))), ?_⟩
    refine ⟨_, rfl, t, rfl, hn, ?_⟩
    refine ⟨_, rfl, _, rfl, by omega, by omega, fun q hq => ?_⟩
    refine lc_range (lo := 0) (n := ((t.length : Int)).toNat) (fun i H' => Same H H' ∧ H' q = some (.lst (((List.range i).filter fun k => decide (t.cps.toList[k]? = some 99)).map fun k : Nat => V.int (k : Int)))) ⟨same_new hq, upd_same⟩ ?_ ?_
    · rintro i H2 hi ⟨s2, hq2⟩
      have il : i < t.cps.toList.length := by rw [len_of]; omega
      have ei : t.cps.toList[i]? = some t.cps.toList[i] := List.getElem?_eq_getElem il
      refine ⟨rfl, ?_⟩
      refine ⟨_, rfl, _, rfl, t, _, _, rfl, rfl, hn, (by rw [Int.zero_add]; exact atI_nat ei), rfl, _, rfl, ?_⟩
      have ec : decide (V.str ⟨#[t.cps.toList[i]]⟩ = V.str (PySem.Str.ofString "c")) = decide (t.cps.toList[i]? = some 99) := by
        rw [show PySem.Str.ofString "c" = ⟨#[99]⟩ by decide +kernel, ei]
        exact decide_eq_decide.mpr ⟨fun z => by simpa using z, fun z => by rw [Option.some.inj z]⟩
      rw [ec]
      refine ite2 (fun c => ?_) (fun c => ?_)
      · refine ⟨_, rfl, _, hq2, ?_, same_mut s2 hq, ?_⟩
        · rw [List.length_map]
          refine Nat.lt_of_le_of_lt (Nat.le_trans (List.length_filter_le _ _) (Nat.le_of_eq List.length_range)) (Nat.lt_of_lt_of_le (show i < 401 by rw [len_of] at il; omega) (by decide))
        · rw [upd_same, List.range_succ, List.filter_append, List.map_append, List.filter_cons, if_pos c, show (0 : Int) + (i : Int) = ((i : Nat) : Int) by omega]
          rfl
      · refine ⟨s2, ?_⟩
        rw [hq2, List.range_succ, List.filter_append, List.filter_cons, if_neg c, List.filter_nil, List.append_nil]
    rintro H2 ⟨s2, hq2⟩
    have hq2 : H2 q = some (.lst ((spotsL t.cps.toList).map fun k : Nat => V.int (k : Int))) := by
      rw [hq2]
      unfold spotsL
      rw [len_of]
      rfl
    dsimp only [gName]
    refine ⟨_, rfl, q, _, rfl, .inl (SqL.of hq2), rfl, ?_⟩
    have elo : decide (V.int (((spotsL t.cps.toList).map fun k : Nat => V.int (k : Int)).length : Int) = V.int 1) = decide (t.cps.toList.count 99 = 1) := by
      rw [List.length_map, spots_len]
      exact decide_eq_decide.mpr ⟨fun z => by have := V.int.inj z; omega, fun z => by rw [z] <;> rfl⟩
    rw [elo]
    refine ⟨_, rfl, rfl, _, rfl, ite2 (fun c => ?_) (fun c => ?_)⟩
    · have c : x = PySem.Str.ofString "mirrored" := V.str.inj (of_decide_eq_true c)
      have k : ∀ H', Same H H' → Q (.bl (pal t.cps.toList)) H' := fun H' s' => by
        have := k H' s'
        unfold judge at this
        rw [if_pos c] at this
        exact this
      exact ⟨_, rfl, t, rfl, hm, k _ s2⟩
    have n0 : ¬ x = PySem.Str.ofString "mirrored" := fun z => c (decide_eq_true (by rw [z]))
    clear c
    refine ⟨_, rfl, rfl, _, rfl, ite2 (fun c => ?_) (fun c => ?_)⟩
    · have c : x = PySem.Str.ofString "found" := V.str.inj (of_decide_eq_true c)
      have k : ∀ H', Same H H' → Q (.bl (fouB t.cps.toList)) H' := fun H' s' => by
        have := k H' s'
        unfold judge at this
        rw [if_neg n0, if_pos c] at this
        exact this
      refine ⟨_, rfl, _, rfl, ite2 (fun cl => ?_) (fun cl => ?_)⟩
      · have c1 : t.cps.toList.count 99 = 1 := of_decide_eq_true cl
        have m9 : 99 ∈ t.cps.toList := List.count_pos_iff.mp (by omega)
        obtain ⟨r, er⟩ := spots_first m9
        rw [er] at hq2
        obtain ⟨eT, eA⟩ := cut_c m9
        have lt4 : t.length ≤ 4000 := Nat.le_trans sz (by decide)
        refine ⟨_, rfl, _, rfl, q, _, 0, .int ((fore t.cps.toList).length : Nat), rfl, rfl, SqL.of hq2, (show atI _ ((0 : Nat) : Int) = _ from atI_nat rfl), _, rfl, t, rfl, hn, _, rfl, _, rfl, q, _, 0, .int ((fore t.cps.toList).length : Nat), rfl, rfl, SqL.of hq2, (show atI _ ((0 : Nat) : Int) = _ from atI_nat rfl), _, _, rfl, rfl, _, rfl, t, rfl, hn, _, _, rfl, Nat.le_trans (cut_le ..) lt4, Nat.le_trans (cut_le ..) lt4, fun H3 s3 => ?_⟩
        have k1 := k _ (s2.trans s3)
        unfold fouB at k1
        rw [decide_eq_true c1, Bool.true_and] at k1
        rw [eT, eA]
        exact k1
      · have k1 := k _ s2
        unfold fouB at k1
        rw [Bool.eq_false_iff.mpr cl, Bool.false_and] at k1
        exact k1
    have n1 : ¬ x = PySem.Str.ofString "found" := fun z => c (decide_eq_true (by rw [z]))
    clear c
    refine ⟨_, rfl, rfl, _, rfl, ite2 (fun c => ?_) (fun c => ?_)⟩
    · have c : x = PySem.Str.ofString "bordered" := V.str.inj (of_decide_eq_true c)
      have k : ∀ H', Same H H' → Q (.bl (bordB t.cps.toList)) H' := fun H' s' => by
        have := k H' s'
        unfold judge at this
        rw [if_neg n0, if_neg n1, if_pos c] at this
        exact this
      refine ⟨_, rfl, 1, _, rfl, ⟨by omega, by omega, by omega, by omega⟩, fun D hD => lc_range (lo := 1) (n := ((t.length : Int) - 1).toNat) (BlS (fun i => decide (t.cps.toList.take (1 + i) = t.cps.toList.drop (t.cps.toList.length - (1 + i)))) H D) (BlS.zero s2 hD) ?_ ?_⟩
      · intro i H3 hi hB
        refine ⟨rfl, ?_⟩
        refine ⟨_, rfl, _, rfl, _, rfl, t, rfl, hn, _, rfl, _, rfl, _, rfl, _, _, rfl, rfl, _, rfl, t, rfl, hn, rfl, ?_⟩
        refine hB.put (Same.refl _) (free_of s2 hD) (by omega) _ ?_
        rw [str_dec, show (1 : Int) + (i : Int) = ((1 + i : Nat) : Int) by omega, show (t.length : Int) - ((1 + i : Nat) : Int) = ((t.length - (1 + i) : Nat) : Int) by omega, cut_to, cut_from, Nat.min_eq_left (by omega), Nat.min_eq_left (by omega), len_of]
      · rintro H3 ⟨s3, hD2⟩
        refine ⟨D, _, rfl, SqL.of hD2, ?_⟩
        rw [any_blL, show ((t.length : Int) - 1).toNat = t.cps.toList.length - 1 by rw [len_of]; omega, bord_turn]
        exact k H3 s3
    have n2 : ¬ x = PySem.Str.ofString "bordered" := fun z => c (decide_eq_true (by rw [z]))
    clear c
    refine ⟨_, rfl, rfl, _, rfl, ite2 (fun c => ?_) (fun c => ?_)⟩
    · have c : x = PySem.Str.ofString "mirrorstart" := V.str.inj (of_decide_eq_true c)
      have k : ∀ H', Same H H' → Q (.bl (mstB t.cps.toList)) H' := fun H' s' => by
        have := k H' s'
        unfold judge at this
        rw [if_neg n0, if_neg n1, if_neg n2, if_pos c] at this
        exact this
      refine ⟨_, rfl, _, _, rfl, rfl, 2, _, rfl, ⟨by omega, by omega, by omega, by omega⟩, fun D hD => lc_range (lo := 2) (n := ((t.length : Int) + 1 - 2).toNat) (BlS (fun i => pal (t.cps.toList.take (2 + i))) H D) (BlS.zero s2 hD) ?_ ?_⟩
      · intro i H3 hi hB
        refine ⟨rfl, ?_⟩
        refine ⟨_, rfl, _, rfl, _, rfl, t, rfl, hn, _, rfl, Nat.le_trans (cut_le ..) hm, ?_⟩
        refine hB.put (Same.refl _) (free_of s2 hD) (by omega) _ ?_
        rw [show (2 : Int) + (i : Int) = ((2 + i : Nat) : Int) by omega, cut_to, Nat.min_eq_left (by omega)]
      · rintro H3 ⟨s3, hD2⟩
        refine ⟨D, _, rfl, SqL.of hD2, ?_⟩
        rw [any_blL, show ((t.length : Int) + 1 - 2).toNat = t.cps.toList.length - 1 by rw [len_of]; omega]
        exact k H3 s3
    have n3 : ¬ x = PySem.Str.ofString "mirrorstart" := fun z => c (decide_eq_true (by rw [z]))
    clear c
    refine ⟨_, rfl, rfl, _, rfl, ite2 (fun c => ?_) (fun c => ?_)⟩
    · have c : x = PySem.Str.ofString "balanced" := V.str.inj (of_decide_eq_true c)
      have k : ∀ H', Same H H' → Q (.bl (balB t.cps.toList)) H' := fun H' s' => by
        have := k H' s'
        unfold judge at this
        rw [if_neg n0, if_neg n1, if_neg n2, if_neg n3, if_pos c] at this
        exact this
      refine ⟨_, rfl, _, _, rfl, rfl, _, rfl, by omega, by omega, fun D hD => lc_range (lo := 0) (n := ((t.length : Int) + 1).toNat) (fun i H' => Same H H' ∧ H' D = some (.lst (((List.range i).map fun k => hgt (t.cps.toList.take k)).map V.int))) ⟨s2.trans (same_new hD), upd_same⟩ ?_ ?_⟩
      · rintro i H3 hi ⟨s3, hD3⟩
        refine ⟨rfl, ?_⟩
        refine ⟨_, rfl, _, rfl, _, rfl, t, rfl, hn, rfl, _, _, rfl, rfl, _, rfl, _, rfl, _, rfl, t, rfl, hn, rfl, _, _, rfl, rfl, _, _, rfl, rfl, _, hD3, ?_, same_mut s3 (free_of s2 hD), ?_⟩
        · rw [List.length_map, List.length_map, List.length_range]
          exact Nat.lt_of_lt_of_le (show i < 402 by omega) (by decide)
        · rw [upd_same, List.range_succ, List.map_append, List.map_append, show (0 : Int) + (i : Int) = ((i : Nat) : Int) by omega, count_a, count_b, cut_to, Nat.min_eq_left (by omega)]
          rfl
      · rintro H3 ⟨s3, hD3⟩
        have hD3 : H3 D = some (.lst ((hts t.cps.toList).map V.int)) := by
          rw [hD3, show ((t.length : Int) + 1).toNat = t.cps.toList.length + 1 by rw [len_of]; omega] <;> rfl
        have k1 := k _ s3
        have en : (hts t.cps.toList)[t.length]? = some (hgt t.cps.toList) := by
          unfold hts
          rw [List.getElem?_map, List.getElem?_range (by rw [len_of]; omega)]
          show some (hgt (t.cps.toList.take t.length)) = _
          rw [← len_of, List.take_length]
        dsimp only [gName]
        refine ⟨_, rfl, D, _, rfl, SqL.of hD3, by unfold hts; rw [List.length_map, List.length_range]; omega, fun mm hmm hl => ?_⟩
        have eB := bal_hts t.cps.toList mm hmm hl
        refine ⟨rfl, _, rfl, ite2 (fun cz => ?_) (fun cz => ?_)⟩
        · refine ⟨_, rfl, _, rfl, D, _, _, .int (hgt t.cps.toList), rfl, rfl, SqL.of hD3, atI_nat (by rw [List.getElem?_map, en]; rfl), rfl, ?_⟩
          have c0 : mm = 0 := V.int.inj (of_decide_eq_true cz)
          rw [← eB, decide_eq_true c0, Bool.true_and] at k1
          rw [show decide (V.int (hgt t.cps.toList) = V.int 0) = decide (hgt t.cps.toList = 0) from decide_eq_decide.mpr ⟨fun z => V.int.inj z, fun z => by rw [z]⟩]
          exact k1
        · have c0 : ¬ mm = 0 := fun z => cz (decide_eq_true (by rw [z]))
          rw [← eB, decide_eq_false c0, Bool.false_and] at k1
          exact k1
    have n4 : ¬ x = PySem.Str.ofString "balanced" := fun z => c (decide_eq_true (by rw [z]))
    clear c
    refine ⟨_, rfl, rfl, _, rfl, ite2 (fun c => ?_) (fun c => ?_)⟩
    · have c : x = PySem.Str.ofString "evenly" := V.str.inj (of_decide_eq_true c)
      have k : ∀ H', Same H H' → Q (.bl (eveB t.cps.toList)) H' := fun H' s' => by
        have := k H' s'
        unfold judge at this
        rw [if_neg n0, if_neg n1, if_neg n2, if_neg n3, if_neg n4, if_pos c] at this
        exact this
      have k1 := k _ s2
      rw [← eve_eq] at k1
      exact ⟨_, rfl, rfl, t, _, rfl, rfl, _, rfl, rfl, t, _, rfl, rfl, rfl, k1⟩
    have n5 : ¬ x = PySem.Str.ofString "evenly" := fun z => c (decide_eq_true (by rw [z]))
    clear c
    refine ⟨_, rfl, rfl, _, rfl, ite2 (fun c => ?_) (fun c => ?_)⟩
    · have c : x = PySem.Str.ofString "copied" := V.str.inj (of_decide_eq_true c)
      have k : ∀ H', Same H H' → Q (.bl (copB t.cps.toList)) H' := fun H' s' => by
        have := k H' s'
        unfold judge at this
        rw [if_neg n0, if_neg n1, if_neg n2, if_neg n3, if_neg n4, if_neg n5, if_pos c] at this
        exact this
      refine ⟨_, rfl, _, rfl, ite2 (fun cl => ?_) (fun cl => ?_)⟩
      · have c1 : t.cps.toList.count 99 = 1 := of_decide_eq_true cl
        have m9 : 99 ∈ t.cps.toList := List.count_pos_iff.mp (by omega)
        obtain ⟨r, er⟩ := spots_first m9
        rw [er] at hq2
        obtain ⟨eT, eA⟩ := cut_c m9
        refine ⟨_, rfl, _, rfl, q, _, 0, .int ((fore t.cps.toList).length : Nat), rfl, rfl, SqL.of hq2, (show atI _ ((0 : Nat) : Int) = _ from atI_nat rfl), _, rfl, t, rfl, hn, _, rfl, _, rfl, q, _, 0, .int ((fore t.cps.toList).length : Nat), rfl, rfl, SqL.of hq2, (show atI _ ((0 : Nat) : Int) = _ from atI_nat rfl), _, _, rfl, rfl, _, rfl, t, rfl, hn, rfl, ?_⟩
        have k1 := k _ s2
        unfold copB at k1
        rw [decide_eq_true c1, Bool.true_and] at k1
        rw [str_dec, eT, eA]
        exact k1
      · have k1 := k _ s2
        unfold copB at k1
        rw [Bool.eq_false_iff.mpr cl, Bool.false_and] at k1
        exact k1
    have n6 : ¬ x = PySem.Str.ofString "copied" := fun z => c (decide_eq_true (by rw [z]))
    clear c
    refine ⟨_, rfl, rfl, _, rfl, ite2 (fun c => ?_) (fun c => ?_)⟩
    · have c : x = PySem.Str.ofString "thirds" := V.str.inj (of_decide_eq_true c)
      have k : ∀ H', Same H H' → Q (.bl (thrB t.cps.toList)) H' := fun H' s' => by
        have := k H' s'
        unfold judge at this
        rw [if_neg n0, if_neg n1, if_neg n2, if_neg n3, if_neg n4, if_neg n5, if_neg n6, if_pos c] at this
        exact this
      refine ⟨_, rfl, rfl, t, _, rfl, rfl, ?_⟩
      have lm : t.cps.toList.count 97 ≤ 400 := by have := List.count_le_length (a := 97) (l := t.cps.toList); rw [len_of] at this; omega
      have k1 := k _ s2
      rw [← thr_a, ← abc_tl] at k1
      rw [count_a]
      generalize t.cps.toList.count 97 = m at lm k1 ⊢
      obtain ⟨a2, b2, c2⟩ := mul_len3 m
      have one : ∀ c : Nat, (⟨#[c]⟩ : PySem.Str).length = 1 := fun _ => rfl
      have ok : ∀ s : PySem.Str, s.length = 1 → MulOk s (m : Int) := fun s h => mulOk (by rw [h]; omega) (by omega)
      have zz : ∀ z : Nat, z ≤ 2000 → z ≤ sizeLine := fun _ h => Nat.le_trans h (by decide)
      refine ⟨_, rfl, _, rfl, _, _, rfl, rfl, ok _ (by decide +kernel), _, rfl, _, _, rfl, rfl, ok _ (by decide +kernel), _, _, rfl, rfl, zz _ (by rw [a2, b2]; omega), _, rfl, _, _, rfl, rfl, ok _ (by decide +kernel), _, _, rfl, rfl, zz _ (by rw [app_len, a2, b2, c2]; omega), rfl, ?_⟩
      rw [str_dec]
      exact k1
    have n7 : ¬ x = PySem.Str.ofString "thirds" := fun z => c (decide_eq_true (by rw [z]))
    clear c
    refine ⟨_, rfl, rfl, _, rfl, ite2 (fun c => ?_) (fun c => ?_)⟩
    · have c : x = PySem.Str.ofString "power" := V.str.inj (of_decide_eq_true c)
      have k : ∀ H', Same H H' → Q (.bl (powB t.cps.toList)) H' := fun H' s' => by
        have := k H' s'
        unfold judge at this
        rw [if_neg n0, if_neg n1, if_neg n2, if_neg n3, if_neg n4, if_neg n5, if_neg n6, if_neg n7, if_pos c] at this
        exact this
      refine ⟨_, rfl, by decide, fun p hp => ⟨p, _, rfl, .inl (SqL.of upd_same), rfl, rfl, ?_⟩⟩
      have k1 := k _ (s2.trans (same_new (o := HO.lst [V.int 1, V.int 2, V.int 4, V.int 8, V.int 16, V.int 32, V.int 64, V.int 128, V.int 256]) hp))
      unfold powB at k1
      rw [len_of] at k1
      show Q (.bl (inV (V.int (t.length : Int)) ([1, 2, 4, 8, 16, 32, 64, 128, 256].map fun b : Nat => V.int (b : Int)))) _
      rw [inV_ints]
      exact k1
    have n8 : ¬ x = PySem.Str.ofString "power" := fun z => c (decide_eq_true (by rw [z]))
    clear c
    refine ⟨_, rfl, rfl, _, rfl, ite2 (fun c => ?_) (fun c => ?_)⟩
    · have c : x = PySem.Str.ofString "twomirrors" := V.str.inj (of_decide_eq_true c)
      have k : ∀ H', Same H H' → Q (.bl (twoB t.cps.toList)) H' := fun H' s' => by
        have := k H' s'
        unfold judge at this
        rw [if_neg n0, if_neg n1, if_neg n2, if_neg n3, if_neg n4, if_neg n5, if_neg n6, if_neg n7, if_neg n8, if_pos c] at this
        exact this
      refine ⟨_, rfl, 1, _, rfl, ⟨by omega, by omega, by omega, by omega⟩, fun D hD => lc_range (lo := 1) (n := ((t.length : Int) - 1).toNat) (BlS (fun i => pal (t.cps.toList.take (1 + i)) && pal (t.cps.toList.drop (1 + i))) H D) (BlS.zero s2 hD) ?_ ?_⟩
      · intro i H3 hi hB
        have e1 : pal (cutS t none (some ((1 : Int) + (i : Int)))).cps.toList = pal (t.cps.toList.take (1 + i)) := by
          rw [show (1 : Int) + (i : Int) = ((1 + i : Nat) : Int) by omega, cut_to, Nat.min_eq_left (by omega)]
        have e2 : pal (cutS t (some ((1 : Int) + (i : Int))) none).cps.toList = pal (t.cps.toList.drop (1 + i)) := by
          rw [show (1 : Int) + (i : Int) = ((1 + i : Nat) : Int) by omega, cut_from, Nat.min_eq_left (by omega)]
        refine ⟨rfl, ?_⟩
        refine ⟨_, rfl, _, rfl, _, rfl, t, rfl, hn, _, rfl, Nat.le_trans (cut_le ..) hm, _, rfl, ?_⟩
        rw [e1]
        refine ite2 (fun c => ?_) (fun c => ?_)
        · refine ⟨_, rfl, _, rfl, _, rfl, t, rfl, hn, _, rfl, Nat.le_trans (cut_le ..) hm, ?_⟩
          refine hB.put (Same.refl _) (free_of s2 hD) (by omega) _ ?_
          rw [e2, c, Bool.true_and]
        · refine hB.put (Same.refl _) (free_of s2 hD) (by omega) _ ?_
          rw [Bool.eq_false_iff.mpr c, Bool.false_and]
      · rintro H3 ⟨s3, hD2⟩
        refine ⟨D, _, rfl, SqL.of hD2, ?_⟩
        rw [any_blL, show ((t.length : Int) - 1).toNat = t.cps.toList.length - 1 by rw [len_of]; omega]
        exact k H3 s3
    have n9 : ¬ x = PySem.Str.ofString "twomirrors" := fun z => c (decide_eq_true (by rw [z]))
    clear c
    refine ⟨_, rfl, rfl, _, rfl, ite2 (fun c => ?_) (fun c => ?_)⟩
    · have c : x = PySem.Str.ofString "evenmirrors" := V.str.inj (of_decide_eq_true c)
      have k : ∀ H', Same H H' → Q (.bl (evB t.cps.toList)) H' := fun H' s' => by
        have := k H' s'
        unfold judge at this
        rw [if_neg n0, if_neg n1, if_neg n2, if_neg n3, if_neg n4, if_neg n5, if_neg n6, if_neg n7, if_neg n8, if_neg n9, if_pos c] at this
        exact this
      exact ⟨_, rfl, t, rfl, sz, fun H3 s3 => k _ (s2.trans s3)⟩
    have n10 : ¬ x = PySem.Str.ofString "evenmirrors" := fun z => c (decide_eq_true (by rw [z]))
    clear c
    have k1 := k _ s2
    unfold judge at k1
    rw [if_neg n0, if_neg n1, if_neg n2, if_neg n3, if_neg n4, if_neg n5, if_neg n6, if_neg n7, if_neg n8, if_neg n9, if_neg n10] at k1
    exact k1
end
end Mk

set_option Elab.async false
set_option linter.unusedVariables false
set_option maxRecDepth 100000
set_option maxHeartbeats 4000000
namespace Mk
open PySem L2 Pk
/-- the names of the programs -/
def namesL : List PySem.Str := [PySem.Str.ofString "mirrored", PySem.Str.ofString "found", PySem.Str.ofString "bordered", PySem.Str.ofString "mirrorstart", PySem.Str.ofString "balanced", PySem.Str.ofString "evenly", PySem.Str.ofString "copied", PySem.Str.ofString "thirds", PySem.Str.ofString "power", PySem.Str.ofString "backwards", PySem.Str.ofString "doubling", PySem.Str.ofString "chant", PySem.Str.ofString "rounds", PySem.Str.ofString "twomirrors", PySem.Str.ofString "evenmirrors"]
/-- what a program answers of a text -/
def dueT (x : PySem.Str) (l : List Nat) : PySem.Str :=
  if x = PySem.Str.ofString "chant" ∨ x = PySem.Str.ofString "rounds" then PySem.Str.ofString "endless" else if judge x l = true then PySem.Str.ofString "yes" else PySem.Str.ofString "no"
theorem inV_strs (x : PySem.Str) (L : List PySem.Str) : inV (V.str x) (L.map V.str) = decide (x ∈ L) := by
  unfold inV
  rw [List.any_map]
  refine Bool.eq_iff_iff.mpr ⟨fun h => ?_, fun h => ?_⟩
  · obtain ⟨b, m, hb⟩ := List.any_eq_true.mp h
    have e : b = x := by simpa [eqV] using hb
    exact decide_eq_true (e ▸ m)
  · exact List.any_eq_true.mpr ⟨x, of_decide_eq_true h, by simp [eqV]⟩
section
variable {P : Program} {w : World} {K : PySem.W.Frag} {mg : PySem.Str → Option Value} {base : Heap}
/-! _law_names -/
def spNames : Sp := fun vs H Q _ => vs = [] ∧ ∀ (p : Addr) (H' : Hp), H p = none → Same H H' → H' p = some (.lst (namesL.map V.str)) → Q (.ref p) H'
theorem scNames : FnScope ["names"] [] (defScope sNames) := ⟨rfl, rfl, rfl, by decide +kernel, rfl, by decide +kernel, by decide +kernel⟩
theorem ok_names {f : Addr} {fd : FuncData} (F : Fun K "_law_names" "_law_names" sNames f fd) : FnOk P w K mg base CX0 1 f fd [] spNames := by
  refine F.ok scNames (fun vs H Q E h => ?_) (fun cdv A outer s H vs Q E hr h => ?_)
  · obtain ⟨rfl, _⟩ := h
    rfl
  · obtain ⟨rfl, k⟩ := h
    have nd := scNames.nd
    refine ⟨_, (pss_cons (ps_set (i := 0) nd rfl (Or.inl rfl) (pe_lst (pa_cons pe_str (pa_cons pe_str (pa_cons pe_str (pa_cons pe_str (pa_cons pe_str (pa_cons pe_str (pa_cons pe_str (pa_cons pe_str (pa_cons pe_str (pa_cons pe_str pa_nil))))))))))))
      (pss_one (ps_ret (pe_op op_cat (pv 0) (pe_lst (pa_cons pe_str (pa_cons pe_str (pa_cons pe_str (pa_cons pe_str (pa_cons pe_str pa_nil)))))))))), ?_⟩
    refine ⟨by decide, fun p hp => ?_⟩
    dsimp only [gName]
    have s1 : Same H (upd H p (.lst ((namesL.take 10).map V.str))) := same_new hp
    refine ⟨_, rfl, by decide, fun q hq => ⟨p, q, _, _, rfl, rfl, same_new hq _ _ upd_same, upd_same, by decide, fun r hr => ?_⟩⟩
    have s2 := (s1.trans (same_new (o := HO.lst ((namesL.drop 10).map V.str)) hq)).trans (same_new (o := HO.lst (namesL.map V.str)) hr)
    exact k r _ (free_of (s1.trans (same_new (o := HO.lst ((namesL.drop 10).map V.str)) hq)) hr) s2 upd_same
/-! _law_due -/
def spDue : Sp := fun vs H Q _ => ∃ x t : PySem.Str, vs = [.str x, .str t] ∧ t.length ≤ 400 ∧ ∀ H', Same H H' → Q (.str (dueT x t.cps.toList)) H'
theorem scDue : FnScope ["name", "text"] ["name", "text"] (defScope sDue) := ⟨rfl, rfl, rfl, by decide +kernel, rfl, by decide +kernel, by decide +kernel⟩
theorem ok_due {f : Addr} {fd : FuncData} (F : Fun K "_law_due" "_law_due" sDue f fd) (T : TM mg) (GG : Got P w K mg base "_law_good" 4 ["name", "text"] spGood) : FnOk P w K mg base CX0 5 f fd ["name", "text"] spDue := by
  refine F.ok scDue (fun vs H Q E h => ?_) (fun cdv A outer s H vs Q E hr h => ?_)
  · obtain ⟨x, t, rfl, _⟩ := h
    rfl
  · obtain ⟨x, t, rfl, sz, k⟩ := h
    have h4 := hr
    refine ⟨_, (pss_cons (ps_if (pt_cmpR op_in_seq (pv 0) (pe_lst (pa_cons pe_str (pa_cons pe_str pa_nil))) rfl)
        (pss_one (ps_ret pe_str))
        pss_nil)
      (pss_one (ps_ret (pe_ix ix_list (pe_lst (pa_cons pe_str (pa_cons pe_str pa_nil))) (pe_callTy call_int1 (by rfl) T.int PyProof.Rows.Boot.int (pa_cons (pe_got GG h4 (by rfl) (pa_cons (pv 0) (pa_cons (pv 1) pa_nil))) pa_nil)) fun _ _ => rfl)))), ?_⟩
    refine ⟨_, rfl, by decide, fun p hp => ⟨p, _, rfl, .inl (SqL.of upd_same), rfl, rfl, _, rfl, ?_⟩⟩
    have s1 := same_new (o := HO.lst [V.str (PySem.Str.ofString "chant"), V.str (PySem.Str.ofString "rounds")]) hp
    have e : inV (V.str x) [V.str (PySem.Str.ofString "chant"), V.str (PySem.Str.ofString "rounds")] = decide (x = PySem.Str.ofString "chant" ∨ x = PySem.Str.ofString "rounds") := by
      have := inV_strs x [PySem.Str.ofString "chant", PySem.Str.ofString "rounds"]
      rw [show [PySem.Str.ofString "chant", PySem.Str.ofString "rounds"].map V.str = [V.str (PySem.Str.ofString "chant"), V.str (PySem.Str.ofString "rounds")] from rfl] at this
      rw [this]
      exact decide_eq_decide.mpr (by simp)
    show ite (inV (V.str x) [V.str (PySem.Str.ofString "chant"), V.str (PySem.Str.ofString "rounds")] = true) _ _
    rw [e]
    unfold dueT at k
    refine ite2 (fun c => ?_) (fun c => ?_)
    · have k1 := k _ s1
      rw [if_pos (of_decide_eq_true c)] at k1
      exact k1
    · rw [if_neg fun z => c (decide_eq_true z)] at k
      refine ⟨by decide, fun q hq => ?_⟩
      have s2 := same_new (o := HO.lst [V.str (PySem.Str.ofString "no"), V.str (PySem.Str.ofString "yes")]) hq
      refine ⟨_, rfl, _, rfl, x, t, rfl, sz, fun H3 s3 => ?_⟩
      have k1 := k H3 ((s1.trans s2).trans s3)
      have hq3 := s3 _ _ (show (upd (upd H p (.lst [V.str (PySem.Str.ofString "chant"), V.str (PySem.Str.ofString "rounds")])) q (.lst [V.str (PySem.Str.ofString "no"), V.str (PySem.Str.ofString "yes")])) q = _ from upd_same)
      refine .inr ⟨_, rfl, ?_⟩
      cases hj : judge x t.cps.toList with
      | true =>
        rw [hj, if_pos rfl] at k1
        exact ⟨q, _, 1, _, rfl, rfl, SqL.of hq3, (show atI _ ((1 : Nat) : Int) = _ from atI_nat rfl), k1⟩
      | false =>
        rw [hj, if_neg Bool.false_ne_true] at k1
        exact ⟨q, _, 0, _, rfl, rfl, SqL.of hq3, (show atI _ ((0 : Nat) : Int) = _ from atI_nat rfl), k1⟩
/-! _law_brackets -/
def spBr : Sp := fun vs H Q _ => ∃ t : PySem.Str, vs = [.str t] ∧ t.length ≤ 2000 ∧ ∀ u : PySem.Str, u.length ≤ 2 * t.length → asc u → Q (.str u) H
abbrev nBr : List PySem.Str := ["part", "made", "depth", "letter"]
theorem scBr : FnScope nBr ["part"] (defScope sBrackets) := ⟨rfl, rfl, rfl, by decide +kernel, rfl, by decide +kernel, by decide +kernel⟩
theorem ok_br {f : Addr} {fd : FuncData} (F : Fun K "_law_brackets" "_law_brackets" sBrackets f fd) : FnOk P w K mg base CX0 1 f fd ["part"] spBr := by
  refine F.ok scBr (fun vs H Q E h => ?_) (fun cdv A outer s H vs Q E hr h => ?_)
  · obtain ⟨t, rfl, _⟩ := h
    rfl
  · obtain ⟨t, rfl, sz, k⟩ := h
    have nd := scBr.nd
    refine ⟨_, (pss_cons (ps_set (i := 1) nd rfl (Or.inl rfl) pe_str)
      (pss_cons (ps_set (i := 2) nd rfl (Or.inl rfl) pe_int)
      (pss_cons (ps_for PassesOwn.never rfl (pi_str (pv 0)) (pg_name (i := 3) nd rfl (Or.inl rfl))
        (pss_one (ps_if (PW.pt (pw_or (pt_cmpR op_eq (pv 3) pe_str (nomark _)) (pw_or1 (PW.pt (pw_and (pt_cmpR op_eq (pv 3) pe_str (nomark _)) (pw_and1 (pt_cmpR op_eq (pv 2) pe_int (nomark _))))))))
          (pss_cons (ps_set (i := 1) nd rfl (Or.inl rfl) (pe_op op_add_str (pv 1) pe_str))
          (pss_one (ps_set (i := 2) nd rfl (Or.inl rfl) (pe_op op_add (pv 2) pe_int))))
          (pss_one (ps_if (pt_cmpR op_eq (pv 3) pe_str (nomark _))
            (pss_cons (ps_set (i := 1) nd rfl (Or.inl rfl) (pe_op op_add_str (pv 1) pe_str))
            (pss_one (ps_set (i := 2) nd rfl (Or.inl rfl) (pe_op op_sub (pv 2) pe_int))))
            (pss_one (ps_set (i := 1) nd rfl (Or.inl rfl) (pe_op op_add_str (pv 1) pe_str))))))))
      (pss_one (ps_ret (pe_op op_add_str (pv 1) (pe_op op_mulS pe_str (pv 2)))))))), ?_⟩
    have zz : ∀ z : Nat, z ≤ 20000 → z ≤ sizeLine := fun _ h => Nat.le_trans h (by decide)
    have one : ∀ c : Nat, (⟨#[c]⟩ : PySem.Str).length = 1 := fun _ => rfl
    have la : (PySem.Str.ofString "a").length = 1 := by decide +kernel
    have lb : (PySem.Str.ofString "b").length = 1 := by decide +kernel
    have lc : (PySem.Str.ofString "c").length = 1 := by decide +kernel
    refine ⟨_, rfl, t, rfl, for_it walk_str (fun j σ H' => H' = H ∧ ∃ (m : PySem.Str) (d : Int) (v : Option V), σ = [some (.str t), some (.str m), some (.int d), v] ∧ m.length = j ∧ 0 ≤ d ∧ d ≤ j ∧ asc m)
      ⟨rfl, _, 0, none, rfl, by decide +kernel, Int.le_refl _, Int.le_refl _, by decide +kernel⟩ (fun _ _ _ _ _ => trivial) ?_ ?_⟩
    · rintro j v σ H1 H2 hj ⟨rfl, m, d, v5, rfl, hm, d0, hd, am⟩ ⟨rfl, c, hc, rfl⟩
      have jl : j < 2000 := Nat.lt_of_lt_of_le hj sz
      have ex : ∀ (s : PySem.Str), s.length = 1 → (m ++ s).length = j + 1 := fun s h => by rw [app_len, hm, h]
      have ez : ∀ (s : PySem.Str), s.length = 1 → m.length + s.length ≤ sizeLine := fun s h => zz _ (by rw [hm, h]; omega)
      dsimp only [gName]
      refine ⟨_, rfl, rfl, _, rfl, ite2 (fun c1 => ?_) (fun c1 => ⟨_, rfl, rfl, _, rfl, ite2 (fun c2 => ⟨_, rfl, rfl, _, rfl, ite2 (fun c3 => ?_) (fun c3 => ?_)⟩) (fun c2 => ?_)⟩)⟩
      · exact ⟨_, rfl, _, _, rfl, rfl, ez _ la, _, rfl, _, _, rfl, rfl, rfl, _, _, _, rfl, ex _ la, by omega, by omega, asc_app am (by decide +kernel)⟩
      · exact ⟨_, rfl, _, _, rfl, rfl, ez _ la, _, rfl, _, _, rfl, rfl, rfl, _, _, _, rfl, ex _ la, by omega, by omega, asc_app am (by decide +kernel)⟩
      · have dn : ¬ d = 0 := fun z => c3 (decide_eq_true (by rw [z]))
        refine ⟨_, rfl, rfl, _, rfl, ite2 (fun c4 => ?_) (fun c4 => ?_)⟩
        · exact ⟨_, rfl, _, _, rfl, rfl, ez _ lb, _, rfl, _, _, rfl, rfl, rfl, _, _, _, rfl, ex _ lb, by omega, by omega, asc_app am (by decide +kernel)⟩
        · exact ⟨_, rfl, _, _, rfl, rfl, ez _ lc, rfl, _, _, _, rfl, ex _ lc, by omega, by omega, asc_app am (by decide +kernel)⟩
      · refine ⟨_, rfl, rfl, _, rfl, ite2 (fun c4 => absurd c4 c2) (fun c4 => ?_)⟩
        exact ⟨_, rfl, _, _, rfl, rfl, ez _ lc, rfl, _, _, _, rfl, ex _ lc, by omega, by omega, asc_app am (by decide +kernel)⟩
    · rintro σ H1 ⟨rfl, m, d, v, rfl, hm, d0, hd, am⟩
      have hm : m.length = t.length := hm
      have hd : d ≤ (t.length : Int) := hd
      obtain ⟨e, rfl⟩ : ∃ e : Nat, d = (e : Int) := ⟨d.toNat, by omega⟩
      have le : (Txt.mul (PySem.Str.ofString "b") (e : Int)).length = e := (mul_len3 e).2.1
      exact ⟨_, rfl, _, rfl, _, _, rfl, rfl, mulOk (by rw [lb]; omega) (by omega), _, _, rfl, rfl, zz _ (by rw [le]; omega), k _ (by rw [app_len, le]; omega) (asc_app am (asc_mul (by decide +kernel)))⟩
end
end Mk

set_option Elab.async false
set_option linter.unusedVariables false
set_option maxRecDepth 100000
set_option maxHeartbeats 8000000
namespace Mk
open PySem L2 Pk
/-! what a value is, by its data -/
def tyN : PyData → String
  | .none => "NoneType"
  | .bool _ => "bool"
  | .int _ => "int"
  | .str _ => "str"
  | .list _ => "list"
  | .tuple _ => "tuple"
  | .dict _ => "dict"
theorem dp_tyx {K : PySem.W.Frag} {H : Hp} {v : V} {d : PyData} (h : Dp K H v d) : TyX K H v (.type (tyN d)) := by
  cases h with
  | non => exact .base .non
  | bl b => exact .base (.bl b)
  | int i => exact .base (.int i)
  | str x => exact .base (.str x)
  | lst hs _ => exact tyx_sq (b := true) hs
  | tup hs _ => exact tyx_sq (b := false) hs
def isIntT : PyData → Bool
  | .int _ => true
  | .bool _ => true
  | _ => false
def isBoolT : PyData → Bool
  | .bool _ => true
  | _ => false
def isStrT : PyData → Bool
  | .str _ => true
  | _ => false
def isSeqT : PyData → Bool
  | .list _ => true
  | .tuple _ => true
  | _ => false
def isIntD : PyData → Bool
  | .int _ => true
  | _ => false
theorem kit_int {K : PySem.W.Frag} : ∀ d : PyData, PySem.W.kitOne K (.type (tyN d)) (.type "int") = some (isIntT d)
  | .none => (kit_ty (by decide +kernel) : PySem.W.kitOne K (.type "NoneType") (.type "int") = some false)
  | .bool _ => (kit_ty (by decide +kernel) : PySem.W.kitOne K (.type "bool") (.type "int") = some true)
  | .int _ => (kit_ty (by decide +kernel) : PySem.W.kitOne K (.type "int") (.type "int") = some true)
  | .str _ => (kit_ty (by decide +kernel) : PySem.W.kitOne K (.type "str") (.type "int") = some false)
  | .list _ => (kit_ty (by decide +kernel) : PySem.W.kitOne K (.type "list") (.type "int") = some false)
  | .tuple _ => (kit_ty (by decide +kernel) : PySem.W.kitOne K (.type "tuple") (.type "int") = some false)
  | .dict _ => (kit_ty (by decide +kernel) : PySem.W.kitOne K (.type "dict") (.type "int") = some false)
theorem kit_bool {K : PySem.W.Frag} : ∀ d : PyData, PySem.W.kitOne K (.type (tyN d)) (.type "bool") = some (isBoolT d)
  | .none => (kit_ty (by decide +kernel) : PySem.W.kitOne K (.type "NoneType") (.type "bool") = some false)
  | .bool _ => (kit_ty (by decide +kernel) : PySem.W.kitOne K (.type "bool") (.type "bool") = some true)
  | .int _ => (kit_ty (by decide +kernel) : PySem.W.kitOne K (.type "int") (.type "bool") = some false)
  | .str _ => (kit_ty (by decide +kernel) : PySem.W.kitOne K (.type "str") (.type "bool") = some false)
  | .list _ => (kit_ty (by decide +kernel) : PySem.W.kitOne K (.type "list") (.type "bool") = some false)
  | .tuple _ => (kit_ty (by decide +kernel) : PySem.W.kitOne K (.type "tuple") (.type "bool") = some false)
  | .dict _ => (kit_ty (by decide +kernel) : PySem.W.kitOne K (.type "dict") (.type "bool") = some false)
theorem kit_str {K : PySem.W.Frag} : ∀ d : PyData, PySem.W.kitOne K (.type (tyN d)) (.type "str") = some (isStrT d)
  | .none => (kit_ty (by decide +kernel) : PySem.W.kitOne K (.type "NoneType") (.type "str") = some false)
  | .bool _ => (kit_ty (by decide +kernel) : PySem.W.kitOne K (.type "bool") (.type "str") = some false)
  | .int _ => (kit_ty (by decide +kernel) : PySem.W.kitOne K (.type "int") (.type "str") = some false)
  | .str _ => (kit_ty (by decide +kernel) : PySem.W.kitOne K (.type "str") (.type "str") = some true)
  | .list _ => (kit_ty (by decide +kernel) : PySem.W.kitOne K (.type "list") (.type "str") = some false)
  | .tuple _ => (kit_ty (by decide +kernel) : PySem.W.kitOne K (.type "tuple") (.type "str") = some false)
  | .dict _ => (kit_ty (by decide +kernel) : PySem.W.kitOne K (.type "dict") (.type "str") = some false)
theorem kit_sq {K : PySem.W.Frag} (d : PyData) : PySem.W.kitAny K (.type (tyN d)) [.type "list", .type "tuple"] = some (isSeqT d) := by
  have go : ∀ (s : String) (a b : Bool), PySem.W.kitOne K (.type s) (.type "list") = some a → PySem.W.kitOne K (.type s) (.type "tuple") = some b → PySem.W.kitAny K (.type s) [.type "list", .type "tuple"] = some (a || b) := fun s a b h1 h2 => by
    cases a
    · cases b
      · exact kitAny_cons (b := false) h1 (fun _ => kitAny_cons (b := false) h2 (fun _ => rfl) fun z => nomatch z) fun z => nomatch z
      · exact kitAny_cons (b := false) h1 (fun _ => kitAny_cons (b := true) h2 (fun z => nomatch z) fun _ => rfl) fun z => nomatch z
    · exact kitAny_cons (b := true) h1 (fun z => nomatch z) fun _ => rfl
  match d with
  | .none => exact go "NoneType" false false (kit_ty (by decide +kernel)) (kit_ty (by decide +kernel))
  | .bool _ => exact go "bool" false false (kit_ty (by decide +kernel)) (kit_ty (by decide +kernel))
  | .int _ => exact go "int" false false (kit_ty (by decide +kernel)) (kit_ty (by decide +kernel))
  | .str _ => exact go "str" false false (kit_ty (by decide +kernel)) (kit_ty (by decide +kernel))
  | .list _ => exact go "list" true false (kit_ty (by decide +kernel)) (kit_ty (by decide +kernel))
  | .tuple _ => exact go "tuple" false true (kit_ty (by decide +kernel)) (kit_ty (by decide +kernel))
  | .dict _ => exact go "dict" false false (kit_ty (by decide +kernel)) (kit_ty (by decide +kernel))
theorem dp_seq {K : PySem.W.Frag} {H : Hp} {v : V} {d : PyData} (h : Dp K H v d) (e : isSeqT d = true) : ∃ (a : Addr) (b : Bool) (xs : List V) (ds : List PyData), v = .ref a ∧ SqB b K H a xs ∧ DpAll K H xs ds ∧ d = (if b = true then .list ds else .tuple ds) := by
  cases h with
  | lst hs ha => exact ⟨_, true, _, _, rfl, hs, ha, rfl⟩
  | tup hs ha => exact ⟨_, false, _, _, rfl, hs, ha, rfl⟩
  | _ => cases e
theorem dp_str {K : PySem.W.Frag} {H : Hp} {v : V} {d : PyData} (h : Dp K H v d) (e : isStrT d = true) : ∃ x, v = .str x ∧ d = .str x := by
  cases h with
  | str x => exact ⟨x, rfl, rfl⟩
  | _ => cases e
theorem dp_int {K : PySem.W.Frag} {H : Hp} {v : V} {d : PyData} (h : Dp K H v d) (e : isIntD d = true) : ∃ n, v = .int n ∧ d = .int n := by
  cases h with
  | int n => exact ⟨n, rfl, rfl⟩
  | _ => cases e
end Mk

set_option Elab.async false
set_option linter.unusedVariables false
set_option maxRecDepth 100000
set_option maxHeartbeats 4000000
namespace Mk
open PySem L2 Pk
/-- a text, or what is no text and may be handed in its place -/
def okVal : PyData → Prop
  | .none => True
  | .bool _ => True
  | .int i => 0 ≤ i ∧ i ≤ 10
  | .str t => t.length ≤ 450 ∧ asc t
  | .list ds => ds.length ≤ 450 ∧ ∀ d ∈ ds, ∃ s : PySem.Str, d = .str s ∧ s.length ≤ 450 ∧ asc s
  | .tuple ds => ds.length ≤ 450 ∧ ∀ d ∈ ds, ∃ s : PySem.Str, d = .str s ∧ s.length ≤ 450 ∧ asc s
  | .dict _ => False
theorem dpa_strs {K : PySem.W.Frag} {H : Hp} : ∀ (L : List PySem.Str), DpAll K H (L.map V.str) (L.map PyData.str)
  | [] => .nil
  | x :: r => .cons (.str x) (dpa_strs r)
theorem okVal_list {L : List PySem.Str} (h : L.length ≤ 450) (g : ∀ x ∈ L, x.length ≤ 450 ∧ asc x) : okVal (.list (L.map PyData.str)) :=
  ⟨by rw [List.length_map]; exact h, fun d m => by obtain ⟨x, mx, rfl⟩ := List.mem_map.mp m; exact ⟨x, rfl, g x mx⟩⟩
theorem okVal_tup {L : List PySem.Str} (h : L.length ≤ 450) (g : ∀ x ∈ L, x.length ≤ 450 ∧ asc x) : okVal (.tuple (L.map PyData.str)) :=
  ⟨by rw [List.length_map]; exact h, fun d m => by obtain ⟨x, mx, rfl⟩ := List.mem_map.mp m; exact ⟨x, rfl, g x mx⟩⟩
/-- the letters of a text -/
def lettersT (t : PySem.Str) : List PySem.Str := t.cps.toList.map fun c => ⟨#[c]⟩
section
variable {P : Program} {w : World} {K : PySem.W.Frag} {mg : PySem.Str → Option Value} {base : Heap}
/-! _law_long -/
def spLong : Sp := fun vs H Q _ => ∃ (t b : PySem.Str) (kd sz : Nat), vs = [.str t, .str b, .int (kd : Int), .int (sz : Int)] ∧ t.length ≤ 400 ∧ b.length ≤ 41 ∧ kd < 9 ∧ sz ≤ 403 ∧ asc t ∧ asc b ∧ ∀ (u : PySem.Str) (H' : Hp), Same H H' → u.length ≤ 403 → asc u → Q (.str u) H'
abbrev nLong : List PySem.Str := ["text", "base", "kind", "size"]
theorem scLong : FnScope nLong nLong (defScope sLong) := ⟨rfl, rfl, rfl, by decide +kernel, rfl, by decide +kernel, by decide +kernel⟩
theorem ok_long {f : Addr} {fd : FuncData} (F : Fun K "_law_long" "_law_long" sLong f fd) : FnOk P w K mg base CX0 1 f fd nLong spLong := by
  refine F.ok scLong (fun vs H Q E h => ?_) (fun cdv A outer s H vs Q E hr h => ?_)
  · obtain ⟨t, b, kd, sz, rfl, _⟩ := h
    rfl
  · obtain ⟨t, b, kd, sz, rfl, lt, lb, lk, ls, at_, ab, k⟩ := h
    refine ⟨_, (pss_cons (ps_if (pt_cmpR op_lt (pv 2) pe_int (nomark _))
        (pss_one (ps_ret (pv 0)))
        pss_nil)
      (pss_one (ps_ret (pe_slice sl_str (pe_op op_mulS (pv 1) pe_int) po_none (po_some (pe_ix ix_list (pe_lst (pa_cons pe_int (pa_cons pe_int (pa_cons pe_int (pa_cons pe_int (pa_cons (pv 3) pa_nil)))))) (pe_op op_sub (pv 2) pe_int) fun _ _ => rfl)))))), ?_⟩
    refine ⟨_, rfl, _, _, rfl, rfl, _, rfl, ite2 (fun c => ⟨_, rfl, k _ _ (Same.refl _) (by omega) at_⟩) (fun c => ?_)⟩
    have k4 : 4 ≤ kd := by
      rcases Nat.lt_or_ge kd 4 with h | h
      · exact absurd (decide_eq_true (by omega)) c
      · exact h
    have lm : (Txt.mul b (403 : Int)).length ≤ 20000 := by
      have e := congrArg List.length (mul_tl b 403)
      rw [Array.length_toList, PyProof.Rows.lm_len_rep_flat, Array.length_toList] at e
      have e : (Txt.mul b (403 : Int)).length = 403 * b.length := e
      rw [e]
      omega
    refine ⟨_, rfl, _, _, rfl, rfl, mulOk (q := 403) (by omega) (by decide), ?_⟩
    refine ⟨_, rfl, show 5 ≤ sizeLine by decide, fun p hp => ⟨_, rfl, _, _, rfl, rfl, ?_⟩⟩
    have s1 := same_new (o := HO.lst [V.int 400, V.int 401, V.int 40, V.int 41, V.int (sz : Int)]) hp
    have fin : ∀ n : Nat, n ≤ 403 → Q (.str (cutS (Txt.mul b (403 : Int)) none (some (n : Int)))) (upd H p (.lst [V.int 400, V.int 401, V.int 40, V.int 41, V.int (sz : Int)])) := fun n h => k _ _ s1 (by
      rw [← len_of, cut_to, List.length_take]
      omega) (asc_cut (asc_mul ab))
    have zz : (Txt.mul b (403 : Int)).length ≤ sizeLine := Nat.le_trans lm (by decide)
    rcases (show kd = 4 ∨ kd = 5 ∨ kd = 6 ∨ kd = 7 ∨ kd = 8 by omega) with rfl | rfl | rfl | rfl | rfl
    · exact ⟨p, _, _, _, rfl, rfl, SqL.of upd_same, rfl, _, rfl, _, rfl, zz, fin 400 (by omega)⟩
    · exact ⟨p, _, _, _, rfl, rfl, SqL.of upd_same, (show atI _ ((1 : Nat) : Int) = _ from atI_nat rfl), _, rfl, _, rfl, zz, fin 401 (by omega)⟩
    · exact ⟨p, _, _, _, rfl, rfl, SqL.of upd_same, (show atI _ ((2 : Nat) : Int) = _ from atI_nat rfl), _, rfl, _, rfl, zz, fin 40 (by omega)⟩
    · exact ⟨p, _, _, _, rfl, rfl, SqL.of upd_same, (show atI _ ((3 : Nat) : Int) = _ from atI_nat rfl), _, rfl, _, rfl, zz, fin 41 (by omega)⟩
    · exact ⟨p, _, _, _, rfl, rfl, SqL.of upd_same, (show atI _ ((4 : Nat) : Int) = _ from atI_nat rfl), _, rfl, _, rfl, zz, fin sz ls⟩
end
end Mk

set_option Elab.async false
set_option linter.unusedVariables false
set_option maxRecDepth 100000
set_option maxHeartbeats 4000000
namespace Mk
open PySem L2 Pk
section
variable {P : Program} {w : World} {K : PySem.W.Frag} {mg : PySem.Str → Option Value} {base : Heap}
/-! _law_bad -/
def spBadT (K : PySem.W.Frag) : Sp := fun vs H Q _ => ∃ (t : PySem.Str) (kd sp : Nat), vs = [.str t, .int (kd : Int), .int (sp : Int)] ∧ t.length ≤ 400 ∧ kd < 16 ∧ sp ≤ 1000 ∧ asc t ∧ ∀ (v : V) (d : PyData) (H' : Hp), Same H H' → Dp K H' v d → okVal d → Q v H'
abbrev nBadT : List PySem.Str := ["text", "kind", "spot", "at", "sign", "letter"]
theorem scBadT : FnScope nBadT ["text", "kind", "spot"] (defScope sBad) := ⟨rfl, rfl, rfl, by decide +kernel, rfl, by decide +kernel, by decide +kernel⟩
theorem letters_len (t : PySem.Str) : (lettersT t).length = t.length := by
  unfold lettersT
  rw [List.length_map, len_of]
theorem letters_one {t : PySem.Str} (ha : asc t) : ∀ x ∈ lettersT t, x.length ≤ 450 ∧ asc x := fun x m => by
  obtain ⟨c, mc, rfl⟩ := List.mem_map.mp m
  exact ⟨(show (1 : Nat) ≤ 450 by decide), fun c' m' => by
    have m' : c' ∈ [c] := m'
    rw [List.mem_singleton.mp m']
    exact ha c mc⟩
theorem ok_badT {f : Addr} {fd : FuncData} (F : Fun K "_law_bad" "_law_bad" sBad f fd) (T : TM mg) : FnOk P w K mg base CX0 1 f fd ["text", "kind", "spot"] (spBadT K) := by
  refine F.ok scBadT (fun vs H Q E h => ?_) (fun cdv A outer s H vs Q E hr h => ?_)
  · obtain ⟨t, kd, sp, rfl, _⟩ := h
    rfl
  · obtain ⟨t, kd, sp, rfl, lt, lk, lsp, at_, k⟩ := h
    have nd := scBadT.nd
    have hn : t.length ≤ sizeLine := Nat.le_trans lt (by decide)
    refine ⟨_, (pss_cons (ps_set (i := 3) nd rfl (Or.inl rfl) (pe_op op_mod (pe_callTy call_int1 (by rfl) T.int PyProof.Rows.Boot.int (pa_cons (pv 2) pa_nil)) (pe_op op_add (pe_callB call_len_str (by rfl) T.len PySem.boot_len (pa_cons (pv 0) pa_nil)) pe_int)))
      (pss_cons (ps_if (pt_cmpR op_lt (pv 1) pe_int (nomark _))
        (pss_one (ps_ret (pe_ix ix_list (pe_lst (pa_cons pe_non (pa_cons pe_int (pa_cons pe_bl (pa_cons (pe_lst pa_nil) (pa_cons (pe_lc (own := [("letter", 5)]) (g := gName 5) (tt := tYes) (by rfl) nd (pi_str (pv 0)) (blkOk_by (own := [("letter", 5)]) (N := nBadT) (sc := defScope sBad) (by decide +kernel)) (fun _ _ _ _ _ => pg_name (i := 5) nd rfl (Or.inl rfl)) (fun _ _ _ _ _ => pts_nil) (fun _ _ _ _ _ => (pv 5))) (pa_cons (pe_callTy (call_tuple_of) (by rfl) T.tuple PyProof.Rows.Boot.tuple (pa_cons (pe_lc (own := [("letter", 5)]) (g := gName 5) (tt := tYes) (by rfl) nd (pi_str (pv 0)) (blkOk_by (own := [("letter", 5)]) (N := nBadT) (sc := defScope sBad) (by decide +kernel)) (fun _ _ _ _ _ => pg_name (i := 5) nd rfl (Or.inl rfl)) (fun _ _ _ _ _ => pts_nil) (fun _ _ _ _ _ => (pv 5))) pa_nil)) pa_nil))))))) (pv 1) fun _ _ => rfl)))
        pss_nil)
      (pss_cons (ps_set (i := 4) nd rfl (Or.inl rfl) (pe_ix ix_list (pe_lst (pa_cons pe_str (pa_cons pe_str (pa_cons pe_str (pa_cons pe_str (pa_cons pe_str (pa_cons pe_str (pa_cons pe_str (pa_cons pe_str (pa_cons pe_str (pa_cons pe_str pa_nil))))))))))) (pe_op op_sub (pv 1) pe_int) fun _ _ => rfl))
      (pss_one (ps_ret (pe_op op_add_str (pe_op op_add_str (pe_slice sl_str (pv 0) po_none (po_some (pv 3))) (pv 4)) (pe_slice sl_str (pv 0) (po_some (pv 3)) po_none))))))), ?_⟩
    have lz : ∀ j : Nat, j ≤ t.length → (((lettersT t).take j).map V.str).length < sizeLine := fun j h => by
      rw [List.length_map, List.length_take]
      exact Nat.lt_of_le_of_lt (Nat.le_trans (Nat.min_le_left _ _) (Nat.le_trans h lt)) (by decide)
    have lstep : ∀ {j c : Nat}, t.cps[j]? = some c → (lettersT t).take (j + 1) = (lettersT t).take j ++ [⟨#[c]⟩] := fun {j c} hc => take_succ_of (by
      unfold lettersT
      rw [List.getElem?_map, Array.getElem?_toList, hc] <;> rfl)
    have lall : (lettersT t).take t.cps.size = lettersT t := List.take_of_length_le (Nat.le_of_eq (letters_len t))
    refine ⟨_, rfl, .inl ⟨_, rfl, _, rfl, t, rfl, hn, _, _, rfl, rfl, _, _, rfl, rfl, by show (0 : Int) < _; omega, ?_⟩⟩
    obtain ⟨av, eav⟩ : ∃ av : Nat, av = sp % (t.length + 1) := ⟨_, rfl⟩
    have ea : (sp : Int) % ((t.length : Int) + 1) = (av : Int) := by rw [show (t.length : Int) + 1 = ((t.length + 1 : Nat) : Int) by omega, ← Int.natCast_emod, eav]
    have lav : av ≤ t.length := by rw [eav]; exact Nat.le_of_lt_succ (Nat.mod_lt _ (Nat.succ_pos _))
    dsimp only
    rw [ea]
    dsimp only [gName]
    refine ⟨_, rfl, _, _, rfl, rfl, _, rfl, ite2 (fun c => ?_) (fun c => ?_)⟩
    · have k6 : kd < 6 := by
        have := of_decide_eq_true c
        omega
      refine ⟨Nat.zero_le _, fun a ha => ?_⟩
      have sA := same_new (o := HO.lst []) ha
      refine ⟨_, rfl, t, rfl, fun D hD => lc_it walk_str (fun j H' => Same (upd H a (.lst [])) H' ∧ H' D = some (.lst (((lettersT t).take j).map V.str))) ⟨same_new hD, upd_same⟩ (fun _ _ _ _ => trivial) ?_ ?_⟩
      · rintro j v H2 H3 hj ⟨s2, hD2⟩ ⟨rfl, cc, hc, rfl⟩
        refine ⟨rfl, _, rfl, _, hD2, lz j (Nat.le_of_lt hj), same_mut s2 hD, ?_⟩
        rw [upd_same, lstep hc, List.map_append]
        rfl
      rintro H2 ⟨s2, hD2⟩
      rw [lall] at hD2
      have sB := sA.trans s2
      refine ⟨_, rfl, t, rfl, fun G hG => lc_it walk_str (fun j H' => Same H2 H' ∧ H' G = some (.lst (((lettersT t).take j).map V.str))) ⟨same_new hG, upd_same⟩ (fun _ _ _ _ => trivial) ?_ ?_⟩
      · rintro j v H3 H4 hj ⟨s3, hG3⟩ ⟨rfl, cc, hc, rfl⟩
        refine ⟨rfl, _, rfl, _, hG3, lz j (Nat.le_of_lt hj), same_mut s3 hG, ?_⟩
        rw [upd_same, lstep hc, List.map_append]
        rfl
      rintro H3 ⟨s3, hG3⟩
      rw [lall] at hG3
      refine ⟨G, _, rfl, .inl ⟨SqL.of hG3, fun q hq => ?_⟩⟩
      have s4 := same_new (o := HO.tup ((lettersT t).map V.str)) hq
      refine ⟨show 6 ≤ sizeLine by decide, fun p hp => ⟨_, rfl, ?_⟩⟩
      have s5 := same_new (o := HO.lst [V.non, V.int 7, V.bl true, V.ref a, V.ref D, V.ref q]) hp
      have fin : ∀ (v : V) (d : PyData), Dp K (upd (upd H3 q (.tup ((lettersT t).map V.str))) p (.lst [V.non, V.int 7, V.bl true, V.ref a, V.ref D, V.ref q])) v d → okVal d → Q v (upd (upd H3 q (.tup ((lettersT t).map V.str))) p (.lst [V.non, V.int 7, V.bl true, V.ref a, V.ref D, V.ref q])) := fun v d hd hv => k v d _ (((sB.trans s3).trans s4).trans s5) hd hv
      rcases (show kd = 0 ∨ kd = 1 ∨ kd = 2 ∨ kd = 3 ∨ kd = 4 ∨ kd = 5 by omega) with rfl | rfl | rfl | rfl | rfl | rfl
      · exact ⟨p, _, _, _, rfl, rfl, SqL.of upd_same, (show atI _ ((0 : Nat) : Int) = _ from atI_nat rfl), fin _ _ .non trivial⟩
      · exact ⟨p, _, _, _, rfl, rfl, SqL.of upd_same, (show atI _ ((1 : Nat) : Int) = _ from atI_nat rfl), fin _ _ (.int 7) ⟨by decide, by decide⟩⟩
      · exact ⟨p, _, _, _, rfl, rfl, SqL.of upd_same, (show atI _ ((2 : Nat) : Int) = _ from atI_nat rfl), fin _ _ (.bl true) trivial⟩
      · exact ⟨p, _, _, _, rfl, rfl, SqL.of upd_same, (show atI _ ((3 : Nat) : Int) = _ from atI_nat rfl), fin _ (.list []) (.lst (SqL.of (s5 _ _ (s4 _ _ (s3 _ _ (s2 _ _ upd_same))))) .nil) ⟨Nat.zero_le _, fun _ m => absurd m List.not_mem_nil⟩⟩
      · exact ⟨p, _, _, _, rfl, rfl, SqL.of upd_same, (show atI _ ((4 : Nat) : Int) = _ from atI_nat rfl), fin _ _ (.lst (SqL.of (s5 _ _ (s4 _ _ (s3 _ _ hD2)))) (dpa_strs _)) (okVal_list (by rw [letters_len]; omega) (letters_one at_))⟩
      · exact ⟨p, _, _, _, rfl, rfl, SqL.of upd_same, (show atI _ ((5 : Nat) : Int) = _ from atI_nat rfl), fin _ _ (.tup (SqT.of (s5 _ _ upd_same)) (dpa_strs _)) (okVal_tup (by rw [letters_len]; omega) (letters_one at_))⟩
    · have k6 : 6 ≤ kd := by
        rcases Nat.lt_or_ge kd 6 with h | h
        · exact absurd (decide_eq_true (by omega)) c
        · exact h
      refine ⟨show 10 ≤ sizeLine by decide, fun p hp => ⟨_, rfl, _, _, rfl, rfl, ?_⟩⟩
      have fin : ∀ s : PySem.Str, s.length = 1 → asc s → (tRet (tOp (fun x y H Q => ∃ i j, x = V.str i ∧ y = V.str j ∧ i.length + j.length ≤ sizeLine ∧ Q (V.str (i ++ j)) H) (tOp (fun x y H Q => ∃ i j, x = V.str i ∧ y = V.str j ∧ i.length + j.length ≤ sizeLine ∧ Q (V.str (i ++ j)) H) (tSl rSlS (tVar 0) tNoPart (tPart (tVar 3))) (tVar 4)) (tSl rSlS (tVar 0) (tPart (tVar 3)) tNoPart))) { nx := fun x H' => Q V.non H', rt := Q } [some (.str t), some (.int (kd : Int)), some (.int (sp : Int)), some (.int (av : Int)), some (.str s), none] (upd H p (.lst [V.str (PySem.Str.ofString "d"), V.str (PySem.Str.ofString "A"), V.str (PySem.Str.ofString " "), V.str (PySem.Str.ofString "<"), V.str (PySem.Str.ofString ">"), V.str (PySem.Str.ofString "1"), V.str (PySem.Str.ofString "z"), V.str (PySem.Str.ofString "B"), V.str (PySem.Str.ofString "C"), V.str (PySem.Str.ofString "-")])) := fun s hs as_ => by
        have l1 : (cutS t none (some (av : Int))).length ≤ t.length := cut_le ..
        have l2 : (cutS t (some (av : Int)) none).length ≤ t.length := cut_le ..
        have zz : ∀ z : Nat, z ≤ 2000 → z ≤ sizeLine := fun _ h => Nat.le_trans h (by decide)
        refine ⟨_, rfl, _, rfl, _, rfl, t, rfl, hn, _, rfl, _, _, rfl, rfl, zz _ (by omega), _, rfl, _, rfl, _, rfl, t, rfl, hn, _, _, rfl, rfl, zz _ (by rw [app_len]; omega), ?_⟩
        have l3 : (cutS t none (some (av : Int))).length + (cutS t (some (av : Int)) none).length ≤ t.length := by
          have q1 : (cutS t none (some (av : Int))).length = min av t.length := by rw [← len_of, cut_to, List.length_take, len_of]; omega
          have q2 : (cutS t (some (av : Int)) none).length = t.length - min av t.length := by rw [← len_of, cut_from, List.length_drop, len_of]
          omega
        exact k _ (.str _) _ (same_new hp) (.str _) ⟨by rw [app_len, app_len]; omega, asc_app (asc_app (asc_cut at_) as_) (asc_cut at_)⟩
      rcases (show kd = 6 ∨ kd = 7 ∨ kd = 8 ∨ kd = 9 ∨ kd = 10 ∨ kd = 11 ∨ kd = 12 ∨ kd = 13 ∨ kd = 14 ∨ kd = 15 by omega) with rfl | rfl | rfl | rfl | rfl | rfl | rfl | rfl | rfl | rfl
      · exact ⟨p, _, _, _, rfl, rfl, SqL.of upd_same, (show atI _ ((0 : Nat) : Int) = _ from atI_nat rfl), fin _ (by decide +kernel) (by decide +kernel)⟩
      · exact ⟨p, _, _, _, rfl, rfl, SqL.of upd_same, (show atI _ ((1 : Nat) : Int) = _ from atI_nat rfl), fin _ (by decide +kernel) (by decide +kernel)⟩
      · exact ⟨p, _, _, _, rfl, rfl, SqL.of upd_same, (show atI _ ((2 : Nat) : Int) = _ from atI_nat rfl), fin _ (by decide +kernel) (by decide +kernel)⟩
      · exact ⟨p, _, _, _, rfl, rfl, SqL.of upd_same, (show atI _ ((3 : Nat) : Int) = _ from atI_nat rfl), fin _ (by decide +kernel) (by decide +kernel)⟩
      · exact ⟨p, _, _, _, rfl, rfl, SqL.of upd_same, (show atI _ ((4 : Nat) : Int) = _ from atI_nat rfl), fin _ (by decide +kernel) (by decide +kernel)⟩
      · exact ⟨p, _, _, _, rfl, rfl, SqL.of upd_same, (show atI _ ((5 : Nat) : Int) = _ from atI_nat rfl), fin _ (by decide +kernel) (by decide +kernel)⟩
      · exact ⟨p, _, _, _, rfl, rfl, SqL.of upd_same, (show atI _ ((6 : Nat) : Int) = _ from atI_nat rfl), fin _ (by decide +kernel) (by decide +kernel)⟩
      · exact ⟨p, _, _, _, rfl, rfl, SqL.of upd_same, (show atI _ ((7 : Nat) : Int) = _ from atI_nat rfl), fin _ (by decide +kernel) (by decide +kernel)⟩
      · exact ⟨p, _, _, _, rfl, rfl, SqL.of upd_same, (show atI _ ((8 : Nat) : Int) = _ from atI_nat rfl), fin _ (by decide +kernel) (by decide +kernel)⟩
      · exact ⟨p, _, _, _, rfl, rfl, SqL.of upd_same, (show atI _ ((9 : Nat) : Int) = _ from atI_nat rfl), fin _ (by decide +kernel) (by decide +kernel)⟩
end
end Mk

set_option Elab.async false
set_option linter.unusedVariables false
set_option maxRecDepth 100000
set_option maxHeartbeats 4000000
namespace Mk
open PySem L2 Pk
theorem names_len : ∀ x ∈ namesL, 1 ≤ x.length ∧ x.length ≤ 12 ∧ (Txt.upper (cutS x none (some 1))).length ≤ 20 ∧ (Txt.upper x).length ≤ 20 ∧ asc x ∧ asc (Txt.upper (cutS x none (some 1))) ∧ asc (Txt.upper x) := by decide +kernel
section
variable {P : Program} {w : World} {K : PySem.W.Frag} {mg : PySem.Str → Option Value} {base : Heap}
/-! _law_odd -/
def spOddT (K : PySem.W.Frag) : Sp := fun vs H Q _ => ∃ (x : PySem.Str) (kd sp le : Nat), vs = [.str x, .int (kd : Int), .int (sp : Int), .int (le : Int)] ∧ x ∈ namesL ∧ kd < 17 ∧ sp ≤ 1000 ∧ le < 26 ∧ ∀ (v : V) (d : PyData) (H' : Hp), Same H H' → Dp K H' v d → okVal d → Q v H'
abbrev nOddT : List PySem.Str := ["name", "kind", "spot", "letter", "at", "other", "odd"]
theorem scOddT : FnScope nOddT ["name", "kind", "spot", "letter"] (defScope sOdd) := ⟨rfl, rfl, rfl, by decide +kernel, rfl, by decide +kernel, by decide +kernel⟩
theorem ok_oddT {f : Addr} {fd : FuncData} (F : Fun K "_law_odd" "_law_odd" sOdd f fd) (T : TM mg) : FnOk P w K mg base CX0 1 f fd ["name", "kind", "spot", "letter"] (spOddT K) := by
  refine F.ok scOddT (fun vs H Q E h => ?_) (fun cdv A outer s H vs Q E hr h => ?_)
  · obtain ⟨x, kd, sp, le, rfl, _⟩ := h
    rfl
  · obtain ⟨x, kd, sp, le, rfl, hx, lk, lsp, lle, k⟩ := h
    have nd := scOddT.nd
    obtain ⟨x1, x12, u1, u2, ax, au1, au2⟩ := names_len x hx
    have hn : x.length ≤ sizeLine := Nat.le_trans x12 (by decide)
    have zz : ∀ z : Nat, z ≤ 2000 → z ≤ sizeLine := fun _ h => Nat.le_trans h (by decide)
    have cl : ∀ lo hi, (cutS x lo hi).length ≤ 12 := fun lo hi => Nat.le_trans (cut_le ..) x12
    have l1s : (PySem.Str.ofString "s").length = 1 := by decide +kernel
    have l1b : (PySem.Str.ofString " ").length = 1 := by decide +kernel
    refine ⟨_, (pss_cons (ps_set (i := 4) nd rfl (Or.inl rfl) (pe_op op_mod (pe_callTy call_int1 (by rfl) T.int PyProof.Rows.Boot.int (pa_cons (pv 2) pa_nil)) (pe_callB call_len_str (by rfl) T.len PySem.boot_len (pa_cons (pv 0) pa_nil))))
      (pss_cons (ps_set (i := 5) nd rfl (Or.inl rfl) (pe_ix ix_str pe_str (pv 3) fun _ _ => rfl))
      (pss_cons (ps_set (i := 6) nd rfl (Or.inl rfl) (pe_lst (pa_cons (pv 0) (pa_cons (pe_op op_add_str (pv 0) pe_str) (pa_cons (pe_slice sl_str (pv 0) po_none (po_some (pe_op op_sub (pe_callB call_len_str (by rfl) T.len PySem.boot_len (pa_cons (pv 0) pa_nil)) pe_int))) (pa_cons (pe_slice sl_str (pv 0) (po_some pe_int) po_none) (pa_cons (pe_op op_add_str (pe_upper (pe_slice sl_str (pv 0) po_none (po_some pe_int))) (pe_slice sl_str (pv 0) (po_some pe_int) po_none)) (pa_cons (pe_op op_add_str (pv 0) pe_str) (pa_cons (pe_op op_add_str pe_str (pv 0)) (pa_cons pe_str pa_nil))))))))))
      (pss_cons (ps_set (i := 6) nd rfl (Or.inl rfl) (pe_op op_cat (pv 6) (pe_lst (pa_cons (pe_op op_add_str (pe_op op_add_str (pe_slice sl_str (pv 0) po_none (po_some (pv 4))) (pv 5)) (pe_slice sl_str (pv 0) (po_some (pe_op op_add (pv 4) pe_int)) po_none)) (pa_cons (pe_op op_add_str (pe_op op_add_str (pe_slice sl_str (pv 0) po_none (po_some (pv 4))) (pv 5)) (pe_slice sl_str (pv 0) (po_some (pv 4)) po_none)) (pa_cons pe_str (pa_cons (pe_upper (pv 0)) pa_nil)))))))
      (pss_one (ps_ret (pe_ix ix_list (pe_op op_cat (pv 6) (pe_lst (pa_cons pe_non (pa_cons pe_int (pa_cons pe_bl (pa_cons (pe_lst (pa_cons (pv 0) pa_nil)) (pa_cons (pe_tup (pa_cons (pv 0) pa_nil)) pa_nil))))))) (pv 1) fun _ _ => rfl))))))), ?_⟩
    refine ⟨_, rfl, .inl ⟨_, rfl, _, rfl, x, rfl, hn, _, _, rfl, rfl, by show (0 : Int) < _; omega, ?_⟩⟩
    obtain ⟨av, eav⟩ : ∃ av : Nat, av = sp % x.length := ⟨_, rfl⟩
    have ea : (sp : Int) % (x.length : Int) = (av : Int) := by rw [← Int.natCast_emod, eav]
    have lav : av ≤ 12 := by
      have := Nat.mod_lt sp (show 0 < x.length by omega)
      rw [eav]
      omega
    dsimp only
    rw [ea]
    dsimp only [gName]
    have al26 : (PySem.Str.ofString "abcdefghijklmnopqrstuvwxyz").cps.toList.length = 26 := by decide +kernel
    obtain ⟨oc, hoc⟩ : ∃ c, (PySem.Str.ofString "abcdefghijklmnopqrstuvwxyz").cps.toList[le]? = some c := ⟨_, List.getElem?_eq_getElem (by omega)⟩
    refine ⟨_, rfl, _, _, _, rfl, rfl, by decide +kernel, atI_nat hoc, ?_⟩
    have loc : (⟨#[oc]⟩ : PySem.Str).length = 1 := rfl
    dsimp only [gName]
    have cA := cl none (some ((x.length : Int) - 1))
    have cB := cl (some 1) none
    have cB2 := cl none (some 1)
    have cC := cl none (some (av : Int))
    have cD := cl (some ((av : Int) + 1)) none
    have cE := cl (some (av : Int)) none
    have l1m : (PySem.Str.ofString "mirror").length = 6 := by decide +kernel
    have l10 : (PySem.Str.ofString "").length = 0 := by decide +kernel
    have aoc : asc ⟨#[oc]⟩ := fun c m => by
      have m : c ∈ [oc] := m
      rw [List.mem_singleton.mp m]
      have a26 : ∀ c ∈ (PySem.Str.ofString "abcdefghijklmnopqrstuvwxyz").cps.toList, c < 1114112 := by decide +kernel
      exact a26 oc (List.mem_of_getElem? hoc)
    have bd : ∀ s : PySem.Str, s.length ≤ 450 → asc s → okVal (.str s) := fun _ h h2 => ⟨h, h2⟩
    refine ⟨_, rfl, _, rfl, _, _, rfl, rfl, zz _ (by omega), _, rfl, _, rfl, x, rfl, hn, _, _, rfl, rfl, _, rfl, x, rfl, hn, _, rfl, _, rfl, x, rfl, hn, ?_⟩
    refine ⟨_, rfl, _, rfl, x, rfl, hn, ⟨_, rfl⟩, _, rfl, rfl, Nat.le_trans cB2 (by decide), _, rfl, _, rfl, x, rfl, hn, _, _, rfl, rfl, zz _ (by omega), _, rfl, _, _, rfl, rfl, zz _ (by omega), _, rfl, _, _, rfl, rfl, zz _ (by omega), show 8 ≤ sizeLine by decide, fun a ha => ?_⟩
    dsimp only [gName]
    refine ⟨_, rfl, _, rfl, _, rfl, _, rfl, x, rfl, hn, _, rfl, _, _, rfl, rfl, zz _ (by rw [loc]; omega), _, rfl, _, rfl, _, _, rfl, rfl, _, rfl, x, rfl, hn, _, _, rfl, rfl, zz _ (by rw [app_len, loc]; omega), ?_⟩
    refine ⟨_, rfl, _, rfl, _, rfl, x, rfl, hn, _, rfl, _, _, rfl, rfl, zz _ (by rw [loc]; omega), _, rfl, _, rfl, _, rfl, x, rfl, hn, _, _, rfl, rfl, zz _ (by rw [app_len, loc]; omega), ?_⟩
    refine ⟨_, rfl, ⟨_, rfl⟩, _, rfl, rfl, Nat.le_trans x12 (by decide), show 4 ≤ sizeLine by decide, fun b hb => ⟨a, b, _, _, rfl, rfl, same_new hb _ _ upd_same, upd_same, show 12 ≤ sizeLine by decide, fun c hc => ?_⟩⟩
    dsimp only [gName]
    refine ⟨_, rfl, _, rfl, show 1 ≤ sizeLine by decide, fun r hr => ⟨_, rfl, show 1 ≤ sizeLine by decide, fun q hq => ⟨show 5 ≤ sizeLine by decide, fun e he => ⟨c, e, _, _, rfl, rfl, same_new he _ _ (same_new hq _ _ (same_new hr _ _ upd_same)), upd_same, show 17 ≤ sizeLine by decide, fun p hp => ⟨_, rfl, ?_⟩⟩⟩⟩⟩
    rcases (show kd = 0 ∨ kd = 1 ∨ kd = 2 ∨ kd = 3 ∨ kd = 4 ∨ kd = 5 ∨ kd = 6 ∨ kd = 7 ∨ kd = 8 ∨ kd = 9 ∨ kd = 10 ∨ kd = 11 ∨ kd = 12 ∨ kd = 13 ∨ kd = 14 ∨ kd = 15 ∨ kd = 16 by omega) with rfl | rfl | rfl | rfl | rfl | rfl | rfl | rfl | rfl | rfl | rfl | rfl | rfl | rfl | rfl | rfl | rfl
    · exact ⟨p, _, _, _, rfl, rfl, SqL.of upd_same, (show atI _ ((0 : Nat) : Int) = _ from atI_nat rfl), k _ (.str _) _ (((((((same_new ha).trans (same_new hb)).trans (same_new hc)).trans (same_new hr)).trans (same_new hq)).trans (same_new he)).trans (same_new hp)) (.str _) (bd _ (by first | omega | (simp only [app_len]; omega)) (by repeat' first | assumption | refine asc_app ?_ ?_ | refine asc_cut ?_ | refine asc_rev ?_ | refine asc_mul ?_ | decide +kernel))⟩
    · exact ⟨p, _, _, _, rfl, rfl, SqL.of upd_same, (show atI _ ((1 : Nat) : Int) = _ from atI_nat rfl), k _ (.str _) _ (((((((same_new ha).trans (same_new hb)).trans (same_new hc)).trans (same_new hr)).trans (same_new hq)).trans (same_new he)).trans (same_new hp)) (.str _) (bd _ (by first | omega | (simp only [app_len]; omega)) (by repeat' first | assumption | refine asc_app ?_ ?_ | refine asc_cut ?_ | refine asc_rev ?_ | refine asc_mul ?_ | decide +kernel))⟩
    · exact ⟨p, _, _, _, rfl, rfl, SqL.of upd_same, (show atI _ ((2 : Nat) : Int) = _ from atI_nat rfl), k _ (.str _) _ (((((((same_new ha).trans (same_new hb)).trans (same_new hc)).trans (same_new hr)).trans (same_new hq)).trans (same_new he)).trans (same_new hp)) (.str _) (bd _ (by first | omega | (simp only [app_len]; omega)) (by repeat' first | assumption | refine asc_app ?_ ?_ | refine asc_cut ?_ | refine asc_rev ?_ | refine asc_mul ?_ | decide +kernel))⟩
    · exact ⟨p, _, _, _, rfl, rfl, SqL.of upd_same, (show atI _ ((3 : Nat) : Int) = _ from atI_nat rfl), k _ (.str _) _ (((((((same_new ha).trans (same_new hb)).trans (same_new hc)).trans (same_new hr)).trans (same_new hq)).trans (same_new he)).trans (same_new hp)) (.str _) (bd _ (by first | omega | (simp only [app_len]; omega)) (by repeat' first | assumption | refine asc_app ?_ ?_ | refine asc_cut ?_ | refine asc_rev ?_ | refine asc_mul ?_ | decide +kernel))⟩
    · exact ⟨p, _, _, _, rfl, rfl, SqL.of upd_same, (show atI _ ((4 : Nat) : Int) = _ from atI_nat rfl), k _ (.str _) _ (((((((same_new ha).trans (same_new hb)).trans (same_new hc)).trans (same_new hr)).trans (same_new hq)).trans (same_new he)).trans (same_new hp)) (.str _) (bd _ (by first | omega | (simp only [app_len]; omega)) (by repeat' first | assumption | refine asc_app ?_ ?_ | refine asc_cut ?_ | refine asc_rev ?_ | refine asc_mul ?_ | decide +kernel))⟩
    · exact ⟨p, _, _, _, rfl, rfl, SqL.of upd_same, (show atI _ ((5 : Nat) : Int) = _ from atI_nat rfl), k _ (.str _) _ (((((((same_new ha).trans (same_new hb)).trans (same_new hc)).trans (same_new hr)).trans (same_new hq)).trans (same_new he)).trans (same_new hp)) (.str _) (bd _ (by first | omega | (simp only [app_len]; omega)) (by repeat' first | assumption | refine asc_app ?_ ?_ | refine asc_cut ?_ | refine asc_rev ?_ | refine asc_mul ?_ | decide +kernel))⟩
    · exact ⟨p, _, _, _, rfl, rfl, SqL.of upd_same, (show atI _ ((6 : Nat) : Int) = _ from atI_nat rfl), k _ (.str _) _ (((((((same_new ha).trans (same_new hb)).trans (same_new hc)).trans (same_new hr)).trans (same_new hq)).trans (same_new he)).trans (same_new hp)) (.str _) (bd _ (by first | omega | (simp only [app_len]; omega)) (by repeat' first | assumption | refine asc_app ?_ ?_ | refine asc_cut ?_ | refine asc_rev ?_ | refine asc_mul ?_ | decide +kernel))⟩
    · exact ⟨p, _, _, _, rfl, rfl, SqL.of upd_same, (show atI _ ((7 : Nat) : Int) = _ from atI_nat rfl), k _ (.str _) _ (((((((same_new ha).trans (same_new hb)).trans (same_new hc)).trans (same_new hr)).trans (same_new hq)).trans (same_new he)).trans (same_new hp)) (.str _) (bd _ (by first | omega | (simp only [app_len]; omega)) (by repeat' first | assumption | refine asc_app ?_ ?_ | refine asc_cut ?_ | refine asc_rev ?_ | refine asc_mul ?_ | decide +kernel))⟩
    · exact ⟨p, _, _, _, rfl, rfl, SqL.of upd_same, (show atI _ ((8 : Nat) : Int) = _ from atI_nat rfl), k _ (.str _) _ (((((((same_new ha).trans (same_new hb)).trans (same_new hc)).trans (same_new hr)).trans (same_new hq)).trans (same_new he)).trans (same_new hp)) (.str _) (bd _ (by first | omega | (simp only [app_len]; omega)) (by repeat' first | assumption | refine asc_app ?_ ?_ | refine asc_cut ?_ | refine asc_rev ?_ | refine asc_mul ?_ | decide +kernel))⟩
    · exact ⟨p, _, _, _, rfl, rfl, SqL.of upd_same, (show atI _ ((9 : Nat) : Int) = _ from atI_nat rfl), k _ (.str _) _ (((((((same_new ha).trans (same_new hb)).trans (same_new hc)).trans (same_new hr)).trans (same_new hq)).trans (same_new he)).trans (same_new hp)) (.str _) (bd _ (by first | omega | (simp only [app_len]; omega)) (by repeat' first | assumption | refine asc_app ?_ ?_ | refine asc_cut ?_ | refine asc_rev ?_ | refine asc_mul ?_ | decide +kernel))⟩
    · exact ⟨p, _, _, _, rfl, rfl, SqL.of upd_same, (show atI _ ((10 : Nat) : Int) = _ from atI_nat rfl), k _ (.str _) _ (((((((same_new ha).trans (same_new hb)).trans (same_new hc)).trans (same_new hr)).trans (same_new hq)).trans (same_new he)).trans (same_new hp)) (.str _) (bd _ (by first | omega | (simp only [app_len]; omega)) (by repeat' first | assumption | refine asc_app ?_ ?_ | refine asc_cut ?_ | refine asc_rev ?_ | refine asc_mul ?_ | decide +kernel))⟩
    · exact ⟨p, _, _, _, rfl, rfl, SqL.of upd_same, (show atI _ ((11 : Nat) : Int) = _ from atI_nat rfl), k _ (.str _) _ (((((((same_new ha).trans (same_new hb)).trans (same_new hc)).trans (same_new hr)).trans (same_new hq)).trans (same_new he)).trans (same_new hp)) (.str _) (bd _ (by first | omega | (simp only [app_len]; omega)) (by repeat' first | assumption | refine asc_app ?_ ?_ | refine asc_cut ?_ | refine asc_rev ?_ | refine asc_mul ?_ | decide +kernel))⟩
    · exact ⟨p, _, _, _, rfl, rfl, SqL.of upd_same, (show atI _ ((12 : Nat) : Int) = _ from atI_nat rfl), k _ .none _ (((((((same_new ha).trans (same_new hb)).trans (same_new hc)).trans (same_new hr)).trans (same_new hq)).trans (same_new he)).trans (same_new hp)) .non trivial⟩
    · exact ⟨p, _, _, _, rfl, rfl, SqL.of upd_same, (show atI _ ((13 : Nat) : Int) = _ from atI_nat rfl), k _ (.int 7) _ (((((((same_new ha).trans (same_new hb)).trans (same_new hc)).trans (same_new hr)).trans (same_new hq)).trans (same_new he)).trans (same_new hp)) (.int 7) ⟨by decide, by decide⟩⟩
    · exact ⟨p, _, _, _, rfl, rfl, SqL.of upd_same, (show atI _ ((14 : Nat) : Int) = _ from atI_nat rfl), k _ (.bool true) _ (((((((same_new ha).trans (same_new hb)).trans (same_new hc)).trans (same_new hr)).trans (same_new hq)).trans (same_new he)).trans (same_new hp)) (.bl true) trivial⟩
    · exact ⟨p, _, _, _, rfl, rfl, SqL.of upd_same, (show atI _ ((15 : Nat) : Int) = _ from atI_nat rfl), k _ (.list ([x].map PyData.str)) _ (((((((same_new ha).trans (same_new hb)).trans (same_new hc)).trans (same_new hr)).trans (same_new hq)).trans (same_new he)).trans (same_new hp)) (.lst (SqL.of (same_new hp _ _ (same_new he _ _ (same_new hq _ _ upd_same)))) (dpa_strs [x])) (okVal_list (by show 1 ≤ 450; decide) fun y m => by rw [List.mem_singleton.mp m]; exact ⟨by omega, ax⟩)⟩
    · exact ⟨p, _, _, _, rfl, rfl, SqL.of upd_same, (show atI _ ((16 : Nat) : Int) = _ from atI_nat rfl), k _ (.tuple ([x].map PyData.str)) _ (((((((same_new ha).trans (same_new hb)).trans (same_new hc)).trans (same_new hr)).trans (same_new hq)).trans (same_new he)).trans (same_new hp)) (.tup (SqT.of (same_new hp _ _ (same_new he _ _ upd_same))) (dpa_strs [x])) (okVal_tup (by show 1 ≤ 450; decide) fun y m => by rw [List.mem_singleton.mp m]; exact ⟨by omega, ax⟩)⟩
end
end Mk

set_option Elab.async false
set_option linter.unusedVariables false
set_option maxRecDepth 100000
set_option maxHeartbeats 8000000
namespace Mk
open PySem L2 Pk PySem.Spec PyProof.Rows
/-! repr(x) == repr(y) of the same data: whatever reprs are under way, both say the same -/
section
variable {prog : Program} {w : World} {A : Around} {E : Value → Shared → Prop} {s : Shared}
/-- a list's repr is under way -/
def wayL (g : List Code) (a : Addr) : Prop := ∃ v rest kw, Code.builtin "list.__repr__.loop" ⟨v :: rest, kw⟩ ∈ g ∧ Builtin.List.listSameRef v (.ref a) = true
theorem mem_guards {c : Code} : ∀ {l : List (Code × Pos)}, c ∈ guardsOf l → ∃ p, (c, p) ∈ l
  | [], h => absurd h List.not_mem_nil
  | (c', p) :: l, h => by
    rw [guardsOf_cons] at h
    rcases List.mem_append.mp h with h | h
    · unfold Code.guards at h
      split at h
      · rw [List.mem_singleton] at h
        exact ⟨p, by rw [h]; exact List.mem_cons_self⟩
      · exact absurd h List.not_mem_nil
    · obtain ⟨q, m⟩ := mem_guards h
      exact ⟨q, List.mem_cons_of_mem _ m⟩
theorem own_list_way {c : Code} {a : Addr} {o : Obj} {x : Value} {l : List Value} {n : Nat} {g : List Code} {Q : Fin → Shared → Prop} (hg : A.guards = some g) (hy : wayL g a)
    (at_ : s.heap.get? a = some o) (dt : o.data = .seq (x :: l).toArray n) (h : ∀ u tk, Q (.done (.ret (.str "[...]" u))) { s with toks := tk }) : wpOwn (model prog w) A c (Builtin.listReprAt 0 ⟨[.ref a], []⟩) Q E s := by
  intro Γ p hc hΓ
  have h1 : wpAny (model prog w) (A.under c) (do rule "list.__repr__.in-itself"; retStr "[...]") Q E s :=
    wpAny_bind (wpAny_rule (wpAny_bind (wpAny_mkStr (wpAny_pure (h _ _)) (show (PySem.Str.ofString "[...]").length ≤ sizeLine by decide +kernel))))
  have h2 := wpOwn_of_wpAny h1 Γ p hc hΓ
  unfold Builtin.listReprAt
  simp [slotArgs, Builtin.List.listItems, seqItems?, Sem.wp_load_of (h := at_), dt, stack]
  show Sem.wp (model prog w) Γ (if (Γ.below.any _) = true then _ else _) _ _ p s
  rw [if_pos]
  · exact h2
  · obtain ⟨v, rest, kw, m, e⟩ := hy
    rw [← hΓ.2.2.2.1 g hg] at m
    obtain ⟨q, m⟩ := mem_guards m
    exact List.any_eq_true.mpr ⟨_, m, e⟩
end
end Mk

set_option Elab.async false
set_option linter.unusedVariables false
set_option maxRecDepth 100000
set_option maxHeartbeats 8000000
namespace Mk
open PySem L2 Pk PySem.Spec PyProof.Rows
section
variable {prog : Program} {w : World} {A : Around} {E : Value → Shared → Prop} {s : Shared}
theorem call_list_way {a : Addr} {o : Obj} {x : Value} {l : List Value} {n : Nat} {g : List Code} {Q : Value → Shared → Prop} (ty : s.TypeIs (.ref a) "list") (hg : A.guards = some g) (hy : wayL g a)
    (at_ : s.heap.get? a = some o) (dt : o.data = .seq (x :: l).toArray n) (h : ∀ u tk, Q (.str "[...]" u) { s with toks := tk }) : wpAny (model prog w) A (call (.builtin "list.__repr__") [.ref a]) Q E s :=
  wpAny_call (codeAny_call_builtin_own (Code.quiet_builtin _ (by decide +kernel)) F.entry_list_repr (F.slot_list_repr.toG.check _ _ _ _ _ _ _ _ ty (F.args_list_repr_1 _) (own_list_way hg hy at_ dt h)))
theorem call_tuple_way {a : Addr} {g : List Code} {Q : Value → Shared → Prop} (ty : s.TypeIs (.ref a) "tuple") (hg : A.guards = some g) (hy : (g.any fun c => tupGuardF (.ref a) (c, default)) = true)
    (h : ∀ u tk, Q (.str "(...)" u) { s with toks := tk }) : wpAny (model prog w) A (call (.builtin "tuple.__repr__") [.ref a]) Q E s := by
  refine wpAny_call (codeAny_call_builtin_own (Code.quiet_builtin _ (by decide +kernel)) F.entry_tuple_repr (F.slot_tuple_repr.check _ _ _ _ _ _ _ _ ty (F.args_tuple_repr_1 _) ?_))
  show wpOwn _ _ _ (Builtin.tupleReprAt 0 ⟨[.ref a], []⟩) _ _ s
  rw [tuple_repr_tree, tupleReprUnderWay_eq]
  refine wpOwn_bind (wpOwn_stackTailAny hg (tupGuardF_off _) (tupGuardF_pos _) ?_)
  rw [hy]
  refine wpOwn_of_wpAny (PySem.W.KFB.if_so rfl ?_)
  exact wpAny_bind (wpAny_rule (wpAny_bind (wpAny_mkStr (wpAny_pure (h _ _)) (show (PySem.Str.ofString "(...)").length ≤ sizeLine by decide +kernel))))
theorem all_at {prog : Program} {w : World} : ∀ {its : List Value} {ts : List PySem.Str}, ReprAll prog w its ts → ∀ (i : Nat) (y : Value), its[i]? = some y → ∃ t, ts[i]? = some t ∧ ReprIs prog w y t
  | _, _, .nil, i, y, e => by cases e
  | _, _, .cons hx hl, 0, y, e => ⟨_, rfl, by cases e; exact hx⟩
  | _, _, .cons hx hl, i + 1, y, e => all_at hl i y e
end
/-- what may be shown -/
def fitR : PyData → Prop
  | .none => True
  | .bool _ => True
  | .int i => i.natAbs.log2 < 1920
  | .str x => (reprText x).length ≤ sizeLine
  | .list ds => ∃ l : List PySem.Str, ds = l.map PyData.str ∧ (∀ y ∈ l, (reprText y).length ≤ sizeLine) ∧ (listText (l.map reprText)).length ≤ sizeLine
  | .tuple ds => ∃ l : List PySem.Str, ds = l.map PyData.str ∧ (∀ y ∈ l, (reprText y).length ≤ sizeLine) ∧ (tupleText (l.map reprText)).length ≤ sizeLine
  | .dict _ => False
theorem dpa_inv {K : PySem.W.Frag} {H : Hp} : ∀ {l : List PySem.Str} {xs : List V}, DpAll K H xs (l.map PyData.str) → xs = l.map V.str
  | [], _, h => by cases h; rfl
  | x :: l, _, h => by
    cases h with
    | cons h1 h2 =>
      cases h1
      rw [dpa_inv h2] <;> rfl
theorem repr_det {X : Cx} {g : List Code} {k : Nat} (hg : X.A.guards = some g) (hr : Room k X.A) (v : V) (d : PyData) : ∃ T : PySem.Str, ∀ (pins : List (Addr × Obj)) (s : Shared) (σ : L2.St) (H : Hp) (us : List Value) (Q : VK),
    Inv X pins σ H s → Vals [v] us → Dp X.K H v d → fitR d → Q (.str T) H → wpAny (model X.prog X.w) X.A (call (.builtin "repr") us) (EP X pins σ Q) X.xe s := by
  have hu := hr.units
  have done : ∀ {pins : List (Addr × Obj)} {s : Shared} {σ : L2.St} {H : Hp} {Q : VK} {T : PySem.Str}, Inv X pins σ H s → Q (.str T) H → ∀ (u tk : Tok), EP X pins σ Q (.str T u) { s with toks := tk } := fun I q u tk => ⟨.str _, _, I.tok _, ⟨u, rfl⟩, q⟩
  cases d with
  | none =>
    refine ⟨"None", fun pins s σ H us Q I r dp ft q => ?_⟩
    cases dp
    obtain ⟨u, rfl, e⟩ := vals1 r
    cases e
    exact P.repr_of_none (done I q _ _)
  | bool b =>
    refine ⟨(if b then "True" else "False" : String), fun pins s σ H us Q I r dp ft q => ?_⟩
    cases dp
    obtain ⟨u, rfl, e⟩ := vals1 r
    cases e
    exact P.repr_of_bool (by cases b <;> exact done I q _ _)
  | int i =>
    refine ⟨toString i, fun pins s σ H us Q I r dp ft q => ?_⟩
    cases dp
    obtain ⟨u, rfl, t, rfl⟩ := vals1 r
    exact P.repr_of_int ft (done I q _ _)
  | str x =>
    refine ⟨reprText x, fun pins s σ H us Q I r dp ft q => ?_⟩
    cases dp
    obtain ⟨u, rfl, t, rfl⟩ := vals1 r
    exact P.repr_of_str (done I q _ _) ft
  | dict kv => exact ⟨"", fun pins s σ H us Q I r dp ft q => ft.elim⟩
  | list ds =>
    by_cases hv : ∃ a, v = .ref a
    · obtain ⟨a, rfl⟩ := hv
      by_cases e0 : ds = []
      · subst e0
        refine ⟨"[]", fun pins s σ H us Q I r dp ft q => ?_⟩
        cases dp with
        | lst hs ha =>
          cases ha
          obtain ⟨u, rfl, e⟩ := vals1 r
          have e : u = Value.ref a := e
          subst e
          obtain ⟨its, rv, ⟨o, n, h1, h2, _, h3⟩, _⟩ := I.list hs
          cases rv
          exact call_repr_slot (by omega) ⟨o, h1, h2⟩ F.slot_list_repr.toG (call_list_repr_empty ⟨o, h1, h2⟩ h1 h3 ⟨_, _, rfl, done I q _ _⟩)
      · by_cases hw : wayL g a
        · refine ⟨"[...]", fun pins s σ H us Q I r dp ft q => ?_⟩
          cases dp with
          | lst hs ha =>
            obtain ⟨u, rfl, e⟩ := vals1 r
            have e : u = Value.ref a := e
            subst e
            obtain ⟨its, rv, ⟨o, n, h1, h2, _, h3⟩, _⟩ := I.list hs
            cases ha with
            | nil => exact absurd rfl e0
            | cons q1 q2 =>
              cases rv with
              | cons r1 r2 => exact call_repr_slot (by omega) ⟨o, h1, h2⟩ F.slot_list_repr.toG (call_list_way (A := X.A.in1) ⟨o, h1, h2⟩ hg hw h1 h3 fun u tk => ⟨_, _, rfl, done I q _ _⟩)
        · refine ⟨listText (ds.map fun d => match d with | .str x => reprText x | _ => ⟨#[]⟩), fun pins s σ H us Q I r dp ft q => ?_⟩
          obtain ⟨l, rfl, f1, f2⟩ := ft
          rw [List.map_map] at q
          cases dp with
          | lst hs ha =>
            have ex := dpa_inv ha
            subst ex
            obtain ⟨u, rfl, e⟩ := vals1 r
            have e : u = Value.ref a := e
            subst e
            obtain ⟨its, rv, ⟨o, n, h1, h2, _, h3⟩, _⟩ := I.list hs
            have ra := repr_all (prog := X.prog) (w := X.w) rv f1
            have ln := ra.length_eq
            match its, rv, ra, ln, h3 with
            | [], rv, ra, ln, h3 =>
              cases l with
              | nil => exact absurd rfl e0
              | cons y l => cases ln
            | i0 :: is, rv, ra, ln, h3 =>
              exact call_repr_slot (by omega) ⟨o, h1, h2⟩ F.slot_list_repr.toG (call_list_repr (A := X.A.in1) ⟨o, h1, h2⟩ hg (fun v rest kw m => by
                cases z : Builtin.List.listSameRef v (.ref a) with
                | false => rfl
                | true => exact absurd ⟨v, rest, kw, m, z⟩ hw) h1 h3 (by rw [ln]; rfl) (fun i y e => all_at ra i y (by simpa using e)) (fun h' u tk hk => ⟨_, _, rfl, .str _, _, I.kept (t' := tk) hk, ⟨u, rfl⟩, q⟩) f2)
    · refine ⟨"", fun pins s σ H us Q I r dp ft q => ?_⟩
      cases dp
      exact absurd ⟨_, rfl⟩ hv
  | tuple ds =>
    by_cases hv : ∃ a, v = .ref a
    · obtain ⟨a, rfl⟩ := hv
      cases hw : (g.any fun c => tupGuardF (.ref a) (c, default)) with
      | true =>
        refine ⟨"(...)", fun pins s σ H us Q I r dp ft q => ?_⟩
        cases dp with
        | tup hs ha =>
          obtain ⟨u, rfl, e⟩ := vals1 r
          have e : u = Value.ref a := e
          subst e
          obtain ⟨its, rv, ⟨o, h1, h2, n, h3⟩, _⟩ := I.tuple hs
          exact call_repr_slot (by omega) ⟨o, h1, h2⟩ F.slot_tuple_repr (call_tuple_way (A := X.A.in1) ⟨o, h1, h2⟩ hg hw fun u tk => ⟨_, _, rfl, done I q _ _⟩)
      | false =>
        refine ⟨tupleText (ds.map fun d => match d with | .str x => reprText x | _ => ⟨#[]⟩), fun pins s σ H us Q I r dp ft q => ?_⟩
        obtain ⟨l, rfl, f1, f2⟩ := ft
        rw [List.map_map] at q
        cases dp with
        | tup hs ha =>
          have ex := dpa_inv ha
          subst ex
          obtain ⟨u, rfl, e⟩ := vals1 r
          have e : u = Value.ref a := e
          subst e
          obtain ⟨its, rv, ⟨o, h1, h2, n, h3⟩, _⟩ := I.tuple hs
          have ra := repr_all (prog := X.prog) (w := X.w) rv f1
          exact call_repr_slot (by omega) ⟨o, h1, h2⟩ F.slot_tuple_repr (call_tuple_repr (A := X.A.in1) ⟨o, h1, h2⟩ hg (fun c m => by
            cases z : tupGuardF (.ref a) (c, default) with
            | false => rfl
            | true =>
              rw [List.any_eq_false] at hw
              exact absurd z (hw c m)) h1 h3 ra (fun u tk => ⟨_, _, rfl, done I q _ _⟩) f2)
    · refine ⟨"", fun pins s σ H us Q I r dp ft q => ?_⟩
      cases dp
      exact absurd ⟨_, rfl⟩ hv
end Mk

set_option Elab.async false
set_option linter.unusedVariables false
set_option maxRecDepth 100000
set_option maxHeartbeats 8000000
namespace Mk
open PySem L2 Pk PySem.Spec PyProof.Rows
/-! the same context, the guards under way known -/
abbrev withG (X : Cx) (g : List Code) : Cx := { X with A := { X.A with guards := some g } }
section
variable {X : Cx} {pins : List (Addr × Obj)} {σ : L2.St} {H : Hp} {s : Shared}
theorem inv_toG (g : List Code) (I : Inv X pins σ H s) : Inv (withG X g) pins σ H s :=
  ⟨⟨I.ok.mod, I.ok.kind, I.ok.glob, I.ok.blt, I.ok.above, I.ok.inj, I.ok.has, I.ok.cab, I.ok.hd, I.ok.frames, I.ok.stk, I.ok.exf, I.ok.bs, I.ok.bsz, I.ok.noex, I.ok.exfs, I.ok.funs, I.ok.frf⟩,
    I.os, I.bare, I.base, I.loc, I.cell, I.free, I.freeC, I.pin, I.hok, I.len⟩
theorem inv_ofG {g : List Code} (I : Inv (withG X g) pins σ H s) : Inv X pins σ H s :=
  ⟨⟨I.ok.mod, I.ok.kind, I.ok.glob, I.ok.blt, I.ok.above, I.ok.inj, I.ok.has, I.ok.cab, I.ok.hd, I.ok.frames, I.ok.stk, I.ok.exf, I.ok.bs, I.ok.bsz, I.ok.noex, I.ok.exfs, I.ok.funs, I.ok.frf⟩,
    I.os, I.bare, I.base, I.loc, I.cell, I.free, I.freeC, I.pin, I.hok, I.len⟩
theorem pe_withG {e : Expr} {t : TE} (h : ∀ g, PE (withG X g) e t) : PE X e t := by
  refine ⟨fun pins s σ H Q I q => fun Γ p hΓ => ?_⟩
  have h1 := (h (Γ.code.guards ++ guardsOf Γ.below)).run pins s σ H Q (inv_toG _ I) q
  have h2 : Γ.In (withG X (Γ.code.guards ++ guardsOf Γ.below)).A := ⟨hΓ.1, hΓ.2.1, hΓ.2.2.1, fun g' e => Option.some.inj e, hΓ.2.2.2.2⟩
  exact (wpAny_mono h1 (fun u s' ⟨v, H', I', r, q'⟩ => ⟨v, H', inv_ofG I', r, q'⟩) (fun _ _ z => z)) Γ p h2
theorem op_isB : OpR X (compareOp .Is) (fun x y H Q => ∃ a b, x = V.bl a ∧ y = V.bl b ∧ Q (.bl (decide (a = b))) H) := by
  intro pins s σ H x y v u Q I rx ry h
  obtain ⟨a, b, rfl, rfl, q⟩ := h
  cases (show v = Value.bool a from rx)
  cases (show u = Value.bool b from ry)
  exact wpAny_is_plain rfl (fin_bl I q (by cases a <;> cases b <;> rfl))
end
/-- what repr says of a value's data -/
noncomputable def reprT {X : Cx} {g : List Code} {k : Nat} (hg : X.A.guards = some g) (hr : Room k X.A) (v : V) (d : PyData) : PySem.Str := Classical.choose (repr_det hg hr v d)
def rRepr {X : Cx} {g : List Code} {k : Nat} (hg : X.A.guards = some g) (hr : Room k X.A) : List V → Hp → VK → Prop := fun xs H Q => ∃ v d, xs = [v] ∧ Dp X.K H v d ∧ fitR d ∧ Q (.str (reprT hg hr v d)) H
theorem call_repr {X : Cx} {g : List Code} {k : Nat} (hg : X.A.guards = some g) (hr : Room k X.A) : CallR X (.builtin "repr") (rRepr hg hr) := by
  rintro pins s σ H xs us Q I r ⟨v, d, rfl, dp, ft, q⟩
  exact Classical.choose_spec (repr_det hg hr v d) pins s σ H us Q I r dp ft q
theorem pe_imp {X : Cx} {e : Expr} {t t' : TE} (h : PE X e t) (i : ∀ σ H Q, t' σ H Q → t σ H Q) : PE X e t' := ⟨fun pins s σ H Q I q => h.run pins s σ H Q I (i σ H Q q)⟩
/-- repr(x) == repr(y): x and y are the same value, whatever it is, of data that may be shown -/
theorem pe_reprEq {X : Cx} {k : Nat} {e1 e2 : Expr} {t1 t2 : TE} {p1 p2 q1 q2 pos : Pos} (hr : Room k X.A) (hG : Gl X "repr") (hm : X.mg "repr" = none) (h1 : ∀ g, PE (withG X g) e1 t1) (h2 : ∀ g, PE (withG X g) e2 t2)
    (he1 : starEach [e1] X.env = (false, eval e1 X.env) :: starEach [] X.env := by rfl) (he2 : starEach [e2] X.env = (false, eval e2 X.env) :: starEach [] X.env := by rfl) (hl1 : (backTo q1 (starEach [] X.env)).any (·.1) = false := by rfl) (hl2 : (backTo q2 (starEach [] X.env)).any (·.1) = false := by rfl)
    (hmk : behindInMarks .Eq (.Call (.Name "repr" p2) [e2] [] q2) = false := by rfl) (mono1 : ∀ (σ : L2.St) (H : Hp) (Q Q' : VK), (∀ v G, Q v G → Q' v G) → t1 σ H Q → t1 σ H Q') (mono2 : ∀ (σ : L2.St) (H : Hp) (Q Q' : VK), (∀ v G, Q v G → Q' v G) → t2 σ H Q → t2 σ H Q') :
    PE X (.Compare (.Call (.Name "repr" p1) [e1] [] q1) [.Eq] [.Call (.Name "repr" p2) [e2] [] q2] pos) (fun σ H Q => t1 σ H fun v H1 => ∃ d, fitR d ∧ Dp X.K H1 v d ∧ t2 σ H1 fun v2 H2 => v2 = v ∧ Dp X.K H2 v d ∧ Q (.bl true) H2) := by
  refine pe_withG fun g => ?_
  have hr' : Room k (withG X g).A := ⟨hr.1, hr.2, hr.3⟩
  have c := call_repr (X := withG X g) (g := g) rfl hr'
  refine pe_imp (pe_cmpR op_eq (pe_callB c hG hm (by decide +kernel) (pa_cons (h1 g) pa_nil (hs := he1)) (he := he1) (hpl := hl1)) (pe_callB c hG hm (by decide +kernel) (pa_cons (h2 g) pa_nil (hs := he2)) (he := he2) (hpl := hl2)) hmk) fun σ H Q q => ?_
  refine mono1 _ _ _ _ (fun v H1 z => ?_) q
  obtain ⟨d, ft, dp, z⟩ := z
  refine ⟨v, d, rfl, dp, ft, ?_⟩
  refine mono2 _ _ _ _ (fun v2 H2 z => ?_) z
  obtain ⟨rfl, dp2, z⟩ := z
  refine ⟨v2, d, rfl, dp2, ft, ?_⟩
  refine ⟨rfl, ?_⟩
  rw [show decide (V.str (reprT (X := withG X g) rfl hr' v2 d) = V.str (reprT (X := withG X g) rfl hr' v2 d)) = true from decide_eq_true rfl]
  exact z
end Mk

set_option Elab.async false
set_option linter.unusedVariables false
set_option maxRecDepth 100000
set_option maxHeartbeats 8000000
namespace Mk
open PySem L2 Pk
/-- letters a, b, c -/
def abcs (t : PySem.Str) : Prop := ∀ c ∈ t.cps.toList, c = 97 ∨ c = 98 ∨ c = 99
theorem abcs_asc {t : PySem.Str} (h : abcs t) : asc t := fun c m => by
  rcases h c m with rfl | rfl | rfl <;> decide
def tlS : List Int := [4, 6, 12, 41, 41, 41, 3] ++ List.replicate 40 3
theorem dig_at {sizes row : List Int} (h : Digs sizes row) (i sz : Nat) (e : sizes[i]? = some (sz : Int)) : ∃ d : Nat, row[i]? = some (d : Int) ∧ d < sz := by
  obtain ⟨d, ed, d0, d1⟩ := h.2 i sz e
  exact ⟨d.toNat, by rw [ed, Int.toNat_of_nonneg d0], by omega⟩
theorem rw_at {row : List Int} {j d : Nat} (e : row[j]? = some (d : Int)) : atI (row.map V.int) (j : Int) = some (V.int (d : Int)) := atI_nat (by rw [List.getElem?_map, e]; rfl)
section
variable {P : Program} {w : World} {K : PySem.W.Frag} {mg : PySem.Str → Option Value} {base : Heap}
def spFit (K : PySem.W.Frag) : Sp := fun vs H Q _ => ∃ (x r : PySem.Str) (cut room : Nat), vs = [.str x, .str r, .int (cut : Int), .int (room : Int)] ∧ r.length ≤ 400 ∧ abcs r ∧ cut ≤ 1000 ∧ 40 ≤ room ∧ room ≤ 400 ∧ ∀ (u : PySem.Str) (H' : Hp), Same H H' → u.length ≤ 2000 → asc u → Q (.str u) H'
structure TaleDefs (P : Program) (w : World) (K : PySem.W.Frag) (mg : PySem.Str → Option Value) (base : Heap) : Prop where
  cell : Got P w K mg base "_law_cell" 1 ["script", "k"] (spCellA K)
  digits : Got P w K mg base "_law_digits" 1 ["cell", "sizes"] (spDigits K)
  fitted : Got P w K mg base "_law_fitted" 3 ["name", "raw", "cut", "room"] (spFit K)
abbrev nTale : List PySem.Str := ["script", "at", "name", "room", "row", "size", "text", "spot", "letter", "digit"]
theorem scTale : FnScope nTale ["script", "at", "name", "room"] (defScope sTale) := ⟨rfl, rfl, rfl, by decide +kernel, rfl, by decide +kernel, by decide +kernel⟩
theorem tale_B {f : Addr} (T : TM mg) (G : TaleDefs P w K mg base) (cdv : Value) (A : Around) (outer : List Env) (s : Shared) (H : Hp) (E : XK) (hr : Room 3 (A.deeper (PyProof.Rows.envOfC "_law_tale" (defScope sTale) s.heap.objs.size f cdv))) :
    ∃ tt : TS, PSs (cxOf CX0 P w K mg base nTale "_law_tale" (defScope sTale) f cdv A outer s H E).nox ((defBody sTale).drop 4) tt ∧
      ∀ (D : Ends) (H1 : Hp) (sc aD : Addr) (at_ size : V) (x t : PySem.Str) (m : Nat) (row : List Int), H1 aD = some (.lst (row.map V.int)) → Digs tlS row → 1 ≤ m → m ≤ 10 → t.length ≤ 400 → abcs t → (∀ (u : PySem.Str) (H' : Hp), Same H1 H' → u.length ≤ 40 * m → asc u → D.rt (.str u) H') →
        ∀ e9, tt D [some (.ref sc), some at_, some (.str x), some (.int ((40 * m : Nat) : Int)), some (.ref aD), some size, some (.str t), none, none, e9] H1 := by
  have nd := scTale.nd
  have h1 := hr.mono (show 1 ≤ 3 by decide)
  have h3 := hr
  refine ⟨_, (C8.pss_cut (ps_if (pt_cmpR op_gt (pe_ix ix_list (pv 4) pe_int fun _ _ => rfl) pe_int (nomark _))
        (pss_one (ps_set (i := 6) nd rfl (Or.inl rfl) (pe_got G.fitted h3 (by rfl) (pa_cons (pv 2) (pa_cons (pv 6) (pa_cons (pe_op op_mul (pe_ix ix_list (pv 4) pe_int fun _ _ => rfl) (pe_op op_fdiv (pv 3) pe_int)) (pa_cons (pv 3) pa_nil)))))))
        pss_nil)
      (pss_cons (ps_set (i := 7) nd rfl (Or.inl rfl) (pe_op op_mod (pe_callTy call_int1 (by rfl) T.int PyProof.Rows.Boot.int (pa_cons (pe_op op_mul (pe_ix ix_list (pv 4) pe_int fun _ _ => rfl) (pe_op op_fdiv (pv 3) pe_int)) pa_nil)) (pe_op op_add (pe_callB call_len_str (by rfl) T.len PySem.boot_len (pa_cons (pv 6) pa_nil)) pe_int)))
      (pss_cons (ps_set (i := 8) nd rfl (Or.inl rfl) (pe_ix ix_str pe_str (pe_ix ix_list (pv 4) pe_int fun _ _ => rfl) fun _ _ => rfl))
      (C8.pss_cut (ps_if (pt_cmpR op_eq (pe_ix ix_list (pv 4) pe_int fun _ _ => rfl) pe_int (nomark _))
        (pss_one (ps_set (i := 6) nd rfl (Or.inl rfl) (pe_op op_add_str (pe_op op_add_str (pe_slice sl_str (pv 6) po_none (po_some (pv 7))) (pv 8)) (pe_slice sl_str (pv 6) (po_some (pe_op op_add (pv 7) pe_int)) po_none))))
        pss_nil)
      (C8.pss_cut (ps_if (pt_cmpR op_eq (pe_ix ix_list (pv 4) pe_int fun _ _ => rfl) pe_int (nomark _))
        (pss_one (ps_set (i := 6) nd rfl (Or.inl rfl) (pe_op op_add_str (pe_slice sl_str (pv 6) po_none (po_some (pv 7))) (pe_slice sl_str (pv 6) (po_some (pe_op op_add (pv 7) pe_int)) po_none))))
        pss_nil)
      (C8.pss_cut (ps_if (pt_cmpR op_eq (pe_ix ix_list (pv 4) pe_int fun _ _ => rfl) pe_int (nomark _))
        (pss_one (ps_set (i := 6) nd rfl (Or.inl rfl) (pe_op op_add_str (pe_op op_add_str (pe_slice sl_str (pv 6) po_none (po_some (pv 7))) (pv 8)) (pe_slice sl_str (pv 6) (po_some (pv 7)) po_none))))
        pss_nil)
      (pss_one (ps_ret (pe_slice sl_str (pv 6) po_none (po_some (pv 3))))))))))), ?_⟩
  intro D H1 sc aD at_ size x t m row hD dg m1 m10 lt abt k e9
  have at_c : asc t := abcs_asc abt
  obtain ⟨d0, e0, b0⟩ := dig_at dg 0 4 rfl
  obtain ⟨d1, e1, b1⟩ := dig_at dg 1 6 rfl
  obtain ⟨d4, e4, b4⟩ := dig_at dg 4 41 rfl
  obtain ⟨d5, e5, b5⟩ := dig_at dg 5 41 rfl
  obtain ⟨d6, e6, b6⟩ := dig_at dg 6 3 rfl
  have em : ((40 * m : Nat) : Int) / 40 = (m : Int) := by omega
  have zz : ∀ z : Nat, z ≤ 100000 → z ≤ sizeLine := fun _ h => Nat.le_trans h (by decide)
  refine ⟨fun σ' H' => ∃ u : PySem.Str, σ' = [some (.ref sc), some at_, some (.str x), some (.int ((40 * m : Nat) : Int)), some (.ref aD), some size, some (.str u), none, none, e9] ∧ Same H1 H' ∧ u.length ≤ 2000 ∧ asc u, ?_, ?_⟩
  · refine ⟨_, rfl, aD, _, _, _, rfl, rfl, SqL.of hD, rw_at (j := 0) e0, _, _, rfl, rfl, _, rfl, ite2 (fun _ => ?_) (fun _ => ⟨t, rfl, Same.refl _, by omega, at_c⟩)⟩
    refine ⟨_, rfl, _, rfl, _, rfl, aD, _, _, _, rfl, rfl, SqL.of hD, rw_at (j := 5) e5, _, rfl, _, _, rfl, rfl, ⟨by decide, by decide⟩, _, _, rfl, rfl, .inr (by rw [em]; omega), _, rfl, ?_⟩
    dsimp only
    rw [em, show (d5 : Int) * (m : Int) = ((d5 * m : Nat) : Int) from (Int.natCast_mul ..).symm]
    have ld : d5 * m ≤ 400 := Nat.le_trans (Nat.mul_le_mul (show d5 ≤ 40 by omega) m10) (by decide)
    exact ⟨x, t, d5 * m, 40 * m, rfl, lt, abt, by omega, by omega, by omega, fun u H' s' lu au => ⟨u, rfl, s', lu, au⟩⟩
  rintro σ' H2 ⟨u, rfl, s2, lu, au⟩
  have hD2 := s2 _ _ hD
  refine ⟨_, rfl, aD, _, _, _, rfl, rfl, SqL.of hD2, rw_at (j := 4) e4, _, rfl, _, _, rfl, rfl, ⟨by decide, by decide⟩, _, _, rfl, rfl, .inr (by rw [em]; omega), .inl ⟨_, rfl, _, rfl, u, rfl, zz _ (by omega), _, _, rfl, rfl, _, _, rfl, rfl, by show (0 : Int) < _; omega, ?_⟩⟩
  dsimp only
  rw [em]
  obtain ⟨sp, esp⟩ : ∃ sp : Nat, sp = (d4 * m) % (u.length + 1) := ⟨_, rfl⟩
  rw [show (d4 : Int) * (m : Int) % ((u.length : Int) + 1) = (sp : Int) by rw [esp, ← Int.natCast_mul, show (u.length : Int) + 1 = ((u.length + 1 : Nat) : Int) by omega, ← Int.natCast_emod]]
  dsimp only [gName]
  obtain ⟨lc, hlc⟩ : ∃ c, (PySem.Str.ofString "abc").cps.toList[d6]? = some c := ⟨_, List.getElem?_eq_getElem (by rw [show (PySem.Str.ofString "abc").cps.toList.length = 3 by decide +kernel]; omega)⟩
  refine ⟨_, rfl, aD, _, _, _, rfl, rfl, SqL.of hD2, rw_at (j := 6) e6, _, _, _, rfl, rfl, by decide +kernel, atI_nat hlc, ?_⟩
  have l1 : (⟨#[lc]⟩ : PySem.Str).length = 1 := rfl
  have alc : asc ⟨#[lc]⟩ := fun c m => by
    have m : c ∈ [lc] := m
    rw [List.mem_singleton.mp m]
    have a3 : ∀ c ∈ (PySem.Str.ofString "abc").cps.toList, c < 1114112 := by decide +kernel
    exact a3 lc (List.mem_of_getElem? hlc)
  dsimp only [gName]
  have cl : ∀ (v : PySem.Str) lo hi, (cutS v lo hi).length ≤ v.length := fun v lo hi => cut_le ..
  refine ⟨fun σ' H' => ∃ v : PySem.Str, σ' = [some (.ref sc), some at_, some (.str x), some (.int ((40 * m : Nat) : Int)), some (.ref aD), some size, some (.str v), some (.int (sp : Int)), some (.str ⟨#[lc]⟩), e9] ∧ H' = H2 ∧ v.length ≤ 5000 ∧ asc v, ?_, ?_⟩
  · have c1 := cl u none (some (sp : Int))
    have c2 := cl u (some ((sp : Int) + 1)) none
    refine ⟨_, rfl, aD, _, _, _, rfl, rfl, SqL.of hD2, rw_at (j := 1) e1, rfl, _, rfl, ite2 (fun _ => ?_) (fun _ => ⟨u, rfl, rfl, by omega, au⟩)⟩
    exact ⟨_, rfl, _, rfl, _, rfl, u, rfl, zz _ (by omega), _, rfl, _, _, rfl, rfl, zz _ (by rw [l1]; omega), _, rfl, _, rfl, _, _, rfl, rfl, _, rfl, u, rfl, zz _ (by omega), _, _, rfl, rfl, zz _ (by rw [app_len, l1]; omega), _, rfl, rfl, by rw [app_len, app_len, l1]; omega, (by repeat' first | assumption | refine asc_app ?_ ?_ | refine asc_cut ?_ | refine asc_rev ?_ | refine asc_mul ?_ | decide +kernel)⟩
  rintro σ' _ ⟨v, rfl, rfl, lv, av⟩
  refine ⟨fun σ' H' => ∃ v : PySem.Str, σ' = [some (.ref sc), some at_, some (.str x), some (.int ((40 * m : Nat) : Int)), some (.ref aD), some size, some (.str v), some (.int (sp : Int)), some (.str ⟨#[lc]⟩), e9] ∧ Same H1 H' ∧ H' aD = some (.lst (row.map V.int)) ∧ v.length ≤ 10000 ∧ asc v, ?_, ?_⟩
  · have c1 := cl v none (some (sp : Int))
    have c2 := cl v (some ((sp : Int) + 1)) none
    refine ⟨_, rfl, aD, _, _, _, rfl, rfl, SqL.of hD2, rw_at (j := 1) e1, rfl, _, rfl, ite2 (fun _ => ?_) (fun _ => ⟨v, rfl, s2, hD2, by omega, av⟩)⟩
    exact ⟨_, rfl, _, rfl, _, rfl, v, rfl, zz _ (by omega), _, rfl, _, rfl, _, _, rfl, rfl, _, rfl, v, rfl, zz _ (by omega), _, _, rfl, rfl, zz _ (by omega), _, rfl, s2, hD2, by rw [app_len]; omega, (by repeat' first | assumption | refine asc_app ?_ ?_ | refine asc_cut ?_ | refine asc_rev ?_ | refine asc_mul ?_ | decide +kernel)⟩
  rintro σ' H3 ⟨y, rfl, s3, hD3, ly, ay⟩
  refine ⟨fun σ' H' => ∃ v : PySem.Str, σ' = [some (.ref sc), some at_, some (.str x), some (.int ((40 * m : Nat) : Int)), some (.ref aD), some size, some (.str v), some (.int (sp : Int)), some (.str ⟨#[lc]⟩), e9] ∧ Same H1 H' ∧ v.length ≤ 30000 ∧ asc v, ?_, ?_⟩
  · have c1 := cl y none (some (sp : Int))
    have c2 := cl y (some (sp : Int)) none
    refine ⟨_, rfl, aD, _, _, _, rfl, rfl, SqL.of hD3, rw_at (j := 1) e1, rfl, _, rfl, ite2 (fun _ => ?_) (fun _ => ⟨y, rfl, s3, by omega, ay⟩)⟩
    exact ⟨_, rfl, _, rfl, _, rfl, y, rfl, zz _ (by omega), _, rfl, _, _, rfl, rfl, zz _ (by rw [l1]; omega), _, rfl, _, rfl, _, rfl, y, rfl, zz _ (by omega), _, _, rfl, rfl, zz _ (by rw [app_len, l1]; omega), _, rfl, s3, by rw [app_len, app_len, l1]; omega, (by repeat' first | assumption | refine asc_app ?_ ?_ | refine asc_cut ?_ | refine asc_rev ?_ | refine asc_mul ?_ | decide +kernel)⟩
  rintro σ' H4 ⟨z, rfl, s4, lz, az⟩
  exact ⟨_, rfl, _, rfl, _, rfl, z, rfl, zz _ (by omega), k _ _ s4 (by rw [← len_of, cut_to, List.length_take, len_of]; omega) (asc_cut az)⟩
end
end Mk

set_option Elab.async false
set_option linter.unusedVariables false
set_option maxRecDepth 100000
set_option maxHeartbeats 4000000
namespace Mk
open PySem L2 Pk
/-! texts of signs -/
abbrev sgn1 (c : Nat) : PySem.Str := ⟨#[c]⟩
theorem joinL_one : ∀ cs : List Nat, TL.joinL [] (cs.map fun c => [c]) = cs
  | [] => rfl
  | [c] => rfl
  | c :: d :: r => by
    show [c] ++ ([] ++ TL.joinL [] ((d :: r).map fun c => [c])) = c :: d :: r
    rw [joinL_one (d :: r)] <;> rfl
theorem join_signs (cs : List Nat) : Txt.join (PySem.Str.ofString "") (cs.map sgn1) = ⟨cs.toArray⟩ := by
  have e : cs.map sgn1 = (cs.map fun c => [c]).map SX.S := by
    rw [List.map_map]
    exact List.map_congr_left fun c _ => rfl
  have z : PySem.Str.ofString "" = SX.S [] := by decide +kernel
  rw [e, z, SX.join_S, joinL_one] <;> rfl
theorem cut_in {row : List Int} {a b : Nat} (h : b ≤ row.length) (ab : a ≤ b) : cutV (row.map V.int) (some (a : Int)) (some (b : Int)) = ((row.drop a).take (b - a)).map V.int := by
  have h0 : HT.sIx (row.map V.int).length 0 (some (a : Int)) = a := by
    rw [List.length_map]
    unfold HT.sIx
    simp only []
    rw [if_neg (by omega)]
    omega
  have h4 : HT.sIx (row.map V.int).length (row.map V.int).length (some (b : Int)) = b := by
    rw [List.length_map]
    unfold HT.sIx
    simp only []
    rw [if_neg (by omega)]
    omega
  unfold cutV
  rw [h0, h4, ← List.map_drop, ← List.map_take]
theorem sum_signs : ∀ cs : List Nat, ((cs.map sgn1).map (·.length)).sum = cs.length
  | [] => rfl
  | c :: cs => by
    rw [List.map_cons, List.map_cons, List.sum_cons, sum_signs cs, List.length_cons]
    show 1 + _ = _
    omega
end Mk

set_option Elab.async false
set_option linter.unusedVariables false
set_option maxRecDepth 100000
set_option maxHeartbeats 8000000
namespace Mk
open PySem L2 Pk
theorem size_at {d2 d3 : Nat} (h2 : d2 < 12) (h3 : d3 < 41) : ∃ sz : Nat, sz ≤ 40 ∧ atI [V.int 4, V.int 3, V.int 5, V.int 6, V.int 2, V.int 7, V.int 9, V.int 12, V.int 8, V.int 1, V.int (d3 : Int), V.int (d3 : Int)] (d2 : Int) = some (V.int (sz : Int)) := by
  have at_ : ∀ (xs : List V) (j : Nat) (v : V), xs[j]? = some v → atI xs (j : Int) = some v := fun xs j v h => atI_nat h
  rcases (show d2 = 0 ∨ d2 = 1 ∨ d2 = 2 ∨ d2 = 3 ∨ d2 = 4 ∨ d2 = 5 ∨ d2 = 6 ∨ d2 = 7 ∨ d2 = 8 ∨ d2 = 9 ∨ d2 = 10 ∨ d2 = 11 by omega) with rfl | rfl | rfl | rfl | rfl | rfl | rfl | rfl | rfl | rfl | rfl | rfl
  · exact ⟨4, by decide, at_ _ _ _ rfl⟩
  · exact ⟨3, by decide, at_ _ _ _ rfl⟩
  · exact ⟨5, by decide, at_ _ _ _ rfl⟩
  · exact ⟨6, by decide, at_ _ _ _ rfl⟩
  · exact ⟨2, by decide, at_ _ _ _ rfl⟩
  · exact ⟨7, by decide, at_ _ _ _ rfl⟩
  · exact ⟨9, by decide, at_ _ _ _ rfl⟩
  · exact ⟨12, by decide, at_ _ _ _ rfl⟩
  · exact ⟨8, by decide, at_ _ _ _ rfl⟩
  · exact ⟨1, by decide, at_ _ _ _ rfl⟩
  · exact ⟨d3, by omega, at_ _ _ _ rfl⟩
  · exact ⟨d3, by omega, at_ _ _ _ rfl⟩
section
variable {P : Program} {w : World} {K : PySem.W.Frag} {mg : PySem.Str → Option Value} {base : Heap}
def spTale (K : PySem.W.Frag) : Sp := fun vs H Q _ => ∃ (sc : Addr) (ns : List Int) (at_ : Nat) (x : PySem.Str) (m : Nat), vs = [.ref sc, .int (at_ : Int), .str x, .int ((40 * m : Nat) : Int)] ∧ SqL K H sc (ns.map V.int) ∧ 1 ≤ m ∧ m ≤ 10 ∧ ∀ (u : PySem.Str) (H' : Hp), Same H H' → u.length ≤ 40 * m → asc u → Q (.str u) H'
theorem ok_tale {f : Addr} {fd : FuncData} (F : Fun K "_law_tale" "_law_tale" sTale f fd) (T : TM mg) (G : TaleDefs P w K mg base) : FnOk P w K mg base CX0 4 f fd ["script", "at", "name", "room"] (spTale K) := by
  refine F.ok scTale (fun vs H Q E h => ?_) (fun cdv A outer s H vs Q E hr h => ?_)
  · obtain ⟨sc, ns, at_, x, m, rfl, _⟩ := h
    rfl
  · obtain ⟨sc, ns, at_, x, m, rfl, hSc, m1, m10, k⟩ := h
    have nd := scTale.nd
    have h1 := hr.mono (show 1 ≤ 3 by decide)
    obtain ⟨tE, hE, kE⟩ := tale_B (f := f) T G cdv A outer s H E hr
    refine ⟨_, (pss_cons (ps_set (i := 4) nd rfl (Or.inl rfl) (pe_got G.digits h1 (by rfl) (pa_cons (pe_got G.cell h1 (by rfl) (pa_cons (pv 0) (pa_cons (pv 1) pa_nil))) (pa_cons (pe_op op_cat (pe_lst (pa_cons pe_int (pa_cons pe_int (pa_cons pe_int (pa_cons pe_int (pa_cons pe_int (pa_cons pe_int (pa_cons pe_int pa_nil)))))))) (pe_op op_rep (pe_lst (pa_cons pe_int pa_nil)) pe_int)) pa_nil))))
      (pss_cons (ps_set (i := 5) nd rfl (Or.inl rfl) (pe_ix ix_list (pe_lst (pa_cons pe_int (pa_cons pe_int (pa_cons pe_int (pa_cons pe_int (pa_cons pe_int (pa_cons pe_int (pa_cons pe_int (pa_cons pe_int (pa_cons pe_int (pa_cons pe_int (pa_cons (pe_ix ix_list (pv 4) pe_int fun _ _ => rfl) (pa_cons (pe_ix ix_list (pv 4) pe_int fun _ _ => rfl) pa_nil))))))))))))) (pe_ix ix_list (pv 4) pe_int fun _ _ => rfl) fun _ _ => rfl))
      (pss_cons (ps_set (i := 6) nd rfl (Or.inl rfl) (pe_join pe_str (pe_lc (own := [("digit", 9)]) (g := gName 9) (tt := tYes) (by rfl) nd (pi_list (pe_slice sl_list (pv 4) (po_some pe_int) (po_some (pe_op op_add pe_int (pv 5))))) (blkOk_by (own := [("digit", 9)]) (N := nTale) (sc := defScope sTale) (by decide +kernel)) (fun _ _ _ _ _ => pg_name (i := 9) nd rfl (Or.inl rfl)) (fun _ _ _ _ _ => pts_nil) (fun _ _ _ _ _ => (pe_ix ix_str pe_str (pv 9) fun _ _ => rfl)))))
      (C8.pss_cut (ps_if (pt_cmpR op_gt (pv 3) pe_int (nomark _))
        (pss_one (ps_set (i := 6) nd rfl (Or.inl rfl) (pe_slice sl_str (pe_op op_mulS (pv 6) (pv 3)) po_none (po_some (pe_op op_fdiv (pe_op op_mul (pv 3) (pe_op op_add (pe_ix ix_list (pv 4) pe_int fun _ _ => rfl) pe_int)) pe_int)))))
        pss_nil) hE)))), ?_⟩
    refine ⟨_, rfl, _, rfl, sc, ns, at_, rfl, hSc, fun z0 => ⟨show 7 ≤ sizeLine by decide, fun q1 n1 => ⟨show 1 ≤ sizeLine by decide, fun q2 n2 => ⟨q2, 40, _, rfl, rfl, upd_same, by decide, by decide, show 40 ≤ sizeLine by decide, fun q3 n3 => ⟨q1, q3, _, _, rfl, rfl, same_new n3 _ _ (same_new n2 _ _ upd_same), upd_same, show 47 ≤ sizeLine by decide, fun q4 n4 => ?_⟩⟩⟩⟩⟩
    have sA := (((same_new (o := HO.lst [V.int 4, V.int 6, V.int 12, V.int 41, V.int 41, V.int 41, V.int 3]) n1).trans (same_new (o := HO.lst [V.int 3]) n2)).trans (same_new (o := HO.lst (List.replicate (40 : Int).toNat [V.int 3]).flatten) n3)).trans (same_new (o := HO.lst ([V.int 4, V.int 6, V.int 12, V.int 41, V.int 41, V.int 41, V.int 3] ++ (List.replicate (40 : Int).toNat [V.int 3]).flatten)) n4)
    refine ⟨z0, q4, tlS, rfl, SqL.of upd_same, by decide, ?_, fun row aD H1 dg np s1 hrow => ?_⟩
    · intro s ms
      have ms : s ∈ [4, 6, 12, 41, 41, 41, 3] ++ List.replicate 40 3 := ms
      rcases List.mem_append.mp ms with ms | ms
      · simp only [List.mem_cons, List.not_mem_nil, or_false] at ms
        rcases ms with rfl | rfl | rfl | rfl | rfl | rfl | rfl <;> decide
      · rw [(List.mem_replicate.mp ms).2]
        decide
    have sB : Same H H1 := sA.trans s1
    clear sA s1 np n1 n2 n3 n4
    dsimp only [gName]
    obtain ⟨d2, e2, b2⟩ := dig_at dg 2 12 rfl
    obtain ⟨d3, e3, b3⟩ := dig_at dg 3 41 rfl
    obtain ⟨sz, lsz, esz⟩ := size_at b2 b3
    have lrow : row.length = 47 := dg.1
    refine ⟨_, rfl, aD, _, _, _, rfl, rfl, SqL.of hrow, rw_at (j := 3) e3, _, rfl, aD, _, _, _, rfl, rfl, SqL.of hrow, rw_at (j := 3) e3, show 12 ≤ sizeLine by decide, fun v nv => ?_⟩
    have tv := same_new (o := HO.lst [V.int 4, V.int 3, V.int 5, V.int 6, V.int 2, V.int 7, V.int 9, V.int 12, V.int 8, V.int 1, V.int (d3 : Int), V.int (d3 : Int)]) nv
    refine ⟨_, rfl, aD, _, _, _, rfl, rfl, SqL.of (tv _ _ hrow), rw_at (j := 2) e2, v, _, _, .int (sz : Int), rfl, rfl, SqL.of upd_same, esz, ?_⟩
    have hrow2 := tv _ _ hrow
    have s2 := sB.trans tv
    dsimp only [gName]
    refine ⟨⟨_, rfl⟩, _, rfl, 7, rfl, _, rfl, _, _, rfl, rfl, _, rfl, aD, _, rfl, SqL.of hrow2, fun u nu => ?_⟩
    have cut : cutV (row.map V.int) (some 7) (some (7 + (sz : Int))) = ((row.drop 7).take sz).map V.int := by
      have := cut_in (row := row) (a := 7) (b := 7 + sz) (by omega) (by omega)
      rw [show ((7 + sz : Nat) : Int) = 7 + (sz : Int) by omega, show 7 + sz - 7 = sz by omega] at this
      exact this
    rw [cut]
    have tu := same_new (o := HO.lst (((row.drop 7).take sz).map V.int)) nu
    have hu1 : (upd (upd H1 v (.lst [V.int 4, V.int 3, V.int 5, V.int 6, V.int 2, V.int 7, V.int 9, V.int 12, V.int 8, V.int 1, V.int (d3 : Int), V.int (d3 : Int)])) u (.lst (((row.drop 7).take sz).map V.int))) u = some (.lst (((row.drop 7).take sz).map V.int)) := upd_same
    have s3 := s2.trans tu
    have hrow3 := tu _ _ hrow2
    generalize upd (upd H1 v (.lst [V.int 4, V.int 3, V.int 5, V.int 6, V.int 2, V.int 7, V.int 9, V.int 12, V.int 8, V.int 1, V.int (d3 : Int), V.int (d3 : Int)])) u (.lst (((row.drop 7).take sz).map V.int)) = H3 at hu1 s3 hrow3 ⊢
    have ids : ∀ (i : Nat) (z : Int), ((row.drop 7).take sz)[i]? = some z → ∃ d : Nat, z = (d : Int) ∧ d < 3 := fun i z e => by
      rw [List.getElem?_take] at e
      split at e
      · rename_i hi
        rw [List.getElem?_drop] at e
        obtain ⟨d, ed, bd⟩ := dig_at dg (7 + i) 3 (by
          show ([4, 6, 12, 41, 41, 41, 3] ++ List.replicate 40 (3 : Int))[7 + i]? = _
          rw [List.getElem?_append_right (by show 7 ≤ 7 + i; omega)]
          show (List.replicate 40 (3 : Int))[7 + i - 7]? = _
          rw [List.getElem?_replicate, if_pos (by omega)]
          rfl)
        rw [e] at ed
        exact ⟨d, Option.some.inj ed, bd⟩
      · cases e
    have lds : ((row.drop 7).take sz).length ≤ 40 := by
      rw [List.length_take]
      omega
    generalize (row.drop 7).take sz = ds at hu1 ids lds
    refine ⟨u, rfl, ⟨_, SqL.of hu1⟩, fun D nD => lc_list (K := K) (a := u) (xs := ds.map V.int) (fun i H' => Same H3 H' ∧ ∃ cs : List Nat, H' D = some (.lst ((cs.map sgn1).map V.str)) ∧ cs.length ≤ i ∧ ∀ c ∈ cs, c = 97 ∨ c = 98 ∨ c = 99) ⟨same_new nD, [], upd_same, Nat.zero_le _, fun y m => absurd m List.not_mem_nil⟩ (fun i H' _ h => SqL.of (h.1 _ _ hu1)) ?_ ?_⟩
    · rintro i y H4 hi ⟨s4, cs, hcs, lcs, ics⟩
      obtain ⟨z, ez, rfl⟩ := mapInt hi
      obtain ⟨d, rfl, bd⟩ := ids i z ez
      have hi' : i < ds.length := (List.getElem?_eq_some_iff.mp ez).1
      obtain ⟨c, hc, ic⟩ : ∃ c, (PySem.Str.ofString "abc").cps.toList[d]? = some c ∧ (c = 97 ∨ c = 98 ∨ c = 99) := by
        rw [show (PySem.Str.ofString "abc").cps.toList = [97, 98, 99] by decide +kernel]
        rcases (show d = 0 ∨ d = 1 ∨ d = 2 by omega) with rfl | rfl | rfl
        · exact ⟨97, rfl, by decide⟩
        · exact ⟨98, rfl, by decide⟩
        · exact ⟨99, rfl, by decide⟩
      refine ⟨rfl, ?_⟩
      refine ⟨_, rfl, _, _, _, rfl, rfl, by decide +kernel, atI_nat hc, ?_⟩
      refine ⟨_, hcs, ?_, same_mut s4 nD, cs ++ [c], ?_, ?_, fun z mz => ?_⟩
      · rw [List.length_map, List.length_map]
        exact Nat.lt_of_le_of_lt (show cs.length ≤ 100 by omega) (by decide)
      · rw [upd_same, List.map_append, List.map_append] <;> rfl
      · rw [List.length_append]
        show cs.length + 1 ≤ i + 1
        omega
      · rcases List.mem_append.mp mz with mz | mz
        · exact ics z mz
        · rw [List.mem_singleton.mp mz]
          exact ic
    rintro H4 ⟨s4, cs, hcs, lcs, ics⟩
    rw [List.length_map] at lcs
    refine ⟨_, D, cs.map sgn1, rfl, rfl, .inl (SqL.of hcs), by rw [sum_signs, List.length_map]; show _ + cs.length * 0 ≤ _; exact Nat.le_trans (show _ ≤ 100 by omega) (by decide), ?_⟩
    rw [join_signs]
    have s5 := s3.trans s4
    have hrow4 := s4 _ _ hrow3
    have lt : (⟨cs.toArray⟩ : PySem.Str).length ≤ 40 := by
      rw [← len_of]
      show cs.length ≤ 40
      omega
    have abt : abcs ⟨cs.toArray⟩ := ics
    generalize (⟨cs.toArray⟩ : PySem.Str) = t at lt abt
    dsimp only [gName]
    have zz : ∀ z : Nat, z ≤ 100000 → z ≤ sizeLine := fun _ h => Nat.le_trans h (by decide)
    refine ⟨fun σ' H' => ∃ t : PySem.Str, σ' = [some (.ref sc), some (.int (at_ : Int)), some (.str x), some (.int ((40 * m : Nat) : Int)), some (.ref aD), some (.int (sz : Int)), some (.str t), none, none, none] ∧ H' = H4 ∧ t.length ≤ 400 ∧ abcs t, ?_, ?_⟩
    · refine ⟨_, rfl, _, _, rfl, rfl, _, rfl, ite2 (fun _ => ?_) (fun _ => ⟨t, rfl, rfl, by omega, abt⟩)⟩
      have lm : (Txt.mul t ((40 * m : Nat) : Int)).length ≤ 16000 := by
        have e := congrArg List.length (mul_tl t (40 * m))
        rw [Array.length_toList, PyProof.Rows.lm_len_rep_flat, Array.length_toList] at e
        have e : (Txt.mul t ((40 * m : Nat) : Int)).length = 40 * m * t.length := e
        rw [e]
        exact Nat.le_trans (Nat.mul_le_mul (show 40 * m ≤ 400 by omega) lt) (by decide)
      refine ⟨_, rfl, _, rfl, _, _, rfl, rfl, mulOk (by have := Nat.mul_le_mul lt (show 40 * m ≤ 400 by omega); omega) (by omega), _, rfl, _, rfl, aD, _, _, _, rfl, rfl, SqL.of hrow4, rw_at (j := 3) e3, _, _, rfl, rfl, _, _, rfl, rfl, .inr (by omega), _, _, rfl, rfl, ⟨by decide, by decide⟩, _, rfl, _, rfl, zz _ (by omega), ?_⟩
      have ei : ((40 * m : Nat) : Int) * ((d3 : Int) + 1) / 41 = ((40 * m * (d3 + 1) / 41 : Nat) : Int) := by
        rw [show (d3 : Int) + 1 = ((d3 + 1 : Nat) : Int) by omega, ← Int.natCast_mul]
        rfl
      have lq : 40 * m * (d3 + 1) / 41 ≤ 400 := by
        have q1 : 40 * m * (d3 + 1) ≤ 400 * 41 := Nat.mul_le_mul (by omega) (by omega)
        omega
      refine ⟨_, rfl, rfl, ?_, fun c mc => ?_⟩
      · rw [ei, ← len_of, cut_to, List.length_take]
        omega
      · rw [ei, cut_to] at mc
        have mc := List.mem_of_mem_take mc
        rw [mul_tl] at mc
        obtain ⟨w, mw, mcw⟩ := List.mem_flatten.mp mc
        rw [(List.mem_replicate.mp mw).2] at mcw
        exact abt c mcw
    rintro σ' _ ⟨t', rfl, rfl, lt', abt'⟩
    exact kE _ _ sc aD _ _ x t' m row hrow4 dg m1 m10 lt' abt' (fun u' H' s' lu au => k u' H' (s5.trans s') lu au) _
end
end Mk

set_option Elab.async false
set_option linter.all false
set_option maxRecDepth 100000
set_option maxHeartbeats 4000000
/-! a number is written: behind it a token is out -/
namespace Tk
open PySem PySem.Spec PyProof.Rows L2
def PEk (X : Cx) (e : Expr) (t : TE) : Prop :=
  ∀ (pins : List (Addr × Obj)) (s : Shared) (σ : L2.St) (H : Hp) (Q : VK), Inv X pins σ H s → t σ H Q → wpAny (model X.prog X.w) X.A (eval e X.env) (fun v s' => 1 ≤ s'.toks ∧ EP X pins σ Q v s') X.xe s
theorem pek_int {X : Cx} {i j pos} : PEk X (.Constant (.int i) j pos) (tC (.int i)) := fun _ s _ H _ I h => wpAny_Constant_int ⟨by show 1 ≤ s.toks + 1; omega, .int i, H, I.tok _, ⟨_, rfl⟩, h⟩
theorem pek_op {X : Cx} {op : Operator} {r : R2} {a b : Expr} {ta tb : TE} {pos : Pos} (ho : OpR X (binaryOp op) r) (ha : PE X a ta) (hb : PEk X b tb) : PEk X (.BinOp a op b pos) (tOp r ta tb) := by
  intro pins s σ H Q I h
  refine wpAny_BinOp (thn (ha.run pins s σ H _ I h) fun v s1 ⟨x, H1, I1, r1, q1⟩ => thn (hb pins s1 σ H1 _ I1 q1) fun u s2 ⟨hk, y, H2, I2, r2, q2⟩ => ?_)
  exact wpAny_mono (PySem.wpAny_toks (ho pins s2 σ H2 x y v u Q I2 r1 r2 q2)) (fun _ _ q => ⟨Nat.le_trans hk q.1, q.2⟩) fun _ _ z => z.2
theorem pss_setk {X : Cx} {i : Nat} {x : Str} {e : Expr} {te : TE} {pos pos' : Pos} {rest : List Stmt} {u : TS} (hN : X.N.Nodup) (hi : X.N[i]? = some x) (hx : Loc X.env.scope x) (he : PEk X e te) (h2 : PSsT X rest u)
    (hs : swapsWith e (some (.Name x pos')) pos.line X.env = pure false := by rfl) (hf : X.fn x = true ∨ X.env.scope.names.lookup x = some .local := by first | exact .inl rfl | exact .inr rfl | assumption) :
    PSs X (.Assign [.Name x pos'] e pos :: rest) (tSeq (tAsg te (gName i)) u) := by
  refine ⟨fun pins s σ H D I h => ?_⟩
  have first : wpAny (model X.prog X.w) X.A (exec (.Assign [.Name x pos'] e pos) X.env) (fun f s1 => 1 ≤ s1.toks ∧ SP X pins { D with nx := u D } f s1) X.xe s := by
    refine wpAny_Assign_Name (thn (he pins s σ H _ I h) fun v s1 ⟨hk, y, H1, I1, r1, q1⟩ => ?_) hs
    exact wpAny_mono (PySem.wpAny_toks (store_ok I1 hN hi hx r1 (fun s2 I2 => (⟨_, H1, I2, q1⟩ : SP X pins { D with nx := u D } .next s2)) hf)) (fun _ _ q => ⟨Nat.le_trans hk q.1, q.2⟩) fun _ _ z => z.2
  refine wpAny_execs_cons (wpAny_mono first (fun f s1 q => ?_) fun _ _ z => z)
  obtain ⟨hk, q⟩ := q
  cases f with
  | next =>
    obtain ⟨σ', H', I', q⟩ := q
    exact h2 pins s1 σ' H' D hk I' q
  | ret v => exact q
  | brk => exact q
  | cont => exact q
theorem pst_set {X : Cx} {i : Nat} {x : Str} {e : Expr} {te : TE} {pos pos' : Pos} (hN : X.N.Nodup) (hi : X.N[i]? = some x) (hx : Loc X.env.scope x) (he : PET X e te)
    (hs : swapsWith e (some (.Name x pos')) pos.line X.env = pure false := by rfl) (hf : X.fn x = true ∨ X.env.scope.names.lookup x = some .local := by first | exact .inl rfl | exact .inr rfl | assumption) :
    PST X (.Assign [.Name x pos'] e pos) (tAsg te (gName i)) := by
  intro pins s σ H D h0 I h
  refine wpAny_Assign_Name (thn (he pins s σ H _ h0 I h) fun v s1 ⟨y, H1, I1, r1, q1⟩ => ?_) hs
  exact store_ok I1 hN hi hx r1 (fun s2 I2 => ⟨_, H1, I2, q1⟩) hf
end Tk

set_option Elab.async false
set_option linter.unusedVariables false
set_option maxRecDepth 100000
set_option maxHeartbeats 8000000
namespace Mk
open PySem L2 Pk
theorem repl_fits {x z : PySem.Str} (y : PySem.Str) (hx : x.length ≤ sizeLine) (hb : x.length + (x.length + 1) * z.length ≤ 16777216) : (Txt.replace x y z).length ≤ sizeLine := by
  unfold Txt.replace
  split
  · exact hx
  · exact PySem.fits_replaced y hb
def rIndexS : V → List V → Hp → VK → Prop := fun x xs H Q => ∃ a b i rest, x = .str a ∧ xs = [.str b] ∧ Builtin.Str.occurrences a b 0 a.length 1 = i :: rest ∧ Q (.int (i : Nat)) H
section
variable {P : Program} {w : World} {K : PySem.W.Frag} {mg : PySem.Str → Option Value} {base : Heap}
abbrev nFit : List PySem.Str := ["name", "raw", "cut", "room", "n", "at", "flat", "few", "part", "word", "other", "turned", "one", "two", "letter", "size"]
theorem scFit : FnScope nFit ["name", "raw", "cut", "room"] (defScope sFitted) := ⟨rfl, rfl, rfl, by decide +kernel, rfl, by decide +kernel, by decide +kernel⟩
theorem ok_fit {f : Addr} {fd : FuncData} (F : Fun K "_law_fitted" "_law_fitted" sFitted f fd) (T : TM mg) (TN : mg "min" = none) (TX : mg "max" = none) (GB : Got P w K mg base "_law_back" 1 ["text"] spBack) (GF : Got P w K mg base "_law_fold" 2 ["part"] spFold) (GBr : Got P w K mg base "_law_brackets" 1 ["part"] spBr) :
    FnOk P w K mg base CX0 3 f fd ["name", "raw", "cut", "room"] (spFit K) := by
  refine F.ok scFit (fun vs H Q E h => ?_) (fun cdv A outer s H vs Q E hr h => ?_)
  · obtain ⟨x, r, cut, room, rfl, _⟩ := h
    rfl
  · obtain ⟨x, r, cut, room, rfl, lr, abr, lcut, r40, r400, k⟩ := h
    have nd := scFit.nd
    have h1 := hr.mono (show 1 ≤ 2 by decide)
    have h2 := hr
    have ar : asc r := abcs_asc abr
    have hn : r.length ≤ sizeLine := Nat.le_trans lr (by decide)
    have zz : ∀ z : Nat, z ≤ 100000 → z ≤ sizeLine := fun _ h => Nat.le_trans h (by decide)
    have lc : (PySem.Str.ofString "c").length = 1 := by decide +kernel
    have lb : (PySem.Str.ofString "b").length = 1 := by decide +kernel
    have ctk : ∀ (v : PySem.Str) (j : Nat), (cutS v none (some (j : Int))).length ≤ j := fun v j => by
      rw [← len_of, cut_to, List.length_take]
      omega
    refine ⟨_, (pss_cons (ps_set (i := 4) nd rfl (Or.inr rfl) (pe_callB call_len_str (by rfl) T.len PySem.boot_len (pa_cons (pv 1) pa_nil)))
      (Tk.pss_setk (i := 5) nd rfl (Or.inl rfl) (Tk.pek_op op_mod (pe_callTy call_int1 (by rfl) T.int PyProof.Rows.Boot.int (pa_cons (pv 2) pa_nil)) (Tk.pek_op op_add (pv 4) Tk.pek_int))
      (psst_cons (Tk.pst_set (i := 6) nd rfl (Or.inl rfl) (CwR.pet_replC (y := PySem.Str.ofString "c") (z := PySem.Str.ofString "b") (pv 1) (by decide +kernel))) (PSsT.of (pss_cons (ps_set (i := 7) nd rfl (Or.inl rfl) (pe_op op_mod (pe_callTy call_int1 (by rfl) T.int PyProof.Rows.Boot.int (pa_cons (pv 2) pa_nil)) (pe_op op_add (pe_op op_fdiv (pv 4) pe_int) pe_int)))
      (pss_cons (ps_if (pt_cmpR op_eq (pv 0) pe_str (nomark _))
        (pss_one (ps_ret (pe_got GF h2 (by rfl) (pa_cons (pv 1) pa_nil))))
        pss_nil)
      (pss_cons (ps_if (pt_cmpR op_eq (pv 0) pe_str (nomark _))
        (pss_cons (ps_set (i := 8) nd rfl (Or.inl rfl) (pe_slice sl_str (pv 6) po_none (po_some (pe_op op_fdiv (pv 3) pe_int))))
        (pss_cons (ps_set (i := 9) nd rfl (Or.inl rfl) (pe_slice sl_str (pv 8) po_none (po_some (pe_callB (call_min2 (by rfl)) (by rfl) TN (by decide +kernel) (pa_cons (pv 7) (pa_cons (pe_op op_fdiv (pv 3) pe_int) pa_nil))))))
        (pss_one (ps_ret (pe_op op_add_str (pe_op op_add_str (pe_op op_add_str (pe_op op_add_str (pv 9) pe_str) (pe_slice sl_str (pv 8) po_none (po_some (pv 5)))) (pv 9)) (pe_slice sl_str (pv 8) (po_some (pv 5)) po_none))))))
        pss_nil)
      (pss_cons (ps_if (pt_cmpR op_eq (pv 0) pe_str (nomark _))
        (pss_one (ps_ret (pe_op op_add_str (pe_slice sl_str (pv 1) po_none (po_some (pe_op op_fdiv (pe_op op_mul pe_int (pv 3)) pe_int))) (pe_slice sl_str (pv 1) po_none (po_some (pv 7))))))
        pss_nil)
      (pss_cons (ps_if (pt_cmpR op_eq (pv 0) pe_str (nomark _))
        (pss_one (ps_ret (pe_op op_add_str (pe_got GF h2 (by rfl) (pa_cons (pe_slice sl_str (pv 1) po_none (po_some (pv 5))) pa_nil)) (pe_slice sl_str (pv 1) (po_some (pv 5)) po_none))))
        pss_nil)
      (pss_cons (ps_if (pt_cmpR op_eq (pv 0) pe_str (nomark _))
        (pss_one (ps_ret (pe_got GBr h1 (by rfl) (pa_cons (pe_slice sl_str (pv 1) po_none (po_some (pe_op op_fdiv (pv 3) pe_int))) pa_nil))))
        pss_nil)
      (pss_cons (ps_if (pt_cmpR op_eq (pv 0) pe_str (nomark _))
        (pss_cons (ps_set (i := 8) nd rfl (Or.inl rfl) (pe_slice sl_str (pv 1) po_none (po_some (pe_op op_fdiv (pv 3) pe_int))))
        (pss_cons (ps_set (i := 10) nd rfl (Or.inl rfl) (pe_join pe_str (pe_lc (own := [("letter", 14)]) (g := gName 14) (tt := tYes) (by rfl) nd (pi_str (pv 8)) (blkOk_by (own := [("letter", 14)]) (N := nFit) (sc := defScope sFitted) (by decide +kernel)) (fun _ _ _ _ _ => pg_name (i := 14) nd rfl (Or.inl rfl)) (fun _ _ _ _ _ => pts_nil) (fun _ _ _ _ _ => (pe_ix ix_str pe_str (pe_bmK (r := rIndexS) K rfl PySem.F.plainAttrs_str PySem.F.slot_str_index PySem.F.type_str_index mt_sindex pe_str (pa_cons (pv 14) pa_nil)) fun _ _ => rfl)))))
        (pss_cons (ps_set (i := 11) nd rfl (Or.inl rfl) (pe_op op_add_str (pv 8) (pv 10)))
        (pss_one (ps_ret (pe_op op_add_str (pe_slice sl_str (pv 11) (po_some (pv 5)) po_none) (pe_slice sl_str (pv 11) po_none (po_some (pv 5)))))))))
        pss_nil)
      (pss_cons (ps_if (pt_cmpR op_eq (pv 0) pe_str (nomark _))
        (pss_cons (ps_set (i := 8) nd rfl (Or.inl rfl) (pe_slice sl_str (pv 6) po_none (po_some (pe_callB (call_min2 (by rfl)) (by rfl) TN (by decide +kernel) (pa_cons (pe_op op_fdiv (pv 4) pe_int) (pa_cons (pe_op op_fdiv (pe_op op_sub (pv 3) pe_int) pe_int) pa_nil))))))
        (pss_one (ps_ret (pe_op op_add_str (pe_op op_add_str (pv 8) pe_str) (pv 8)))))
        pss_nil)
      (pss_cons (ps_if (pt_cmpR op_eq (pv 0) pe_str (nomark _))
        (pss_one (ps_ret (pe_op op_add_str (pe_op op_add_str (pe_op op_mulS pe_str (pe_op op_fdiv (pv 4) pe_int)) (pe_op op_mulS pe_str (pe_op op_fdiv (pv 4) pe_int))) (pe_op op_mulS pe_str (pe_op op_fdiv (pv 4) pe_int)))))
        pss_nil)
      (pss_cons (ps_if (pt_cmpR op_eq (pv 0) pe_str (nomark _))
        (pss_one (ps_ret (pe_slice sl_str (pv 1) po_none (po_some (pe_callB (cr_max (by rfl)) (by rfl) TX (by decide +kernel) (pa_cons (pe_lc (own := [("size", 15)]) (g := gName 15) (by rfl) nd (pi_list (pe_lst (pa_cons pe_int (pa_cons pe_int (pa_cons pe_int (pa_cons pe_int (pa_cons pe_int (pa_cons pe_int (pa_cons pe_int (pa_cons pe_int (pa_cons pe_int (pa_cons pe_int pa_nil)))))))))))) (blkOk_by (own := [("size", 15)]) (N := nFit) (sc := defScope sFitted) (by decide +kernel)) (fun _ _ _ _ _ => pg_name (i := 15) nd rfl (Or.inl rfl)) (fun _ _ _ _ _ => pts_one (pt_cmpR op_le (pv 15) (pv 4) (nomark _))) (fun _ _ _ _ _ => (pv 15))) pa_nil))))))
        pss_nil)
      (pss_cons (ps_if (pt_cmpR op_eq (pv 0) pe_str (nomark _))
        (pss_one (ps_ret (pe_op op_add_str (pe_got GF h2 (by rfl) (pa_cons (pe_slice sl_str (pv 1) po_none (po_some (pv 5))) pa_nil)) (pe_got GF h2 (by rfl) (pa_cons (pe_slice sl_str (pv 1) (po_some (pv 5)) po_none) pa_nil)))))
        pss_nil)
      (pss_cons (ps_if (pt_cmpR op_eq (pv 0) pe_str (nomark _))
        (pss_cons (ps_set (i := 12) nd rfl (Or.inl rfl) (pe_slice sl_str (pv 1) po_none (po_some (pe_callB (call_min2 (by rfl)) (by rfl) TN (by decide +kernel) (pa_cons (pv 5) (pa_cons (pe_op op_fdiv (pv 3) pe_int) pa_nil))))))
        (pss_cons (ps_set (i := 13) nd rfl (Or.inl rfl) (pe_slice sl_str (pv 1) (po_some (pv 5)) (po_some (pe_op op_add (pv 5) (pe_op op_fdiv (pv 3) pe_int)))))
        (pss_one (ps_ret (pe_op op_add_str (pe_op op_add_str (pe_op op_add_str (pv 12) (pe_got GB h1 (by rfl) (pa_cons (pv 12) pa_nil))) (pv 13)) (pe_got GB h1 (by rfl) (pa_cons (pv 13) pa_nil)))))))
        pss_nil)
      (pss_one (ps_ret (pv 1))))))))))))))))))), ?_⟩
    refine ⟨_, rfl, r, rfl, hn, ?_⟩
    dsimp only [gName]
    refine ⟨_, rfl, .inl ⟨_, rfl, _, rfl, _, _, rfl, rfl, _, _, rfl, rfl, by show (0 : Int) < _; omega, ?_⟩⟩
    obtain ⟨av, eav⟩ : ∃ av : Nat, av = cut % (r.length + 1) := ⟨_, rfl⟩
    have ea : (cut : Int) % ((r.length : Int) + 1) = (av : Int) := by rw [show (r.length : Int) + 1 = ((r.length + 1 : Nat) : Int) by omega, ← Int.natCast_emod, eav]
    have lav : av ≤ r.length := by rw [eav]; exact Nat.le_of_lt_succ (Nat.mod_lt _ (Nat.succ_pos _))
    dsimp only
    rw [ea]
    dsimp only [gName]
    have hb : r.length + (r.length + 1) * (PySem.Str.ofString "b").length ≤ 16777216 := by rw [lb]; omega
    refine ⟨_, rfl, r, rfl, hb, ?_⟩
    have lf : (Txt.replace r (PySem.Str.ofString "c") (PySem.Str.ofString "b")).length ≤ sizeLine := repl_fits _ hn hb
    have af : asc (Txt.replace r (PySem.Str.ofString "c") (PySem.Str.ofString "b")) := asc_repl ar (by decide +kernel)
    generalize Txt.replace r (PySem.Str.ofString "c") (PySem.Str.ofString "b") = fl at lf af
    dsimp only [gName]
    refine ⟨_, rfl, .inl ⟨_, rfl, _, rfl, _, _, rfl, rfl, ⟨by decide, by decide⟩, _, _, rfl, rfl, _, _, rfl, rfl, by show (0 : Int) < _; omega, ?_⟩⟩
    obtain ⟨fw, efw⟩ : ∃ fw : Nat, fw = cut % (r.length / 3 + 1) := ⟨_, rfl⟩
    have ef : (cut : Int) % ((r.length : Int) / 3 + 1) = (fw : Int) := by rw [show (r.length : Int) / 3 + 1 = ((r.length / 3 + 1 : Nat) : Int) by omega, ← Int.natCast_emod, efw]
    dsimp only
    rw [ef]
    dsimp only [gName]
    refine ⟨_, rfl, rfl, _, rfl, ite2 (fun c => ?_) (fun c => ?_)⟩
    · clear c
      exact ⟨_, rfl, r, rfl, by omega, fun u hu au => k u _ (Same.refl _) (by omega) (au ar)⟩
    clear c
    refine ⟨_, rfl, rfl, _, rfl, ite2 (fun c => ?_) (fun c => ?_)⟩
    · clear c
      refine ⟨_, rfl, _, rfl, _, _, rfl, rfl, ⟨by decide, by decide⟩, _, rfl, fl, rfl, lf, ?_⟩
      dsimp only
      rw [show (room : Int) / 2 = ((room / 2 : Nat) : Int) from rfl]
      have lp : (cutS fl none (some ((room / 2 : Nat) : Int))).length ≤ 200 := Nat.le_trans (ctk _ _) (by omega)
      have ap : asc (cutS fl none (some ((room / 2 : Nat) : Int))) := asc_cut af
      generalize cutS fl none (some ((room / 2 : Nat) : Int)) = part at lp ap
      dsimp only [gName]
      refine ⟨_, rfl, _, rfl, _, rfl, _, _, rfl, rfl, ⟨by decide, by decide⟩, _, _, rfl, _, rfl, part, rfl, zz _ (by omega), ?_⟩
      generalize hw : cutS part none _ = word
      have aw : asc word := by rw [← hw]; exact asc_cut ap
      have lw : word.length ≤ 200 := by rw [← hw]; exact Nat.le_trans (cut_le ..) lp
      dsimp only [gName]
      have c1 := cut_le part none (some (av : Int))
      have c2 := cut_le part (some (av : Int)) none
      exact ⟨_, rfl, _, _, rfl, rfl, zz _ (by rw [lc]; omega), _, rfl, _, rfl, _, rfl, part, rfl, zz _ (by omega), _, _, rfl, rfl, zz _ (by rw [app_len, lc]; omega), _, rfl, _, _, rfl, rfl, zz _ (by rw [app_len, app_len, lc]; omega), _, rfl, _, rfl, _, rfl, part, rfl, zz _ (by omega), _, _, rfl, rfl, zz _ (by rw [app_len, app_len, app_len, lc]; omega), k _ _ (Same.refl _) (by rw [app_len, app_len, app_len, app_len, lc]; omega) (by repeat' first | assumption | refine asc_app ?_ ?_ | refine asc_cut ?_ | refine asc_rev ?_ | refine asc_mul ?_ | decide +kernel)⟩
    clear c
    refine ⟨_, rfl, rfl, _, rfl, ite2 (fun c => ?_) (fun c => ?_)⟩
    · clear c
      have c1 : ∀ i, (cutS r none (some i)).length ≤ 400 := fun i => Nat.le_trans (cut_le ..) lr
      exact ⟨_, rfl, _, rfl, _, _, rfl, rfl, .inl (by decide), _, _, rfl, rfl, ⟨by decide, by decide⟩, _, rfl, r, rfl, hn, _, rfl, _, rfl, _, rfl, r, rfl, hn, _, _, rfl, rfl, zz _ (Nat.le_trans (Nat.add_le_add (c1 _) (c1 _)) (by decide)), k _ _ (Same.refl _) (by rw [app_len]; exact Nat.le_trans (Nat.add_le_add (c1 _) (c1 _)) (by decide)) (by repeat' first | assumption | refine asc_app ?_ ?_ | refine asc_cut ?_ | refine asc_rev ?_ | refine asc_mul ?_ | decide +kernel)⟩
    clear c
    refine ⟨_, rfl, rfl, _, rfl, ite2 (fun c => ?_) (fun c => ?_)⟩
    · clear c
      have c1 := cut_le r none (some (av : Int))
      have c2 := cut_le r (some (av : Int)) none
      exact ⟨_, rfl, _, rfl, _, rfl, r, rfl, hn, _, rfl, by omega, fun u hu au => ⟨_, rfl, _, rfl, _, rfl, r, rfl, hn, _, _, rfl, rfl, zz _ (by omega), k _ _ (Same.refl _) (by rw [app_len]; omega) (asc_app (au (asc_cut ar)) (asc_cut ar))⟩⟩
    clear c
    refine ⟨_, rfl, rfl, _, rfl, ite2 (fun c => ?_) (fun c => ?_)⟩
    · clear c
      have c1 : ∀ i, (cutS r none (some i)).length ≤ 400 := fun i => Nat.le_trans (cut_le ..) lr
      exact ⟨_, rfl, _, rfl, _, _, rfl, rfl, ⟨by decide, by decide⟩, _, rfl, r, rfl, hn, _, rfl, Nat.le_trans (c1 _) (by decide), fun u hu au => k _ _ (Same.refl _) (Nat.le_trans hu (Nat.le_trans (Nat.mul_le_mul_left 2 (c1 _)) (by decide))) au⟩
    clear c
    refine ⟨_, rfl, rfl, _, rfl, ite2 (fun c => ?_) (fun c => ?_)⟩
    · clear c
      refine ⟨_, rfl, _, rfl, _, _, rfl, rfl, ⟨by decide, by decide⟩, _, rfl, r, rfl, hn, ?_⟩
      have lp : (cutS r none (some ((room : Int) / 2))).length ≤ 400 := Nat.le_trans (cut_le ..) lr
      have abp : abcs (cutS r none (some ((room : Int) / 2))) := fun c mc => by
        rw [show (room : Int) / 2 = ((room / 2 : Nat) : Int) from rfl, cut_to] at mc
        exact abr c (List.mem_of_mem_take mc)
      dsimp only
      generalize cutS r none (some ((room : Int) / 2)) = part at lp abp
      dsimp only [gName]
      refine ⟨⟨_, rfl⟩, _, rfl, part, rfl, fun D hD => lc_it walk_str (fun i H' => Same H H' ∧ ∃ cs : List Nat, H' D = some (.lst ((cs.map sgn1).map V.str)) ∧ cs.length ≤ i ∧ ∀ c ∈ cs, c < 1114112) ⟨same_new hD, [], upd_same, Nat.zero_le _, fun c m => absurd m List.not_mem_nil⟩ (fun _ _ _ _ => trivial) ?_ ?_⟩
      · rintro i v H2 H3 hi ⟨s2, cs, hcs, lcs, acs⟩ ⟨rfl, c, hc, rfl⟩
        have mc : c ∈ part.cps.toList := List.mem_of_getElem? (by rw [Array.getElem?_toList]; exact hc)
        have li : i < 400 := Nat.lt_of_lt_of_le hi lp
        have fin : ∀ e : Nat, e < 1114112 → ∃ acc, H3 D = some (.lst acc) ∧ acc.length < sizeLine ∧ Same H (upd H3 D (.lst (acc ++ [V.str ⟨#[e]⟩]))) ∧ ∃ cs : List Nat, (upd H3 D (.lst (acc ++ [V.str ⟨#[e]⟩]))) D = some (.lst ((cs.map sgn1).map V.str)) ∧ cs.length ≤ i + 1 ∧ ∀ c ∈ cs, c < 1114112 := fun e he => by
          refine ⟨_, hcs, ?_, same_mut s2 hD, cs ++ [e], ?_, ?_, fun c mc => (List.mem_append.mp mc).elim (acs c) (fun z => by rw [List.mem_singleton.mp z]; exact he)⟩
          · rw [List.length_map, List.length_map]
            exact Nat.lt_of_le_of_lt (show cs.length ≤ 400 by omega) (by decide)
          · rw [upd_same, List.map_append, List.map_append] <;> rfl
          · rw [List.length_append]
            show cs.length + 1 ≤ i + 1
            omega
        refine ⟨rfl, ?_⟩
        rcases abp c mc with rfl | rfl | rfl
        · exact ⟨rfl, _, rfl, _, _, 0, [], rfl, rfl, by decide +kernel, _, _, _, rfl, rfl, by decide +kernel, atI_nat (show (PySem.Str.ofString "bac").cps.toList[0]? = some 98 by decide +kernel), fin _ (by decide)⟩
        · exact ⟨rfl, _, rfl, _, _, 1, [], rfl, rfl, by decide +kernel, _, _, _, rfl, rfl, by decide +kernel, atI_nat (show (PySem.Str.ofString "bac").cps.toList[1]? = some 97 by decide +kernel), fin _ (by decide)⟩
        · exact ⟨rfl, _, rfl, _, _, 2, [], rfl, rfl, by decide +kernel, _, _, _, rfl, rfl, by decide +kernel, atI_nat (show (PySem.Str.ofString "bac").cps.toList[2]? = some 99 by decide +kernel), fin _ (by decide)⟩
      rintro H3 ⟨s3, cs, hcs, lcs, acs⟩
      have lcs : cs.length ≤ 400 := Nat.le_trans lcs lp
      refine ⟨_, D, cs.map sgn1, rfl, rfl, .inl (SqL.of hcs), by rw [sum_signs, List.length_map]; show _ + cs.length * 0 ≤ _; exact zz _ (by omega), ?_⟩
      rw [join_signs]
      have lo : (⟨cs.toArray⟩ : PySem.Str).length ≤ 400 := by
        rw [← len_of]
        exact lcs
      have ao : asc ⟨cs.toArray⟩ := acs
      generalize (⟨cs.toArray⟩ : PySem.Str) = other at lo ao
      dsimp only [gName]
      refine ⟨_, rfl, _, rfl, _, _, rfl, rfl, zz _ (by omega), ?_⟩
      have lt : (part ++ other).length ≤ 800 := by rw [app_len]; omega
      have atn : asc (part ++ other) := asc_app (abcs_asc abp) ao
      generalize part ++ other = turned at lt atn
      dsimp only [gName]
      have c1 := cut_le turned none (some (av : Int))
      have c2 := cut_le turned (some (av : Int)) none
      exact ⟨_, rfl, _, rfl, _, rfl, turned, rfl, zz _ (by omega), _, rfl, _, rfl, _, rfl, turned, rfl, zz _ (by omega), _, _, rfl, rfl, zz _ (by omega), k _ _ s3 (by rw [app_len]; omega) (by repeat' first | assumption | refine asc_app ?_ ?_ | refine asc_cut ?_ | refine asc_rev ?_ | refine asc_mul ?_ | decide +kernel)⟩
    clear c
    refine ⟨_, rfl, rfl, _, rfl, ite2 (fun c => ?_) (fun c => ?_)⟩
    · clear c
      refine ⟨_, rfl, _, rfl, _, _, rfl, rfl, ⟨by decide, by decide⟩, _, rfl, _, _, rfl, rfl, _, _, rfl, rfl, ⟨by decide, by decide⟩, _, _, rfl, _, rfl, fl, rfl, lf, ?_⟩
      dsimp only
      obtain ⟨j, ej, lj⟩ : ∃ j : Nat, (if ((room : Int) - 1) / 2 < (r.length : Int) / 2 then ((room : Int) - 1) / 2 else (r.length : Int) / 2) = (j : Int) ∧ j ≤ 200 := by
        split
        · exact ⟨(((room : Int) - 1) / 2).toNat, by omega, by omega⟩
        · exact ⟨((r.length : Int) / 2).toNat, by omega, by omega⟩
      rw [ej]
      have lp : (cutS fl none (some (j : Int))).length ≤ 200 := Nat.le_trans (ctk _ _) lj
      have ap : asc (cutS fl none (some (j : Int))) := asc_cut af
      generalize cutS fl none (some (j : Int)) = part at lp ap
      dsimp only [gName]
      exact ⟨_, rfl, _, _, rfl, rfl, zz _ (by rw [lc]; omega), _, rfl, _, _, rfl, rfl, zz _ (by rw [app_len, lc]; omega), k _ _ (Same.refl _) (by rw [app_len, app_len, lc]; omega) (by repeat' first | assumption | refine asc_app ?_ ?_ | refine asc_cut ?_ | refine asc_rev ?_ | refine asc_mul ?_ | decide +kernel)⟩
    clear c
    refine ⟨_, rfl, rfl, _, rfl, ite2 (fun c => ?_) (fun c => ?_)⟩
    · clear c
      have e3 : (r.length : Int) / 3 = ((r.length / 3 : Nat) : Int) := rfl
      have ok : ∀ s : PySem.Str, s.length = 1 → MulOk s ((r.length / 3 : Nat) : Int) := fun s h => mulOk (by rw [h]; omega) (by omega)
      obtain ⟨a2, b2, c2⟩ := mul_len3 (r.length / 3)
      exact ⟨_, rfl, _, _, rfl, rfl, ⟨by decide, by decide⟩, _, _, rfl, rfl, ok _ (by decide +kernel), _, rfl, _, _, rfl, rfl, ⟨by decide, by decide⟩, _, _, rfl, rfl, ok _ (by decide +kernel), _, _, rfl, rfl, zz _ (Nat.le_trans (Nat.add_le_add (Nat.le_of_eq a2) (Nat.le_of_eq b2)) (by omega)), _, rfl, _, _, rfl, rfl, ⟨by decide, by decide⟩, _, _, rfl, rfl, ok _ (by decide +kernel), _, _, rfl, rfl, zz _ (Nat.le_trans (Nat.add_le_add (Nat.le_of_eq ((app_len _ _).trans (congr (congrArg HAdd.hAdd a2) b2))) (Nat.le_of_eq c2)) (by omega)), k _ _ (Same.refl _) (Nat.le_trans (Nat.le_of_eq ((app_len _ _).trans (congr (congrArg HAdd.hAdd ((app_len _ _).trans (congr (congrArg HAdd.hAdd a2) b2))) c2))) (by omega)) (by repeat' first | assumption | refine asc_app ?_ ?_ | refine asc_cut ?_ | refine asc_rev ?_ | refine asc_mul ?_ | decide +kernel)⟩
    clear c
    refine ⟨_, rfl, rfl, _, rfl, ite2 (fun c => ?_) (fun c => ?_)⟩
    · clear c
      refine ⟨_, rfl, show 10 ≤ sizeLine by decide, fun a ha => ?_⟩
      have sa : Same H (upd H a (.lst (([0, 1, 2, 4, 8, 16, 32, 64, 128, 256] : List Int).map V.int))) := same_new ha
      have ha1 : (upd H a (.lst (([0, 1, 2, 4, 8, 16, 32, 64, 128, 256] : List Int).map V.int))) a = some (.lst (([0, 1, 2, 4, 8, 16, 32, 64, 128, 256] : List Int).map V.int)) := upd_same
      refine ⟨a, rfl, ⟨_, SqL.of ha1⟩, fun D hD => lc_list (K := K) (a := a) (xs := ([0, 1, 2, 4, 8, 16, 32, 64, 128, 256] : List Int).map V.int) (fun i H' => Same (upd H a (.lst (([0, 1, 2, 4, 8, 16, 32, 64, 128, 256] : List Int).map V.int))) H' ∧ ∃ cs : List Int, H' D = some (.lst (cs.map V.int)) ∧ cs.length ≤ i ∧ (0 < i → 0 < cs.length)) ⟨same_new hD, [], upd_same, Nat.zero_le _, fun h => absurd h (Nat.lt_irrefl _)⟩ (fun i H' _ h => SqL.of (h.1 _ _ ha1)) ?_ ?_⟩
      · rintro i y H3 hi ⟨s3, cs, hcs, lcs, pcs⟩
        obtain ⟨z, ez, rfl⟩ := mapInt hi
        have li : i < 10 := (List.getElem?_eq_some_iff.mp ez).1
        refine ⟨rfl, ?_⟩
        refine ⟨_, rfl, _, rfl, _, _, rfl, rfl, _, rfl, ite2 (fun c => ?_) (fun c => ?_)⟩
        · refine ⟨_, rfl, _, hcs, ?_, same_mut s3 hD, cs ++ [z], ?_, ?_, fun _ => ?_⟩
          · rw [List.length_map]
            exact Nat.lt_of_le_of_lt (show cs.length ≤ 100 by omega) (by decide)
          · rw [upd_same, List.map_append] <;> rfl
          · rw [List.length_append]
            show cs.length + 1 ≤ i + 1
            omega
          · rw [List.length_append]
            show 0 < cs.length + 1
            omega
        · refine ⟨s3, cs, hcs, by omega, fun _ => ?_⟩
          by_cases i0 : i = 0
          · subst i0
            have : z = 0 := (Option.some.inj ez).symm
            subst this
            exact absurd (decide_eq_true (by omega)) c
          · exact pcs (by omega)
      rintro H3 ⟨s3, cs, hcs, lcs, pcs⟩
      refine ⟨D, cs, rfl, SqL.of hcs, pcs (by decide), fun mm _ _ => ⟨_, rfl, r, rfl, hn, ?_⟩⟩
      exact k _ _ (sa.trans s3) (Nat.le_trans (cut_le ..) (by omega)) (asc_cut ar)
    clear c
    refine ⟨_, rfl, rfl, _, rfl, ite2 (fun c => ?_) (fun c => ?_)⟩
    · clear c
      have c1 := cut_le r none (some (av : Int))
      have c2 := cut_le r (some (av : Int)) none
      exact ⟨_, rfl, _, rfl, _, rfl, r, rfl, hn, _, rfl, by omega, fun u hu au => ⟨_, rfl, _, rfl, _, rfl, r, rfl, hn, _, rfl, by omega, fun v hv av2 => ⟨_, _, rfl, rfl, zz _ (by omega), k _ _ (Same.refl _) (by rw [app_len]; omega) (asc_app (au (asc_cut ar)) (av2 (asc_cut ar)))⟩⟩⟩
    clear c
    refine ⟨_, rfl, rfl, _, rfl, ite2 (fun c => ?_) (fun c => ?_)⟩
    · clear c
      refine ⟨_, rfl, _, rfl, _, rfl, _, _, rfl, rfl, ⟨by decide, by decide⟩, _, _, rfl, _, rfl, r, rfl, hn, ?_⟩
      generalize hw : cutS r none _ = one
      have a1 : asc one := by rw [← hw]; exact asc_cut ar
      have lw : one.length ≤ 400 := by rw [← hw]; exact Nat.le_trans (cut_le ..) lr
      dsimp only [gName]
      refine ⟨_, rfl, _, rfl, _, rfl, _, rfl, _, rfl, _, _, rfl, rfl, ⟨by decide, by decide⟩, _, _, rfl, rfl, _, rfl, r, rfl, hn, ?_⟩
      generalize hv : cutS r _ _ = two
      have a2 : asc two := by rw [← hv]; exact asc_cut ar
      have lv : two.length ≤ 400 := by rw [← hv]; exact Nat.le_trans (cut_le ..) lr
      dsimp only [gName]
      have r1 := rev_len one
      have r2 := rev_len two
      exact ⟨_, rfl, _, rfl, one, rfl, by omega, _, _, rfl, rfl, zz _ (by omega), _, rfl, _, _, rfl, rfl, zz _ (by rw [app_len]; omega), _, rfl, two, rfl, by omega, _, _, rfl, rfl, zz _ (by rw [app_len, app_len]; omega), k _ _ (Same.refl _) (by rw [app_len, app_len, app_len]; omega) (by repeat' first | assumption | refine asc_app ?_ ?_ | refine asc_cut ?_ | refine asc_rev ?_ | refine asc_mul ?_ | decide +kernel)⟩
    clear c
    exact ⟨_, rfl, k _ _ (Same.refl _) (by omega) ar⟩
end
end Mk

set_option Elab.async false
set_option linter.unusedVariables false
set_option maxRecDepth 100000
set_option maxHeartbeats 8000000
namespace Mk
open PySem L2 Pk
abbrev sNoInit : Stmt := inClass (top 20) 0
abbrev sTxInit : Stmt := inClass (top 4) 0
/-- an own error with one field -/
structure ErrF (K : PySem.W.Frag) (mg : PySem.Str → Option Value) (nm fld : PySem.Str) (C fI : Addr) : Prop where
  gC : mg nm = some (.ref C)
  ox : OexC K C
  iC : PySem.W.findIn K (.ref C) "__init__" = some (some (.ref fI))
  tI : PySem.W.typeIn K (.ref fI) = some (.type "function")
  no : PySem.W.findIn K (.ref C) fld = some none
/-- the name of a program -/
def isNameD : PyData → Bool
  | .str t => decide (t ∈ namesL)
  | _ => false
section
variable {P : Program} {w : World} {K : PySem.W.Frag} {mg : PySem.Str → Option Value} {base : Heap}
def spFldI (C : Addr) (fld : PySem.Str) : Sp := fun vs H Q _ => ∃ (a : Addr) (y : V), vs = [.ref a, y] ∧ H a = some (exo a C none) ∧ ∀ dx, H dx = none → dx ≠ a → Q .non (upd (upd H dx (exd dx [(fld, y)])) a (exo a C (some dx)))
theorem scNoI : FnScope ["self", "name"] ["self", "name"] (defScope sNoInit) := ⟨rfl, rfl, rfl, by decide +kernel, rfl, by decide +kernel, by decide +kernel⟩
theorem ok_noI {f C : Addr} {fd : FuncData} (F : Fun K "__init__" "NoSuchProgram.__init__" sNoInit f fd) (T : OexC K C) (no : PySem.W.findIn K (.ref C) "name" = some none) : FnOk P w K mg base CX0 1 f fd ["self", "name"] (spFldI C "name") := by
  refine F.ok scNoI (fun vs H Q E h => ?_) (fun cdv A outer s H vs Q E hr h => ?_)
  · obtain ⟨a, y, rfl, _⟩ := h
    rfl
  · obtain ⟨a, y, rfl, ha, k⟩ := h
    refine ⟨_, pss_one (ps_ost (pv 0) (pv 1)), ?_⟩
    exact ⟨_, rfl, _, rfl, a, C, rfl, T, no, .inl ⟨ha, fun dx h1 h2 => k dx h1 h2⟩⟩
theorem scTxI : FnScope ["self", "text"] ["self", "text"] (defScope sTxInit) := ⟨rfl, rfl, rfl, by decide +kernel, rfl, by decide +kernel, by decide +kernel⟩
theorem ok_txI {f C : Addr} {fd : FuncData} (F : Fun K "__init__" "BadText.__init__" sTxInit f fd) (T : OexC K C) (no : PySem.W.findIn K (.ref C) "text" = some none) : FnOk P w K mg base CX0 1 f fd ["self", "text"] (spFldI C "text") := by
  refine F.ok scTxI (fun vs H Q E h => ?_) (fun cdv A outer s H vs Q E hr h => ?_)
  · obtain ⟨a, y, rfl, _⟩ := h
    rfl
  · obtain ⟨a, y, rfl, ha, k⟩ := h
    refine ⟨_, pss_one (ps_ost (pv 0) (pv 1)), ?_⟩
    exact ⟨_, rfl, _, rfl, a, C, rfl, T, no, .inl ⟨ha, fun dx h1 h2 => k dx h1 h2⟩⟩
/-! check_name -/
def spChkName (K : PySem.W.Frag) (C : Addr) : Sp := fun vs H Q E => ∃ (v : V) (d : PyData), vs = [v] ∧ Dp K H v d ∧ (isNameD d = true → Q .non H) ∧
  (isNameD d = false → ∀ (dx : Addr) (H' : Hp), H dx = none → Same H H' → H' dx = some (.xd [("name", v)]) → E (.ref C) (some dx) H')
theorem scChkName : FnScope ["name"] ["name"] (defScope sCheckName) := ⟨rfl, rfl, rfl, by decide +kernel, rfl, by decide +kernel, by decide +kernel⟩
theorem ok_chkName {f C fI aN : Addr} {fd fdI : FuncData} (F : Fun K "check_name" "check_name" sCheckName f fd) (T : TM mg) (B : ErrF K mg "NoSuchProgram" "name" C fI) (FI : Fun K "__init__" "NoSuchProgram.__init__" sNoInit fI fdI) (bI : Binds K fdI ["self", "name"] [])
    (gN : mg "NAMES" = some (.ref aN)) (hN : ∀ H : Hp, SqT K H aN (namesL.map V.str)) : FnOk P w K mg base (L2N.CX P w) 3 f fd ["name"] (spChkName K C) := by
  have GI : FnOk P w K mg base CX0 1 fI fdI ["self", "name"] (spFldI C "name") := ok_noI FI B.ox B.no
  refine fun_okN F scChkName (fun vs H Q E h => ?_) (fun cdv A outer s H vs Q E hr h => ?_)
  · obtain ⟨v, d, rfl, _⟩ := h
    rfl
  · obtain ⟨v, d, rfl, hd, kQ, kE⟩ := h
    have h2 : Room 2 _ := hr
    refine ⟨_, (pss_one (ps_if (PW.pt (pw_or (pt_not (pt_val (pe_callB call_isi (by rfl) T.isi (by decide +kernel) (pa_cons (pv 0) (pa_cons (pe_bltn (v := .ty "str") (by rfl) T.str PyProof.Rows.Boot.str rfl) pa_nil))))) (pw_or1 (pt_cmpR op_notIn_seq (pv 0) (pe_glob (v := .ref aN) (by rfl) gN rfl) rfl))))
        (pss_one (L2N.ps_raise rfl (L2N.takes_of rfl rfl rfl rfl) (pmkN_own B.ox B.iC B.tI GI h2 bI pass0 (by rfl) B.gC (pa_cons (pv 0) pa_nil))))
        pss_nil)), ?_⟩
    refine ⟨_, rfl, _, _, _, _, isStrT d, rfl, .ty _, dp_tyx hd, kit_str d, _, rfl, ?_⟩
    refine ite2 (fun c => ?_) (fun c => ?_)
    · have en : isNameD d = false := by cases d <;> first | rfl | cases c
      refine ⟨_, rfl, (by show 1 ≤ 1000; decide), fun a ha => ⟨a, _, rfl, upd_same, fun dx hdx nda => ?_⟩⟩
      have hdx1 : H dx = none := by
        rw [upd_ne nda] at hdx
        exact hdx
      refine ⟨rfl, dx, _, upd_same, (by rw [upd_ne nda, upd_same]), hdx1, kE en dx _ hdx1 (fun b o e1 => ?_) upd_same⟩
      have nb : b ≠ dx := ne_of_none e1 hdx1
      have na : b ≠ a := ne_of_none e1 ha
      rw [upd_ne nb, del_ne na, upd_ne na, upd_ne nb, upd_ne na]
      exact e1
    · have cs : isStrT d = true := by
        cases h : isStrT d with
        | true => rfl
        | false => rw [h] at c; exact absurd rfl c
      obtain ⟨x, rfl, rfl⟩ := dp_str hd cs
      have e : isNameD (.str x) = decide (x ∈ namesL) := rfl
      refine ⟨_, rfl, aN, _, rfl, .inr (hN H), rfl, ?_, ?_⟩
      · rw [List.all_map]
        exact List.all_eq_true.mpr fun _ _ => rfl
      · refine ⟨_, rfl, ?_⟩
        show ite ((!inV (V.str x) (namesL.map V.str)) = true) _ _
        rw [inV_strs]
        refine ite2 (fun c2 => ?_) (fun c2 => ?_)
        · have en : isNameD (.str x) = false := by
            rw [e]
            cases h : decide (x ∈ namesL) with
            | true => rw [h] at c2; cases c2
            | false => rfl
          refine ⟨_, rfl, (by show 1 ≤ 1000; decide), fun a ha => ⟨a, _, rfl, upd_same, fun dx hdx nda => ?_⟩⟩
          have hdx1 : H dx = none := by
            rw [upd_ne nda] at hdx
            exact hdx
          refine ⟨rfl, dx, _, upd_same, (by rw [upd_ne nda, upd_same]), hdx1, kE en dx _ hdx1 (fun b o e1 => ?_) upd_same⟩
          have nb : b ≠ dx := ne_of_none e1 hdx1
          have na : b ≠ a := ne_of_none e1 ha
          rw [upd_ne nb, del_ne na, upd_ne na, upd_ne nb, upd_ne na]
          exact e1
        · have en : isNameD (.str x) = true := by
            rw [e]
            cases h : decide (x ∈ namesL) with
            | true => rfl
            | false => rw [h] at c2; exact absurd rfl c2
          exact kQ en
end
end Mk

set_option Elab.async false
set_option linter.unusedVariables false
set_option maxRecDepth 100000
set_option maxHeartbeats 8000000
namespace Mk
open PySem L2 Pk
def guessL : List PySem.Str := [PySem.Str.ofString "twomirrors", PySem.Str.ofString "evenmirrors"]
def mostOf (x : PySem.Str) : Nat := if x ∈ guessL then 40 else 400
def abcB (t : PySem.Str) : Bool := t.cps.toList.all fun c => decide (c = 97 ∨ c = 98 ∨ c = 99)
/-- a text that the program of this name may read -/
def fitsD (x : PySem.Str) : PyData → Bool
  | .str t => decide (t.length ≤ mostOf x) && abcB t
  | _ => false
theorem abc_sign (c : Nat) : decide (c ∈ (PySem.Str.ofString "abc").cps.toList) = decide (c = 97 ∨ c = 98 ∨ c = 99) := by
  rw [show (PySem.Str.ofString "abc").cps.toList = [97, 98, 99] by decide +kernel]
  exact decide_eq_decide.mpr (by simp)
section
variable {P : Program} {w : World} {K : PySem.W.Frag} {mg : PySem.Str → Option Value} {base : Heap}
def spChkTold (K : PySem.W.Frag) (C CT : Addr) : Sp := fun vs H Q E => ∃ (v1 v2 : V) (d1 d2 : PyData), vs = [v1, v2] ∧ Dp K H v1 d1 ∧ Dp K H v2 d2 ∧ okVal d2 ∧
  (isNameD d1 = false → ∀ (dx : Addr) (H' : Hp), H dx = none → Same H H' → H' dx = some (.xd [("name", v1)]) → E (.ref C) (some dx) H') ∧
  (∀ x, d1 = .str x → x ∈ namesL → fitsD x d2 = false → ∀ (dx : Addr) (H' : Hp), H dx = none → Same H H' → H' dx = some (.xd [("text", v2)]) → E (.ref CT) (some dx) H') ∧
  (∀ x, d1 = .str x → x ∈ namesL → fitsD x d2 = true → ∀ H', Same H H' → Q .non H')
abbrev nChkTold : List PySem.Str := ["name", "text", "most", "letter"]
theorem scChkTold : FnScope nChkTold ["name", "text"] (defScope sCheckTold) := ⟨rfl, rfl, rfl, by decide +kernel, rfl, by decide +kernel, by decide +kernel⟩
theorem ok_chkTold {f fN C CT fI aG : Addr} {fd fdN fdI : FuncData} (F : Fun K "check_told" "check_told" sCheckTold f fd) (T : TM mg) (okN : FnOk P w K mg base (L2N.CX P w) 3 fN fdN ["name"] (spChkName K C)) (kN : PySem.W.keepIn K (.ref fN) = true) (bN : Binds K fdN ["name"] []) (mN : mg "check_name" = some (.ref fN))
    (B : ErrF K mg "BadText" "text" CT fI) (FI : Fun K "__init__" "BadText.__init__" sTxInit fI fdI) (bI : Binds K fdI ["self", "text"] [])
    (gG : mg "GUESSING" = some (.ref aG)) (hG : ∀ H : Hp, SqT K H aG (guessL.map V.str)) (gM : ∃ t, mg "MOST_GUESSED" = some (.int 40 t)) (gL : ∃ t, mg "MOST_LETTERS" = some (.int 400 t)) : FnOk P w K mg base (L2N.CX P w) 4 f fd ["name", "text"] (spChkTold K C CT) := by
  have GI : FnOk P w K mg base CX0 1 fI fdI ["self", "text"] (spFldI CT "text") := ok_txI FI B.ox B.no
  obtain ⟨t1, gM⟩ := gM
  obtain ⟨t2, gL⟩ := gL
  refine fun_okN F scChkTold (fun vs H Q E h => ?_) (fun cdv A outer s H vs Q E hr h => ?_)
  · obtain ⟨v1, v2, d1, d2, rfl, _⟩ := h
    rfl
  · obtain ⟨v1, v2, d1, d2, rfl, g1, g2, ov, kE1, kE2, kQ⟩ := h
    have nd := scChkTold.nd
    have h2 := hr.mono (show 2 ≤ 3 by decide)
    have h3 := hr
    refine ⟨_, (pss_cons (ps_expr (pe_call okN h3 (by rfl) mN kN bN Paired.nil (L2N.passes_call (L2N.takes_of rfl rfl rfl rfl) fun _ _ _ _ h => h) (pa_cons (pv 0) pa_nil)))
      (C8.pss_cut (ps_set (i := 2) nd rfl (Or.inl rfl) (pe_ifExp (pt_cmpR op_in_seq (pv 0) (pe_glob (v := .ref aG) (by rfl) gG rfl) rfl) (pe_glob (v := .int 40) (by rfl) gM ⟨t1, rfl⟩) (pe_glob (v := .int 400) (by rfl) gL ⟨t2, rfl⟩)))
      (pss_one (ps_if (PW.pt (pw_or (pt_not (pt_val (pe_callB call_isi (by rfl) T.isi (by decide +kernel) (pa_cons (pv 1) (pa_cons (pe_bltn (v := .ty "str") (by rfl) T.str PyProof.Rows.Boot.str rfl) pa_nil))))) (pw_or (pt_cmpR op_gt (pe_callB call_len_str (by rfl) T.len PySem.boot_len (pa_cons (pv 1) pa_nil)) (pv 2) (nomark _)) (pw_or1 (pt_not (pt_val (pe_callB (cr_all rfl) (by rfl) T.all (by decide +kernel) (pa_cons (pe_lc (own := [("letter", 3)]) (g := gName 3) (tt := tYes) (by rfl) nd (pi_str (pv 1)) (blkOk_by (own := [("letter", 3)]) (N := nChkTold) (sc := defScope sCheckTold) (by decide +kernel)) (fun _ _ _ _ _ => pg_name (i := 3) nd rfl (Or.inl rfl)) (fun _ _ _ _ _ => pts_nil) (fun _ _ _ _ _ => (pe_cmpR op_in_sign (pv 3) pe_str rfl))) pa_nil))))))))
        (pss_one (L2N.ps_raise rfl (L2N.takes_of rfl rfl rfl rfl) (pmkN_own B.ox B.iC B.tI GI h2 bI pass0 (by rfl) B.gC (pa_cons (pv 1) pa_nil))))
        pss_nil)))), ?_⟩
    refine ⟨_, rfl, v1, d1, rfl, g1, fun en => ?_, kE1⟩
    have cs : isStrT d1 = true := by cases d1 <;> first | rfl | cases en
    obtain ⟨x, rfl, rfl⟩ := dp_str g1 cs
    have mx : x ∈ namesL := of_decide_eq_true en
    refine ⟨fun σ' H' => σ' = [some (.str x), some v2, some (.int (mostOf x : Int)), none] ∧ H' = H, ?_, ?_⟩
    · refine ⟨_, rfl, aG, _, rfl, .inr (hG H), rfl, (by rw [List.all_map]; exact List.all_eq_true.mpr fun _ _ => rfl), ?_⟩
      refine ⟨_, rfl, ?_⟩
      show ite (inV (V.str x) (guessL.map V.str) = true) _ _
      rw [inV_strs]
      refine ite2 (fun c => ?_) (fun c => ?_)
      · refine ⟨?_, rfl⟩
        unfold mostOf
        rw [if_pos (of_decide_eq_true c)]
        rfl
      · refine ⟨?_, rfl⟩
        unfold mostOf
        rw [if_neg fun z => c (decide_eq_true z)]
        rfl
    rintro σ' G ⟨rfl, eG⟩
    have eG := eG.symm
    subst eG
    refine ⟨_, rfl, _, _, _, _, isStrT d2, rfl, .ty _, dp_tyx g2, kit_str d2, _, rfl, ite2 (fun c => ?_) (fun c => ?_)⟩
    · have bad : fitsD x d2 = false := by cases d2 <;> first | rfl | cases c
      refine ⟨_, rfl, (by show 1 ≤ 1000; decide), fun a ha => ⟨a, _, rfl, upd_same, fun dx hdx nda => ?_⟩⟩
      rw [upd_ne nda] at hdx
      refine ⟨rfl, dx, _, upd_same, (by rw [upd_ne nda, upd_same]), hdx, kE2 x rfl mx bad dx _ (free_of (Same.refl _) hdx) (fun b o e1 => ?_) upd_same⟩
      have e1 := (Same.refl _) _ _ e1
      have nb : b ≠ dx := ne_of_none e1 hdx
      have na : b ≠ a := ne_of_none e1 ha
      rw [upd_ne nb, del_ne na, upd_ne na, upd_ne nb, upd_ne na]
      exact e1
    have cs2 : isStrT d2 = true := by
      cases h : isStrT d2 with
      | true => rfl
      | false => rw [h] at c; exact absurd rfl c
    obtain ⟨t, rfl, rfl⟩ := dp_str g2 cs2
    have lt : t.length ≤ 450 := ov.1
    refine ⟨_, rfl, t, rfl, Nat.le_trans lt (by decide), _, rfl, _, _, rfl, rfl, _, rfl, ite2 (fun c2 => ?_) (fun c2 => ?_)⟩
    · have bad : fitsD x (.str t) = false := by
        have q : ¬ t.length ≤ mostOf x := fun z => by have := of_decide_eq_true c2; omega
        show (decide (t.length ≤ mostOf x) && abcB t) = false
        rw [decide_eq_false q, Bool.false_and]
      refine ⟨_, rfl, (by show 1 ≤ 1000; decide), fun a ha => ⟨a, _, rfl, upd_same, fun dx hdx nda => ?_⟩⟩
      rw [upd_ne nda] at hdx
      refine ⟨rfl, dx, _, upd_same, (by rw [upd_ne nda, upd_same]), hdx, kE2 x rfl mx bad dx _ (free_of (Same.refl _) hdx) (fun b o e1 => ?_) upd_same⟩
      have e1 := (Same.refl _) _ _ e1
      have nb : b ≠ dx := ne_of_none e1 hdx
      have na : b ≠ a := ne_of_none e1 ha
      rw [upd_ne nb, del_ne na, upd_ne na, upd_ne nb, upd_ne na]
      exact e1
    have lm : decide (t.length ≤ mostOf x) = true := decide_eq_true (by
      rcases Nat.lt_or_ge (mostOf x) t.length with h | h
      · exact absurd (decide_eq_true (by omega)) c2
      · exact h)
    have ef : fitsD x (.str t) = abcB t := by
      show (decide (t.length ≤ mostOf x) && abcB t) = abcB t
      rw [lm, Bool.true_and]
    refine ⟨_, rfl, t, rfl, fun D hD => lc_it walk_str (fun i H' => Same H H' ∧ H' D = some (.lst (((t.cps.toList.take i).map fun c => decide (c = 97 ∨ c = 98 ∨ c = 99)).map V.bl))) ⟨same_new hD, upd_same⟩ (fun _ _ _ _ => trivial) ?_ ?_⟩
    · rintro i v H2 H3 hi ⟨s2, hD2⟩ ⟨rfl, cc, hc, rfl⟩
      have hc2 : t.cps.toList[i]? = some cc := by rw [Array.getElem?_toList]; exact hc
      refine ⟨rfl, _, rfl, cc, _, rfl, rfl, _, hD2, ?_, same_mut s2 hD, ?_⟩
      · rw [List.length_map, List.length_map, List.length_take]
        exact Nat.lt_of_le_of_lt (Nat.le_trans (Nat.min_le_right _ _) (Nat.le_trans (Nat.le_of_eq (len_of t)) lt)) (by decide)
      · rw [upd_same, take_succ_of hc2, List.map_append, List.map_append, abc_sign]
        rfl
    rintro H3 ⟨s3, hD3⟩
    rw [List.take_of_length_le (by rw [Array.length_toList]; exact Nat.le_refl _)] at hD3
    refine ⟨D, _, rfl, SqL.of hD3, ?_⟩
    rw [show ((t.cps.toList.map fun c => decide (c = 97 ∨ c = 98 ∨ c = 99)).all id) = abcB t by rw [List.all_map] <;> rfl]
    refine ⟨_, rfl, ite2 (fun c3 => ?_) (fun c3 => ?_)⟩
    · have bad : fitsD x (.str t) = false := by
        rw [ef]
        cases h : abcB t with
        | true => rw [h] at c3; cases c3
        | false => rfl
      refine ⟨_, rfl, (by show 1 ≤ 1000; decide), fun a ha => ⟨a, _, rfl, upd_same, fun dx hdx nda => ?_⟩⟩
      rw [upd_ne nda] at hdx
      refine ⟨rfl, dx, _, upd_same, (by rw [upd_ne nda, upd_same]), hdx, kE2 x rfl mx bad dx _ (free_of s3 hdx) (fun b o e1 => ?_) upd_same⟩
      have e1 := s3 _ _ e1
      have nb : b ≠ dx := ne_of_none e1 hdx
      have na : b ≠ a := ne_of_none e1 ha
      rw [upd_ne nb, del_ne na, upd_ne na, upd_ne nb, upd_ne na]
      exact e1
    · have good : fitsD x (.str t) = true := by
        rw [ef]
        cases h : abcB t with
        | true => rfl
        | false => rw [h] at c3; exact absurd rfl c3
      exact kQ x rfl mx good H3 s3
end
end Mk

set_option Elab.async false
set_option linter.unusedVariables false
set_option maxRecDepth 100000
set_option maxHeartbeats 8000000
namespace Mk
open PySem L2 Pk
def rKD (K : PySem.W.Frag) (d : Addr) : R2 := fun x y H Q => ∃ (z : PySem.Str) (u0 : Value) (v0 : V), x = .ref d ∧ y = .str z ∧ PySem.W.nsIn K d z = some (some u0) ∧ RelV v0 u0 ∧ Q v0 H
theorem pe_kdget {X : Cx} {d : Addr} {es : Array DictEntry} {n : Nat} {o i : Expr} {td ty : TE} {pos : Pos} (D : KDict X.K X.w d es n) (ho : PE X o td) (hi : PE X i ty) (hs : NoSl i) : PE X (.Subscript o i pos) (tOp (rKD X.K d) td ty) := by
  refine ⟨fun pins s σ H Q I h => ?_⟩
  refine subD_of PySem.F.slot_dict_getitem.lookup hs (thn (ho.run pins s σ H _ I h) fun u s1 ⟨x, H1, I1, rx, q1⟩ => thn (hi.run pins s1 σ H1 _ I1 q1) fun iv s2 ⟨y, H2, I2, ry, q2⟩ => ?_)
  have q2' := q2
  obtain ⟨z, u0, v0, rfl, rfl, e, r, q⟩ := q2
  have eu : u = Value.ref d := rx
  subst eu
  exact ⟨kd_type D I2, op_item_kd D pins s2 σ H2 (V.ref d) (V.str z) _ _ Q I2 (show RelV (V.ref d) (Value.ref d) from rfl) ry ⟨z, u0, v0, rfl, rfl, e, r, q⟩⟩
/-- the dict of the judges -/
structure JDef (P : Program) (w : World) (K : PySem.W.Frag) (mg : PySem.Str → Option Value) (base : Heap) (aJ : Addr) (es : Array DictEntry) (n : Nat) (S : Addr → Option Sp) : Prop where
  gJ : mg "JUDGES" = some (.ref aJ)
  kd : KDict K w aJ es n
  held : ∀ f sp, S f = some sp → Held P w K mg base 2 f sp
  at_ : ∀ x ∈ namesL, (PySem.W.nsIn K aJ x = some none ∧ ∀ l, judge x l = true) ∨ ∃ (f : Addr) (g : List Nat → Bool), PySem.W.nsIn K aJ x = some (some (.ref f)) ∧ S f = some (spJ g) ∧ ∀ l, judge x l = g l
section
variable {P : Program} {w : World} {K : PySem.W.Frag} {mg : PySem.Str → Option Value} {base : Heap}
def spPlainly (K : PySem.W.Frag) (C CT : Addr) : Sp := fun vs H Q E => ∃ (v1 v2 : V) (d1 d2 : PyData), vs = [v1, v2] ∧ Dp K H v1 d1 ∧ Dp K H v2 d2 ∧ okVal d2 ∧
  (isNameD d1 = false → ∀ (dx : Addr) (H' : Hp), H dx = none → Same H H' → H' dx = some (.xd [("name", v1)]) → E (.ref C) (some dx) H') ∧
  (∀ x, d1 = .str x → x ∈ namesL → fitsD x d2 = false → ∀ (dx : Addr) (H' : Hp), H dx = none → Same H H' → H' dx = some (.xd [("text", v2)]) → E (.ref CT) (some dx) H') ∧
  (∀ x t, d1 = .str x → x ∈ namesL → d2 = .str t → fitsD x d2 = true → ∀ H', Same H H' → Q (.str (dueT x t.cps.toList)) H')
abbrev nPlainly : List PySem.Str := ["name", "text", "judge"]
theorem scPlainly : FnScope nPlainly ["name", "text"] (defScope sPlainly) := ⟨rfl, rfl, rfl, by decide +kernel, rfl, by decide +kernel, by decide +kernel⟩
theorem ok_plainly {f fN C CT aJ : Addr} {fd fdN : FuncData} {es : Array DictEntry} {n : Nat} {S : Addr → Option Sp} (F : Fun K "plainly" "plainly" sPlainly f fd) (okN : FnOk P w K mg base (L2N.CX P w) 4 fN fdN ["name", "text"] (spChkTold K C CT)) (kN : PySem.W.keepIn K (.ref fN) = true) (bN : Binds K fdN ["name", "text"] []) (mN : mg "check_told" = some (.ref fN))
    (J : JDef P w K mg base aJ es n S) : FnOk P w K mg base (L2N.CX P w) 5 f fd ["name", "text"] (spPlainly K C CT) := by
  refine fun_okN F scPlainly (fun vs H Q E h => ?_) (fun cdv A outer s H vs Q E hr h => ?_)
  · obtain ⟨v1, v2, d1, d2, rfl, _⟩ := h
    rfl
  · obtain ⟨v1, v2, d1, d2, rfl, g1, g2, ov, kE1, kE2, kQ⟩ := h
    have nd := scPlainly.nd
    have h2 := hr.mono (show 2 ≤ 4 by decide)
    have h4 := hr
    refine ⟨_, (pss_cons (ps_expr (pe_call okN h4 (by rfl) mN kN bN Paired.nil (L2N.passes_call (L2N.takes_of rfl rfl rfl rfl) fun _ _ _ _ h => h) (pa_cons (pv 0) (pa_cons (pv 1) pa_nil))))
      (pss_cons (ps_if (pt_cmpR op_in_seq (pv 0) (pe_tup (pa_cons pe_str (pa_cons pe_str pa_nil))) rfl) (pss_one (ps_ret pe_str)) pss_nil)
      (pss_cons (ps_if (pt_cmpR (op_notIn_kd J.kd) (pv 0) (pe_glob (v := .ref aJ) (by rfl) J.gJ rfl) rfl) (pss_one (ps_ret pe_str)) pss_nil)
      (pss_cons (ps_set (i := 2) nd rfl (Or.inl rfl) (pe_kdget J.kd (pe_glob (v := .ref aJ) (by rfl) J.gJ rfl) (pv 0) (fun _ _ => rfl)))
      (pss_one (ps_ret (pe_ifExp (pt_val (pe_callA (i := 2) (S := S) J.held h2 rfl (Or.inl rfl) (pa_cons (pv 1) pa_nil))) pe_str pe_str))))))), ?_⟩
    refine ⟨_, rfl, _, rfl, v1, v2, d1, d2, rfl, g1, g2, ov, kE1, kE2, fun x ex mx fit H1 s1 => ?_⟩
    subst ex
    obtain ⟨t, rfl⟩ : ∃ t, d2 = .str t := by cases d2 <;> first | exact ⟨_, rfl⟩ | cases fit
    cases g1
    cases g2
    have kQ := kQ x t rfl mx rfl fit
    have lt : t.length ≤ 400 := by
      have := of_decide_eq_true (Bool.and_eq_true_iff.mp (show (decide (t.length ≤ mostOf x) && abcB t) = true from fit)).1
      unfold mostOf at this
      split at this <;> omega
    refine ⟨_, rfl, by decide, fun p hp => ⟨p, _, rfl, .inr (SqT.of upd_same), rfl, rfl, _, rfl, ?_⟩⟩
    have s2 : Same H (upd H1 p (.tup [V.str (PySem.Str.ofString "chant"), V.str (PySem.Str.ofString "rounds")])) := s1.trans (same_new hp)
    have e : inV (V.str x) [V.str (PySem.Str.ofString "chant"), V.str (PySem.Str.ofString "rounds")] = decide (x = PySem.Str.ofString "chant" ∨ x = PySem.Str.ofString "rounds") := by
      have := inV_strs x [PySem.Str.ofString "chant", PySem.Str.ofString "rounds"]
      rw [show [PySem.Str.ofString "chant", PySem.Str.ofString "rounds"].map V.str = [V.str (PySem.Str.ofString "chant"), V.str (PySem.Str.ofString "rounds")] from rfl] at this
      rw [this]
      exact decide_eq_decide.mpr (by simp)
    show ite (inV (V.str x) [V.str (PySem.Str.ofString "chant"), V.str (PySem.Str.ofString "rounds")] = true) _ _
    rw [e]
    unfold dueT at kQ
    refine ite2 (fun c => ?_) (fun c => ?_)
    · have k1 := kQ _ s2
      rw [if_pos (of_decide_eq_true c)] at k1
      exact k1
    · rw [if_neg fun z => c (decide_eq_true z)] at kQ
      rcases J.at_ x mx with ⟨en, ej⟩ | ⟨fj, g, en, eS, ej⟩
      · have k1 := kQ _ s2
        rw [if_pos (ej _)] at k1
        exact ⟨_, rfl, x, none, rfl, rfl, en, _, rfl, iteT k1⟩
      · refine ⟨_, rfl, x, some (.ref fj), rfl, rfl, en, _, rfl, iteF ?_⟩
        refine ⟨_, rfl, x, .ref fj, .ref fj, rfl, rfl, en, rfl, ?_⟩
        dsimp only [gName]
        refine ⟨fj, _, rfl, eS, _, rfl, t, rfl, lt, fun H3 s3 => ⟨_, rfl, ?_⟩⟩
        have k1 := kQ _ (s2.trans s3)
        rw [ej] at k1
        refine ite2 (fun c2 => ?_) (fun c2 => ?_)
        · rw [if_pos c2] at k1
          exact k1
        · rw [if_neg c2] at k1
          exact k1
end
end Mk

set_option Elab.async false
set_option linter.unusedVariables false
set_option maxRecDepth 100000
set_option maxHeartbeats 8000000
namespace Mk
open PySem L2 Pk PySem.Spec PyProof.Rows
/-! _law_asked -/
abbrev nAsked : List PySem.Str := ["name", "value", "e"]
theorem scAsked : FnScope nAsked ["name", "value"] (defScope sAsked) := ⟨rfl, rfl, rfl, by decide +kernel, rfl, by decide +kernel, by decide +kernel⟩
theorem passes_n {X : Cx} {W : WX} (tk : L2N.Takes X W) : Passes (L2N.CX X.prog X.w) X (fun cls d H => ∀ σ : L2.St, σ.length = X.N.length → W cls d σ H) := fun pins σ H s e s' I h => by
  obtain ⟨a, B, H', cls, d, e1, e2, e3, e4, e5, e6, e7, he⟩ := h
  exact L2N.passAt tk σ pins H s e s' I ⟨a, B, H', cls, d, e1, e2, e3, e4, e5, e6, e7, he σ I.len⟩
theorem len3 {σ : L2.St} (h : σ.length = 3) : ∃ a b c, σ = [a, b, c] := by
  match σ, h with
  | [a, b, c], _ => exact ⟨a, b, c, rfl⟩
/-- _law_plain(e) in a suite -/
def tHot (C CT a : Addr) (cls : Value) (d : Option Addr) : TE := fun σ H Q => tCons (tVar 2) tNil σ H fun vs H1 => ∃ D, (D = C ∨ D = CT) ∧ vs = [.ref a] ∧ cls = .ref D ∧ HasXd H1 d ∧ ∀ H', Same H1 H' → Q (.bl true) H'
def tIs1 (K : PySem.W.Frag) (C a : Addr) (cls : Value) (d : Option Addr) (c : V) : TE := tCB (rIsD K C a cls d) (tCons (tVar 2) (tCons (tC c) tNil))
def tSuite (K : PySem.W.Frag) (C CT D O : Addr) (said fld : PySem.Str) : Addr → Value → Option Addr → TS := fun a cls d =>
  tRet (tTup (tCons (tC (.str said)) (tCons (tXf a cls d D fld (tVar 2)) (tCons (tAndV (tHot C CT a cls d) (tNotV (tIs1 K D a cls d (.ref O)))) tNil))))
theorem look_name {v : V} : List.lookup ("name" : PySem.Str) [(("name" : PySem.Str), v)] = some v := by simp [List.lookup]
theorem look_text {v : V} : List.lookup ("text" : PySem.Str) [(("text" : PySem.Str), v)] = some v := by simp [List.lookup]
section
variable {P : Program} {w : World} {K : PySem.W.Frag} {mg : PySem.Str → Option Value} {base : Heap}
def spAsked (K : PySem.W.Frag) : Sp := fun vs H Q _ => ∃ (v1 v2 : V) (d1 d2 : PyData), vs = [v1, v2] ∧ Dp K H v1 d1 ∧ Dp K H v2 d2 ∧ okVal d2 ∧
  (isNameD d1 = false → ∀ (u : Addr) (H' : Hp), Same H H' → H' u = some (.tup [.str (PySem.Str.ofString "no such"), v1, .bl true]) → Q (.ref u) H') ∧
  (∀ x, d1 = .str x → x ∈ namesL → fitsD x d2 = false → ∀ (u : Addr) (H' : Hp), Same H H' → H' u = some (.tup [.str (PySem.Str.ofString "bad text"), v2, .bl true]) → Q (.ref u) H') ∧
  (∀ x t, d1 = .str x → x ∈ namesL → d2 = .str t → fitsD x d2 = true → ∀ (u : Addr) (H' : Hp), Same H H' → H' u = some (.tup [.str (PySem.Str.ofString "told"), .str (dueT x t.cps.toList)]) → Q (.ref u) H')
/-- plainly as the law calls it -/
structure PlDef (P : Program) (w : World) (K : PySem.W.Frag) (mg : PySem.Str → Option Value) (base : Heap) (C CT f : Addr) (fd : FuncData) : Prop where
  ok : FnOk P w K mg base (L2N.CX P w) 5 f fd ["name", "text"] (spPlainly K C CT)
  kp : PySem.W.keepIn K (.ref f) = true
  bd : Binds K fd ["name", "text"] []
  nm : mg "plainly" = some (.ref f)
structure HotDef (P : Program) (w : World) (K : PySem.W.Frag) (mg : PySem.Str → Option Value) (base : Heap) (C CT f : Addr) (fd : FuncData) : Prop where
  ok : FnHp P w K mg base 1 f fd ["e"] (spPlainE C CT)
  kp : PySem.W.keepIn K (.ref f) = true
  bd : Binds K fd ["e"] []
  nm : mg "_law_plain" = some (.ref f)
/-- the two classes beside each other -/
structure ErrsT (K : PySem.W.Frag) (mg : PySem.Str → Option Value) (C CT : Addr) : Prop where
  gC : mg "NoSuchProgram" = some (.ref C)
  gT : mg "BadText" = some (.ref CT)
  T1 : ErrT K C
  T2 : ErrT K CT
  x1 : PySem.W.exmOne K (.ref C) (.ref C) = some true
  x2 : PySem.W.exmOne K (.ref CT) (.ref C) = some false
  x3 : PySem.W.exmOne K (.ref CT) (.ref CT) = some true
  o1 : PySem.W.kitOne K (.ref C) (.ref CT) = some false
  o2 : PySem.W.kitOne K (.ref CT) (.ref C) = some false
  f1 : PySem.W.findIn K (.ref C) "name" = some none
  f2 : PySem.W.findIn K (.ref CT) "text" = some none
theorem ok_asked {f C CT fP fH : Addr} {fd fdP fdH : FuncData} (F : Fun K "_law_asked" "_law_asked" sAsked f fd) (T : TM mg) (PD : PlDef P w K mg base C CT fP fdP) (HD : HotDef P w K mg base C CT fH fdH) (N : ErrsT K mg C CT) :
    FnOk P w K mg base CX0 6 f fd ["name", "value"] (spAsked K) := by
  refine F.ok scAsked (fun vs H Q E h => ?_) (fun cdv A outer s H vs Q E hr h => ?_)
  · obtain ⟨_, _, _, _, rfl, _⟩ := h
    rfl
  · obtain ⟨v1, v2, d1, d2, rfl, g1, g2, ov, k1, k2, k3⟩ := h
    have nd := scAsked.nd
    have h1 := hr.mono (show 1 ≤ 5 by decide)
    have X1 : XfC K C := ⟨N.T1.ga, N.T1.gg, N.T1.sb, N.T1.hd⟩
    have X2 : XfC K CT := ⟨N.T2.ga, N.T2.gg, N.T2.sb, N.T2.hd⟩
    refine ⟨_, pss_one (ps_tryAs (cl := [(.ref C, 2, tSuite K C CT C CT "no such" "name"), (.ref CT, 2, tSuite K C CT CT C "bad text" "text")])
      (tb := fun W => tRet (tTup (tCons (tC (.str "told")) (tCons (tCall (spPlainly K C CT) [] (fun cls d H => ∀ σ : L2.St, σ.length = 3 → W cls d σ H) (tCons (tVar 0) (tCons (tVar 1) tNil))) tNil)))) (out := fun _ _ _ _ => False)
      rfl rfl nd takesN0
      (fun W pn xe tk _ => pss_one (ps_ret (pe_tup (pa_cons pe_str (pa_cons (pe_call PD.ok hr (by rfl) PD.nm PD.kp PD.bd Paired.nil (passes_n tk) (pa_cons (pv 0) (pa_cons (pv 1) pa_nil))) pa_nil)))))
      (.cons ⟨rfl, by decide, Or.inl N.gC⟩ rfl rfl (fun a oe cls d pn hz hf nb => ?_)
        (.cons ⟨rfl, by decide, Or.inl N.gT⟩ rfl rfl (fun a oe cls d pn hz hf nb => ?_) .nil))), ?_⟩
    · refine pss_one (ps_ret (pe_tup (pa_cons pe_str (pa_cons (pe_xf X1 N.f1 hz.zc hf (pv 2)) (pa_cons (pe_and (pe_imp (pe_hot HD.ok h1 hz hf (by rfl) HD.nm HD.kp HD.bd (pa_cons (pv 2) pa_nil)) ?_)
        (pe_one (pe_not (pe_callB (r := rIsD K C a cls d) (call_isD N.T1 hz.zc hf) (by rfl) T.isi (by decide +kernel) (pa_cons (pv 2) (pa_cons (pe_glob (v := .ref CT) (by rfl) N.gT rfl) pa_nil)))))) pa_nil)))))
      rintro σ H0 Q0 ⟨x, ex, D, eD, e1, e2, hx, kx⟩
      exact ⟨x, ex, D, d, eD, e1, hz.1.trans e2, hz.2.1, hf, hx, kx⟩
    · refine pss_one (ps_ret (pe_tup (pa_cons pe_str (pa_cons (pe_xf X2 N.f2 hz.zc hf (pv 2)) (pa_cons (pe_and (pe_imp (pe_hot HD.ok h1 hz hf (by rfl) HD.nm HD.kp HD.bd (pa_cons (pv 2) pa_nil)) ?_)
        (pe_one (pe_not (pe_callB (r := rIsD K CT a cls d) (call_isD N.T2 hz.zc hf) (by rfl) T.isi (by decide +kernel) (pa_cons (pv 2) (pa_cons (pe_glob (v := .ref C) (by rfl) N.gC rfl) pa_nil)))))) pa_nil)))))
      rintro σ H0 Q0 ⟨x, ex, D, eD, e1, e2, hx, kx⟩
      exact ⟨x, ex, D, d, eD, e1, hz.1.trans e2, hz.2.1, hf, hx, kx⟩
    · refine ⟨_, rfl, _, rfl, v1, v2, d1, d2, rfl, g1, g2, ov, fun en dx H1 nd1 s1 hy σ lσ => ?_, fun x ex mx fx dx H1 nd1 s1 hy σ lσ => ?_, fun x t ex mx et fx H1 s1 => ?_⟩
      · obtain ⟨o0, o1, o2, rfl⟩ := len3 lσ
        refine ⟨true, N.x1, fun _ a ha => ?_, fun z => Bool.noConfusion z⟩
        have hx : HasXd H1 (some dx) := ⟨dx, _, rfl, hy⟩
        refine ⟨_, rfl, rfl, rfl, dx, _, _, rfl, hy, look_name, ?_⟩
        refine ⟨_, rfl, C, .inl rfl, rfl, rfl, hx, fun H2 s2 => ?_⟩
        refine ⟨_, rfl, iteT ?_⟩
        refine ⟨_, rfl, _, _, false, rfl, rfl, xd_mono hx s2, .own CT, N.o1, false, rfl, ?_⟩
        refine ⟨show 3 ≤ sizeLine by decide, fun u nu => ?_⟩
        exact k1 en u _ ((s1.trans s2).trans (same_new nu)) upd_same
      · obtain ⟨o0, o1, o2, rfl⟩ := len3 lσ
        refine ⟨false, N.x2, fun z => Bool.noConfusion z, fun _ => ⟨true, N.x3, fun _ a ha => ?_, fun z => Bool.noConfusion z⟩⟩
        have hx : HasXd H1 (some dx) := ⟨dx, _, rfl, hy⟩
        refine ⟨_, rfl, rfl, rfl, dx, _, _, rfl, hy, look_text, ?_⟩
        refine ⟨_, rfl, CT, .inr rfl, rfl, rfl, hx, fun H2 s2 => ?_⟩
        refine ⟨_, rfl, iteT ?_⟩
        refine ⟨_, rfl, _, _, false, rfl, rfl, xd_mono hx s2, .own C, N.o2, false, rfl, ?_⟩
        refine ⟨show 3 ≤ sizeLine by decide, fun u nu => ?_⟩
        exact k2 x ex mx fx u _ ((s1.trans s2).trans (same_new nu)) upd_same
      · refine ⟨show 2 ≤ sizeLine by decide, fun u nu => ?_⟩
        exact k3 x t ex mx et fx u _ (s1.trans (same_new nu)) upd_same
end
end Mk

set_option Elab.async false
set_option linter.unusedVariables false
set_option maxRecDepth 100000
set_option maxHeartbeats 8000000
namespace Mk
open PySem L2 Pk PySem.Spec PyProof.Rows
/-! what may be handed is shaped and may be shown -/
theorem asc_ok {x : PySem.Str} (h : asc x) : PyData.strOk x = true := by
  unfold PyData.strOk
  rw [← Array.all_toList, List.all_eq_true]
  exact fun c m => decide_eq_true (h c m)
theorem lay_strs : ∀ l : List PySem.Str, (∀ x ∈ l, asc x) → PyData.canLayAll0 (l.map PyData.str) = true ∧ PyData.depthAll (l.map PyData.str) = 0
  | [], _ => ⟨by simp [PyData.canLayAll0], by simp [PyData.depthAll]⟩
  | x :: l, h => by
    have ih := lay_strs l fun z m => h z (List.mem_cons_of_mem _ m)
    have s : PyData.strOk x = true := asc_ok (h x List.mem_cons_self)
    exact ⟨by simp [PyData.canLayAll0, PyData.canLay0, ih.1, s], by simp [PyData.depthAll, PyData.depth, ih.2]⟩
theorem strs_of : ∀ {ds : List PyData}, (∀ d ∈ ds, ∃ s : PySem.Str, d = .str s ∧ s.length ≤ 450 ∧ asc s) → ∃ l : List PySem.Str, ds = l.map PyData.str ∧ ∀ x ∈ l, x.length ≤ 450 ∧ asc x
  | [], _ => ⟨[], rfl, fun _ m => absurd m List.not_mem_nil⟩
  | d :: ds, h => by
    obtain ⟨l, rfl, hl⟩ := strs_of fun z m => h z (List.mem_cons_of_mem _ m)
    obtain ⟨s, rfl, h1⟩ := h _ List.mem_cons_self
    exact ⟨s :: l, rfl, fun x m => (List.mem_cons.mp m).elim (fun e => e ▸ h1) (hl x)⟩
theorem shaped_strsL {l : List PySem.Str} (h : ∀ x ∈ l, asc x) : SeqAt.shaped (.list (l.map PyData.str)) = true := by
  obtain ⟨a, b⟩ := lay_strs l h
  unfold SeqAt.shaped
  simp [PyData.canLay0, PyData.depth, a, b]
theorem shaped_strsT {l : List PySem.Str} (h : ∀ x ∈ l, asc x) : SeqAt.shaped (.tuple (l.map PyData.str)) = true := by
  obtain ⟨a, b⟩ := lay_strs l h
  unfold SeqAt.shaped
  simp [PyData.canLay0, PyData.depth, a, b]
theorem shaped_ok {d : PyData} (h : okVal d) : SeqAt.shaped d = true := by
  cases d with
  | none => decide +kernel
  | bool b => cases b <;> decide +kernel
  | int i =>
    unfold SeqAt.shaped
    simp [PyData.canLay0, PyData.depth]
  | str x =>
    unfold SeqAt.shaped
    simp [PyData.canLay0, PyData.depth, asc_ok h.2]
  | list ds =>
    obtain ⟨l, rfl, hl⟩ := strs_of h.2
    exact shaped_strsL fun x m => (hl x m).2
  | tuple ds =>
    obtain ⟨l, rfl, hl⟩ := strs_of h.2
    exact shaped_strsT fun x m => (hl x m).2
  | dict _ => exact h.elim
theorem rep_len {x : PySem.Str} (h : x.length ≤ 450 ∧ asc x) : (reprText x).length ≤ 4502 := by
  have := StrLaws.reprText_len x fun c m => Nat.lt_trans (h.2 c m) (by decide)
  omega
theorem piled_le : ∀ {l : List PySem.Str}, (∀ x ∈ l, x.length ≤ 450 ∧ asc x) → piled (l.map reprText) ≤ 4504 * l.length
  | [], _ => Nat.zero_le _
  | x :: l, h => by
    have h1 := rep_len (h x List.mem_cons_self)
    have h2 := piled_le (l := l) fun z m => h z (List.mem_cons_of_mem _ m)
    rw [List.map_cons, piled_cons, List.length_cons]
    omega
theorem listText_le : ∀ ts : List PySem.Str, (listText ts).length ≤ piled ts + 2
  | [] => by decide +kernel
  | t :: r => by
    have h := textFrom_length_pos r 1 (PySem.Str.ofString "[" ++ PySem.Str.ofString "" ++ t) (by decide)
    have e : (PySem.Str.ofString "[" ++ PySem.Str.ofString "" ++ t).length = 1 + t.length := by rw [app_len, app_len, show (PySem.Str.ofString "[").length = 1 by decide +kernel, show (PySem.Str.ofString "").length = 0 by decide +kernel]
    show (textFrom 1 (PySem.Str.ofString "[" ++ PySem.Str.ofString "" ++ t) r ++ PySem.Str.ofString "]").length ≤ _
    rw [app_len, h, e, piled_cons, show (PySem.Str.ofString "]").length = 1 by decide +kernel]
    omega
theorem fit_ok {d : PyData} (h : okVal d) : fitR d := by
  have sz : ∀ z : Nat, z ≤ 16000000 → z ≤ sizeLine := fun _ h => Nat.le_trans h (by decide)
  cases d with
  | none => trivial
  | bool b => trivial
  | int i =>
    obtain ⟨h0, h1⟩ := h
    rcases (show i = 0 ∨ i = 1 ∨ i = 2 ∨ i = 3 ∨ i = 4 ∨ i = 5 ∨ i = 6 ∨ i = 7 ∨ i = 8 ∨ i = 9 ∨ i = 10 by omega) with rfl | rfl | rfl | rfl | rfl | rfl | rfl | rfl | rfl | rfl | rfl <;> (show Nat.log2 _ < 1920; decide +kernel)
  | str x => exact sz _ (Nat.le_trans (rep_len h) (by decide))
  | list ds =>
    obtain ⟨l, rfl, hl⟩ := strs_of h.2
    have h0 := h.1
    rw [List.length_map] at h0
    refine ⟨l, rfl, fun x m => sz _ (Nat.le_trans (rep_len (hl x m)) (by decide)), sz _ ?_⟩
    have := listText_le (l.map reprText)
    have := piled_le hl
    omega
  | tuple ds =>
    obtain ⟨l, rfl, hl⟩ := strs_of h.2
    have h0 := h.1
    rw [List.length_map] at h0
    refine ⟨l, rfl, fun x m => sz _ (Nat.le_trans (rep_len (hl x m)) (by decide)), sz _ ?_⟩
    have := fmt_text (l.map reprText)
    have := piled_le hl
    omega
  | dict _ => exact h.elim
theorem names_any (d : PyData) : ((namesL.map PyData.str).any fun z => PyData.eqv z d) = isNameD d := by
  rw [List.any_map]
  cases d with
  | str x =>
    show (namesL.any fun n => n == x) = decide (x ∈ namesL)
    refine Bool.eq_iff_iff.mpr ⟨fun h => ?_, fun h => ?_⟩
    · obtain ⟨n, m, e⟩ := List.any_eq_true.mp h
      have e : n = x := eq_of_beq e
      exact decide_eq_true (e ▸ m)
    · exact List.any_eq_true.mpr ⟨x, of_decide_eq_true h, beq_self_eq_true x⟩
  | _ => exact List.any_eq_false.mpr fun n m z => by cases z
theorem names_asc : ∀ x ∈ namesL, asc x := fun x m => (names_len x m).2.2.2.2.1
end Mk

set_option Elab.async false
set_option linter.unusedVariables false
set_option maxRecDepth 100000
set_option maxHeartbeats 8000000
namespace Mk
open PySem L2 Pk PySem.Spec PyProof.Rows
/-! _law_right -/
abbrev nRight : List PySem.Str := ["name", "value", "told", "fits", "sign"]
theorem scRight : FnScope nRight ["name", "value"] (defScope sRight) := ⟨rfl, rfl, rfl, by decide +kernel, rfl, by decide +kernel, by decide +kernel⟩
theorem mono_told {K : PySem.W.Frag} (σ : L2.St) (H : Hp) (Q Q' : VK) (i : ∀ v G, Q v G → Q' v G) (h : tOp (rIxT K) (tVar 2) (tC (.int 1)) σ H Q) : tOp (rIxT K) (tVar 2) (tC (.int 1)) σ H Q' := by
  obtain ⟨x, e, a, xs, k, v, h1, h2, h3, h4, q⟩ := h
  exact ⟨x, e, a, xs, k, v, h1, h2, h3, h4, i _ _ q⟩
theorem mono_var {j : Nat} (σ : L2.St) (H : Hp) (Q Q' : VK) (i : ∀ v G, Q v G → Q' v G) (h : tVar j σ H Q) : tVar j σ H Q' := by
  obtain ⟨x, e, q⟩ := h
  exact ⟨x, e, i _ _ q⟩
/-- what the law asks of a text -/
def fitsL : PyData → Bool
  | .str t => abcB t && decide (t.length ≤ 400)
  | _ => false
theorem fits_split (x : PySem.Str) (d : PyData) : fitsD x d = (fitsL d && !(decide (x ∈ guessL) && (match d with | .str t => decide (40 < t.length) | _ => false))) := by
  cases d with
  | str t =>
    show (decide (t.length ≤ mostOf x) && abcB t) = ((abcB t && decide (t.length ≤ 400)) && !(decide (x ∈ guessL) && decide (40 < t.length)))
    unfold mostOf
    by_cases g : x ∈ guessL
    · rw [if_pos g, decide_eq_true g]
      cases abcB t
      · simp
      · by_cases h : t.length ≤ 40
        · simp [h, show t.length ≤ 400 by omega, show ¬ 40 < t.length by omega]
        · simp [h, show 40 < t.length by omega]
    · rw [if_neg g, decide_eq_false g]
      cases abcB t <;> simp
  | _ => rfl
section
variable {P : Program} {w : World} {K : PySem.W.Frag} {mg : PySem.Str → Option Value} {base : Heap}
def spRight (K : PySem.W.Frag) : Sp := fun vs H Q _ => ∃ (v1 v2 : V) (d1 d2 : PyData), vs = [v1, v2] ∧ Dp K H v1 d1 ∧ Dp K H v2 d2 ∧ okVal d1 ∧ okVal d2 ∧ ∀ H', Same H H' → Q (.bl true) H'
theorem ok_right {f : Addr} {fd : FuncData} (F : Fun K "_law_right" "_law_right" sRight f fd) (T : TM mg) (TR : mg "repr" = none) (GA : Got P w K mg base "_law_asked" 6 ["name", "value"] (spAsked K)) (GN : Got P w K mg base "_law_names" 1 [] spNames)
    (GDu : Got P w K mg base "_law_due" 5 ["name", "text"] spDue) (GSa : Got P w K mg base "_law_same" 3 ["told", "due"] (spSame K 1)) : FnOk P w K mg base CX0 7 f fd ["name", "value"] (spRight K) := by
  refine F.ok scRight (fun vs H Q E h => ?_) (fun cdv A outer s H vs Q E hr h => ?_)
  · obtain ⟨_, _, _, _, rfl, _⟩ := h
    rfl
  · obtain ⟨v1, v2, d1, d2, rfl, g1, g2, o1, o2, k⟩ := h
    have nd := scRight.nd
    have h1 := hr.mono (show 1 ≤ 6 by decide)
    have h3 := hr.mono (show 3 ≤ 6 by decide)
    have h5 := hr.mono (show 5 ≤ 6 by decide)
    have h6 := hr
    have hu65 : (A.deeper (envOfC "_law_right" (defScope sRight) s.heap.objs.size f cdv)).units + 65 < cLine := by have := hr.un; omega
    obtain ⟨fN, fdN, okN, kpN, bN, mN⟩ := GN
    refine ⟨_, (pss_cons (ps_set (i := 2) nd rfl (Or.inl rfl) (pe_got GA h6 (by rfl) (pa_cons (pv 0) (pa_cons (pv 1) pa_nil))))
      (pss_cons (ps_if (pt_cmpR (op_notInD hu65) (pv 0) (pe_call0 okN h1 (by rfl) mN kpN bN .nil pass0) rfl)
        (pss_one (ps_ret (pe_and (pe_cmpR op_eq (pe_ix ix_tup (pv 2) pe_int fun _ _ => rfl) pe_str (nomark _)) (pe_and (pe_cmpR op_isB (pe_ix ix_tup (pv 2) pe_int fun _ _ => rfl) pe_bl (nomark _)) (pe_one (pe_reprEq hr (by rfl) TR (fun _ => (pe_ix (r := rIxT K) ix_tup (pv 2) pe_int fun _ _ => rfl)) (fun _ => (pv 0)) (mono1 := mono_told) (mono2 := mono_var)))))))
        pss_nil)
      (C8.pss_cut (ps_set (i := 3) nd rfl (Or.inl rfl) (pe_and (pe_callB call_isi (by rfl) T.isi (by decide +kernel) (pa_cons (pv 1) (pa_cons (pe_bltn (v := .ty "str") (by rfl) T.str PyProof.Rows.Boot.str rfl) pa_nil))) (pe_and (pe_callB (cr_all rfl) (by rfl) T.all (by decide +kernel) (pa_cons (pe_lc (own := [("sign", 4)]) (g := gName 4) (tt := tYes) (by rfl) nd (pi_str (pv 1)) (blkOk_by (own := [("sign", 4)]) (N := nRight) (sc := defScope sRight) (by decide +kernel)) (fun _ _ _ _ _ => pg_name (i := 4) nd rfl (Or.inl rfl)) (fun _ _ _ _ _ => pts_nil) (fun _ _ _ _ _ => (pe_cmpR op_in_sign (pv 4) pe_str rfl))) pa_nil)) (pe_one (pe_cmpR op_le (pe_callB call_len_str (by rfl) T.len PySem.boot_len (pa_cons (pv 1) pa_nil)) pe_int (nomark _))))))
      (pss_cons (ps_if (PW.pt (pw_or (pt_not (pt_val (pv 3))) (pw_or1 (PW.pt (pw_and (pt_cmpR op_in_seq (pv 0) (pe_lst (pa_cons pe_str (pa_cons pe_str pa_nil))) rfl) (pw_and1 (pt_cmpR op_gt (pe_callB call_len_str (by rfl) T.len PySem.boot_len (pa_cons (pv 1) pa_nil)) pe_int (nomark _))))))))
        (pss_one (ps_ret (pe_and (pe_cmpR op_eq (pe_ix ix_tup (pv 2) pe_int fun _ _ => rfl) pe_str (nomark _)) (pe_and (pe_cmpR op_isB (pe_ix ix_tup (pv 2) pe_int fun _ _ => rfl) pe_bl (nomark _)) (pe_one (pe_reprEq hr (by rfl) TR (fun _ => (pe_ix (r := rIxT K) ix_tup (pv 2) pe_int fun _ _ => rfl)) (fun _ => (pv 1)) (mono1 := mono_told) (mono2 := mono_var)))))))
        pss_nil)
      (pss_one (ps_ret (pe_got GSa h3 (by rfl) (pa_cons (pv 2) (pa_cons (pe_tup (pa_cons pe_str (pa_cons (pe_got GDu h5 (by rfl) (pa_cons (pv 0) (pa_cons (pv 1) pa_nil))) pa_nil))) pa_nil))))))))), ?_⟩
    have nmD : SeqAt.shaped (.list (namesL.map PyData.str)) = true := shaped_strsL names_asc
    refine ⟨_, rfl, _, rfl, v1, v2, d1, d2, rfl, g1, g2, o2, fun en u H1 s1 hu => ?_, fun x ex mx fx u H1 s1 hu => ?_, fun x t ex mx et fx u H1 s1 hu => ?_⟩
    · dsimp only [gName]
      refine ⟨_, rfl, rfl, fun p H2 np s2 hp => ⟨d1, namesL.map PyData.str, dp_mono (s1.trans s2) _ _ g1, .lst (SqL.of hp) (dpa_strs _), shaped_ok o1, nmD, ?_⟩⟩
      rw [names_any, en]
      refine ⟨_, rfl, iteT ?_⟩
      have hu2 := s2 _ _ hu
      refine ⟨_, rfl, u, _, 0, _, rfl, rfl, SqT.of hu2, rfl, rfl, ?_⟩
      refine ⟨true, congrArg V.bl (decide_eq_true rfl), iteT ?_⟩
      refine ⟨_, rfl, u, _, 2, _, rfl, rfl, SqT.of hu2, rfl, true, true, rfl, rfl, ?_⟩
      refine ⟨true, rfl, iteT ?_⟩
      exact ⟨_, rfl, u, _, 1, _, rfl, rfl, SqT.of hu2, rfl, d1, fit_ok o1, dp_mono (s1.trans s2) _ _ g1, _, rfl, rfl, dp_mono (s1.trans s2) _ _ g1, k _ (s1.trans s2)⟩
    all_goals
      subst ex
      cases g1
      have en : isNameD (.str x) = true := decide_eq_true mx
      dsimp only [gName]
      refine ⟨_, rfl, rfl, fun p H2 np s2 hp => ⟨.str x, namesL.map PyData.str, .str x, .lst (SqL.of hp) (dpa_strs _), shaped_ok o1, nmD, ?_⟩⟩
      rw [names_any, en]
      refine ⟨_, rfl, iteF ?_⟩
      have hu2 := s2 _ _ hu
      have s12 := s1.trans s2
      have g2' := dp_mono s12 _ _ g2
      refine ⟨fun σ' H' => σ' = [some (.str x), some v2, some (.ref u), some (.bl (fitsL d2)), none] ∧ Same H2 H', ?_, ?_⟩
    · refine ⟨_, rfl, _, _, _, _, isStrT d2, rfl, .ty _, dp_tyx g2', kit_str d2, _, rfl, ite2 (fun c => ?_) (fun c => ?_)⟩
      · obtain ⟨t2, rfl, rfl⟩ := dp_str g2' c
        have lt : t2.length ≤ 450 := o2.1
        refine ⟨_, rfl, t2, rfl, fun D hD => lc_it walk_str (fun i H' => Same H2 H' ∧ H' D = some (.lst (((t2.cps.toList.take i).map fun c => decide (c = 97 ∨ c = 98 ∨ c = 99)).map V.bl))) ⟨same_new hD, upd_same⟩ (fun _ _ _ _ => trivial) ?_ ?_⟩
        · rintro i v H3 H4 hi ⟨s3, hD2⟩ ⟨rfl, cc, hc, rfl⟩
          have hc2 : t2.cps.toList[i]? = some cc := by rw [Array.getElem?_toList]; exact hc
          refine ⟨rfl, _, rfl, cc, _, rfl, rfl, _, hD2, ?_, same_mut s3 hD, ?_⟩
          · rw [List.length_map, List.length_map, List.length_take]
            exact Nat.lt_of_le_of_lt (Nat.le_trans (Nat.min_le_right _ _) (Nat.le_trans (Nat.le_of_eq (len_of t2)) lt)) (by decide)
          · rw [upd_same, take_succ_of hc2, List.map_append, List.map_append, abc_sign]
            rfl
        rintro H3 ⟨s3, hD3⟩
        rw [List.take_of_length_le (by rw [Array.length_toList]; exact Nat.le_refl _)] at hD3
        refine ⟨D, _, rfl, SqL.of hD3, ?_⟩
        rw [show ((t2.cps.toList.map fun c => decide (c = 97 ∨ c = 98 ∨ c = 99)).all id) = abcB t2 by rw [List.all_map] <;> rfl]
        refine ⟨_, rfl, ite2 (fun c3 => ?_) (fun c3 => ?_)⟩
        · refine ⟨_, rfl, t2, rfl, Nat.le_trans lt (by decide), _, _, rfl, rfl, ?_, s3⟩
          rw [show fitsL (.str t2) = decide (t2.length ≤ 400) from (by show (abcB t2 && _) = _; rw [c3, Bool.true_and])]
          dsimp only
          rw [show decide ((t2.length : Int) ≤ 400) = decide (t2.length ≤ 400) from decide_eq_decide.mpr (by omega)]
          rfl
        · refine ⟨?_, s3⟩
          have c4 : abcB t2 = false := by
            cases h : abcB t2 with
            | true => exact absurd h c3
            | false => rfl
          rw [show fitsL (.str t2) = false from (by show (abcB t2 && _) = _; rw [c4, Bool.false_and])]
          rfl
      · refine ⟨?_, Same.refl _⟩
        have e1 : isStrT d2 = false := by
          cases h : isStrT d2 with
          | true => exact absurd h c
          | false => rfl
        have e2 : fitsL d2 = false := by cases d2 <;> first | rfl | cases e1
        rw [e2]
        rfl
    · rintro σ' H3 ⟨rfl, s3⟩
      have hu3 := s3 _ _ hu2
      have s13 := s12.trans s3
      cases ef : fitsL d2 with
      | false =>
        refine ⟨_, rfl, _, rfl, iteT ?_⟩
        have hu4 := hu3
        have s4 := s13
        refine ⟨_, rfl, u, _, 0, _, rfl, rfl, SqT.of hu4, rfl, rfl, ?_⟩
        refine ⟨true, congrArg V.bl (decide_eq_true rfl), iteT ?_⟩
        refine ⟨_, rfl, u, _, 2, _, rfl, rfl, SqT.of hu4, rfl, true, true, rfl, rfl, ?_⟩
        refine ⟨true, rfl, iteT ?_⟩
        exact ⟨_, rfl, u, _, 1, _, rfl, rfl, SqT.of hu4, rfl, d2, fit_ok o2, dp_mono s4 _ _ g2, _, rfl, rfl, dp_mono s4 _ _ g2, k _ s4⟩
      | true =>
        have q := fits_split x d2
        rw [fx, ef, Bool.true_and] at q
        obtain ⟨t2, rfl⟩ : ∃ t, d2 = .str t := by cases d2 <;> first | exact ⟨_, rfl⟩ | cases ef
        cases g2
        have lt2 : t2.length ≤ 450 := o2.1
        refine ⟨_, rfl, _, rfl, iteF ?_⟩
        refine ⟨_, rfl, (show 2 ≤ sizeLine by decide), fun p2 hp2 => ⟨p2, _, rfl, .inl (SqL.of upd_same), rfl, rfl, _, rfl, ?_⟩⟩
        have e2 : inV (V.str x) [V.str (PySem.Str.ofString "twomirrors"), V.str (PySem.Str.ofString "evenmirrors")] = decide (x ∈ guessL) := inV_strs x guessL
        have sp := same_new (o := HO.lst [V.str (PySem.Str.ofString "twomirrors"), V.str (PySem.Str.ofString "evenmirrors")]) hp2
        have hu4 := sp _ _ hu3
        have s4 := s13.trans sp
        show ite (inV (V.str x) [V.str (PySem.Str.ofString "twomirrors"), V.str (PySem.Str.ofString "evenmirrors")] = true) _ _
        rw [e2]
        have q : false = !(decide (x ∈ guessL) && decide (40 < t2.length)) := q
        have g1 : decide (x ∈ guessL) = true := by
          cases h : decide (x ∈ guessL) with
          | true => rfl
          | false => rw [h] at q; cases q
        have g3 : decide (40 < t2.length) = true := by
          cases h : decide (40 < t2.length) with
          | true => rfl
          | false => rw [h, Bool.and_false] at q; cases q
        rw [g1]
        refine iteT ?_
        refine ⟨_, rfl, t2, rfl, Nat.le_trans lt2 (by decide), _, _, rfl, rfl, _, rfl, ite2 (fun _ => ?_) (fun c => ?_)⟩
        · refine ⟨_, rfl, u, _, 0, _, rfl, rfl, SqT.of hu4, rfl, rfl, ?_⟩
          refine ⟨true, congrArg V.bl (decide_eq_true rfl), iteT ?_⟩
          refine ⟨_, rfl, u, _, 2, _, rfl, rfl, SqT.of hu4, rfl, true, true, rfl, rfl, ?_⟩
          refine ⟨true, rfl, iteT ?_⟩
          exact ⟨_, rfl, u, _, 1, _, rfl, rfl, SqT.of hu4, rfl, _, fit_ok o2, .str _, _, rfl, rfl, .str _, k _ s4⟩
        · exact absurd (decide_eq_true (by have := of_decide_eq_true g3; omega)) c
    · refine ⟨_, rfl, _, _, _, _, isStrT d2, rfl, .ty _, dp_tyx g2', kit_str d2, _, rfl, ite2 (fun c => ?_) (fun c => ?_)⟩
      · obtain ⟨t2, rfl, rfl⟩ := dp_str g2' c
        have lt : t2.length ≤ 450 := o2.1
        refine ⟨_, rfl, t2, rfl, fun D hD => lc_it walk_str (fun i H' => Same H2 H' ∧ H' D = some (.lst (((t2.cps.toList.take i).map fun c => decide (c = 97 ∨ c = 98 ∨ c = 99)).map V.bl))) ⟨same_new hD, upd_same⟩ (fun _ _ _ _ => trivial) ?_ ?_⟩
        · rintro i v H3 H4 hi ⟨s3, hD2⟩ ⟨rfl, cc, hc, rfl⟩
          have hc2 : t2.cps.toList[i]? = some cc := by rw [Array.getElem?_toList]; exact hc
          refine ⟨rfl, _, rfl, cc, _, rfl, rfl, _, hD2, ?_, same_mut s3 hD, ?_⟩
          · rw [List.length_map, List.length_map, List.length_take]
            exact Nat.lt_of_le_of_lt (Nat.le_trans (Nat.min_le_right _ _) (Nat.le_trans (Nat.le_of_eq (len_of t2)) lt)) (by decide)
          · rw [upd_same, take_succ_of hc2, List.map_append, List.map_append, abc_sign]
            rfl
        rintro H3 ⟨s3, hD3⟩
        rw [List.take_of_length_le (by rw [Array.length_toList]; exact Nat.le_refl _)] at hD3
        refine ⟨D, _, rfl, SqL.of hD3, ?_⟩
        rw [show ((t2.cps.toList.map fun c => decide (c = 97 ∨ c = 98 ∨ c = 99)).all id) = abcB t2 by rw [List.all_map] <;> rfl]
        refine ⟨_, rfl, ite2 (fun c3 => ?_) (fun c3 => ?_)⟩
        · refine ⟨_, rfl, t2, rfl, Nat.le_trans lt (by decide), _, _, rfl, rfl, ?_, s3⟩
          rw [show fitsL (.str t2) = decide (t2.length ≤ 400) from (by show (abcB t2 && _) = _; rw [c3, Bool.true_and])]
          dsimp only
          rw [show decide ((t2.length : Int) ≤ 400) = decide (t2.length ≤ 400) from decide_eq_decide.mpr (by omega)]
          rfl
        · refine ⟨?_, s3⟩
          have c4 : abcB t2 = false := by
            cases h : abcB t2 with
            | true => exact absurd h c3
            | false => rfl
          rw [show fitsL (.str t2) = false from (by show (abcB t2 && _) = _; rw [c4, Bool.false_and])]
          rfl
      · refine ⟨?_, Same.refl _⟩
        have e1 : isStrT d2 = false := by
          cases h : isStrT d2 with
          | true => exact absurd h c
          | false => rfl
        have e2 : fitsL d2 = false := by cases d2 <;> first | rfl | cases e1
        rw [e2]
        rfl
    · rintro σ' H3 ⟨rfl, s3⟩
      have hu3 := s3 _ _ hu2
      have s13 := s12.trans s3
      have efl : fitsL d2 = true := by
        cases h : fitsL d2 with
        | true => rfl
        | false => rw [fits_split, h] at fx; cases fx
      have q := fits_split x d2
      rw [fx, efl, Bool.true_and] at q
      subst et
      rw [efl]
      cases g2
      have lt : t.length ≤ 450 := o2.1
      refine ⟨_, rfl, _, rfl, iteF ?_⟩
      refine ⟨_, rfl, (show 2 ≤ sizeLine by decide), fun p2 hp2 => ⟨p2, _, rfl, .inl (SqL.of upd_same), rfl, rfl, _, rfl, ?_⟩⟩
      have e2 : inV (V.str x) [V.str (PySem.Str.ofString "twomirrors"), V.str (PySem.Str.ofString "evenmirrors")] = decide (x ∈ guessL) := inV_strs x guessL
      have sp := same_new (o := HO.lst [V.str (PySem.Str.ofString "twomirrors"), V.str (PySem.Str.ofString "evenmirrors")]) hp2
      have hu4 := sp _ _ hu3
      have s4 := s13.trans sp
      show ite (inV (V.str x) [V.str (PySem.Str.ofString "twomirrors"), V.str (PySem.Str.ofString "evenmirrors")] = true) _ _
      rw [e2]
      have q : true = !(decide (x ∈ guessL) && decide (40 < t.length)) := q
      have lt4 : t.length ≤ 400 := by
        have z : (abcB t && decide (t.length ≤ 400)) = true := efl
        exact of_decide_eq_true (Bool.and_eq_true_iff.mp z).2
      refine ite2 (fun c => ?_) (fun c => ?_)
      · rw [c, Bool.true_and] at q
        have q3 : ¬ 40 < t.length := fun z => by
          rw [decide_eq_true z] at q
          cases q
        refine ⟨_, rfl, t, rfl, Nat.le_trans lt (by decide), _, _, rfl, rfl, _, rfl, ite2 (fun c2 => ?_) (fun _ => ?_)⟩
        · exact absurd (of_decide_eq_true c2) (by omega)
        · refine ⟨_, rfl, _, rfl, _, rfl, x, t, rfl, lt4, fun H5 s5 => ⟨show 2 ≤ sizeLine by decide, fun w2 hw => ?_⟩⟩
          have s6 := s5.trans (same_new (o := HO.tup [V.str (PySem.Str.ofString "told"), V.str (dueT x t.cps.toList)]) hw)
          exact ⟨_, _, .tuple [.str (PySem.Str.ofString "told"), .str (dueT x t.cps.toList)], rfl, .tup (SqT.of (s6 _ _ hu4)) (dpa_strs [PySem.Str.ofString "told", dueT x t.cps.toList]), .tup (SqT.of upd_same) (dpa_strs [PySem.Str.ofString "told", dueT x t.cps.toList]), ⟨(show 2 ≤ 100000 by decide), fun d m => by
            rcases List.mem_cons.mp m with rfl | m
            · trivial
            · rw [List.mem_singleton.mp m]
              trivial⟩, k _ (s4.trans s6)⟩
      · refine ⟨_, rfl, _, rfl, _, rfl, x, t, rfl, lt4, fun H5 s5 => ⟨show 2 ≤ sizeLine by decide, fun w2 hw => ?_⟩⟩
        have s6 := s5.trans (same_new (o := HO.tup [V.str (PySem.Str.ofString "told"), V.str (dueT x t.cps.toList)]) hw)
        exact ⟨_, _, .tuple [.str (PySem.Str.ofString "told"), .str (dueT x t.cps.toList)], rfl, .tup (SqT.of (s6 _ _ hu4)) (dpa_strs [PySem.Str.ofString "told", dueT x t.cps.toList]), .tup (SqT.of upd_same) (dpa_strs [PySem.Str.ofString "told", dueT x t.cps.toList]), ⟨(show 2 ≤ 100000 by decide), fun d m => by
          rcases List.mem_cons.mp m with rfl | m
          · trivial
          · rw [List.mem_singleton.mp m]
            trivial⟩, k _ (s4.trans s6)⟩
end
end Mk

set_option Elab.async false
set_option linter.unusedVariables false
set_option maxRecDepth 100000
set_option maxHeartbeats 8000000
namespace Mk
open PySem L2 Pk PySem.Spec PyProof.Rows
/-! law -/
abbrev nLaw : List PySem.Str := ["script", "names", "head", "one", "two", "long_one", "bad", "odd", "name", "value"]
theorem scLaw : FnScope nLaw ["script"] (defScope sLaw) := ⟨rfl, rfl, rfl, by decide +kernel, rfl, by decide +kernel, by decide +kernel⟩
def hdS : List Int := [15, 15, 9, 403, 3, 15, 17, 12, 26, 16, 13]
section
variable {P : Program} {w : World} {K : PySem.W.Frag} {mg : PySem.Str → Option Value} {base : Heap}
structure LawDefs (P : Program) (w : World) (K : PySem.W.Frag) (mg : PySem.Str → Option Value) (base : Heap) : Prop where
  names : Got P w K mg base "_law_names" 1 [] spNames
  cell : Got P w K mg base "_law_cell" 1 ["script", "k"] (spCellA K)
  digits : Got P w K mg base "_law_digits" 1 ["cell", "sizes"] (spDigits K)
  tale : Got P w K mg base "_law_tale" 4 ["script", "at", "name", "room"] (spTale K)
  long : Got P w K mg base "_law_long" 1 nLong spLong
  bad : Got P w K mg base "_law_bad" 1 ["text", "kind", "spot"] (spBadT K)
  odd : Got P w K mg base "_law_odd" 1 ["name", "kind", "spot", "letter"] (spOddT K)
  right : Got P w K mg base "_law_right" 7 ["name", "value"] (spRight K)
def spLaw (K : PySem.W.Frag) : Sp := fun vs H Q _ => ∃ (a : Addr) (ns : List Int), vs = [.ref a] ∧ SqL K H a (ns.map V.int) ∧ ∀ H', Q (.bl true) H'
theorem ok_law {f : Addr} {fd : FuncData} (F : Fun K "law" "law" sLaw f fd) (T : TM mg) (G : LawDefs P w K mg base) : FnOk P w K mg base CX0 8 f fd ["script"] (spLaw K) := by
  refine F.ok scLaw (fun vs H Q E h => ?_) (fun cdv A outer s H vs Q E hr h => ?_)
  · obtain ⟨a, ns, rfl, _⟩ := h
    rfl
  · obtain ⟨sc, ns, rfl, hS, k⟩ := h
    have nd := scLaw.nd
    have h1 := hr.mono (show 1 ≤ 7 by decide)
    have h4 := hr.mono (show 4 ≤ 7 by decide)
    have h7 := hr
    obtain ⟨fN, fdN, okN, kpN, bN, mN⟩ := G.names
    refine ⟨_, (pss_cons (ps_set (i := 1) nd rfl (Or.inl rfl) (pe_call0 okN h1 (by rfl) mN kpN bN .nil pass0))
      (pss_cons (ps_set (i := 2) nd rfl (Or.inl rfl) (pe_got G.digits h1 (by rfl) (pa_cons (pe_got G.cell h1 (by rfl) (pa_cons (pv 0) (pa_cons pe_int pa_nil))) (pa_cons (pe_lst (pa_cons pe_int (pa_cons pe_int (pa_cons pe_int (pa_cons pe_int (pa_cons pe_int (pa_cons pe_int (pa_cons pe_int (pa_cons pe_int (pa_cons pe_int (pa_cons pe_int (pa_cons pe_int pa_nil)))))))))))) pa_nil))))
      (pss_cons (ps_set (i := 3) nd rfl (Or.inl rfl) (pe_got G.tale h4 (by rfl) (pa_cons (pv 0) (pa_cons pe_int (pa_cons (pe_ix ix_list (pv 1) (pe_ix ix_list (pv 2) pe_int fun _ _ => rfl) fun _ _ => rfl) (pa_cons pe_int pa_nil))))))
      (pss_cons (ps_set (i := 4) nd rfl (Or.inl rfl) (pe_got G.tale h4 (by rfl) (pa_cons (pv 0) (pa_cons pe_int (pa_cons (pe_ix ix_list (pv 1) (pe_ix ix_list (pv 2) pe_int fun _ _ => rfl) fun _ _ => rfl) (pa_cons pe_int pa_nil))))))
      (pss_cons (ps_set (i := 5) nd rfl (Or.inl rfl) (pe_got G.long h1 (by rfl) (pa_cons (pe_got G.tale h4 (by rfl) (pa_cons (pv 0) (pa_cons pe_int (pa_cons (pe_ix ix_list (pv 1) (pe_ix ix_list (pv 2) pe_int fun _ _ => rfl) fun _ _ => rfl) (pa_cons pe_int pa_nil))))) (pa_cons (pe_op op_add_str (pv 3) (pe_ix ix_str pe_str (pe_ix ix_list (pv 2) pe_int fun _ _ => rfl) fun _ _ => rfl)) (pa_cons (pe_ix ix_list (pv 2) pe_int fun _ _ => rfl) (pa_cons (pe_ix ix_list (pv 2) pe_int fun _ _ => rfl) pa_nil))))))
      (pss_cons (ps_set (i := 6) nd rfl (Or.inl rfl) (pe_got G.bad h1 (by rfl) (pa_cons (pv 4) (pa_cons (pe_ix ix_list (pv 2) pe_int fun _ _ => rfl) (pa_cons (pe_ix ix_list (pv 2) pe_int fun _ _ => rfl) pa_nil)))))
      (pss_cons (ps_set (i := 7) nd rfl (Or.inl rfl) (pe_got G.odd h1 (by rfl) (pa_cons (pe_ix ix_list (pv 1) (pe_ix ix_list (pv 2) pe_int fun _ _ => rfl) fun _ _ => rfl) (pa_cons (pe_ix ix_list (pv 2) pe_int fun _ _ => rfl) (pa_cons (pe_ix ix_list (pv 2) pe_int fun _ _ => rfl) (pa_cons (pe_ix ix_list (pv 2) pe_int fun _ _ => rfl) pa_nil))))))
      (C8.pss_cut (ps_for PassesOwn.never rfl (pi_list (pv 1)) (pg_name (i := 8) nd rfl (Or.inl rfl))
        (pss_one (ps_for PassesOwn.never rfl (pi_list (pe_lst (pa_cons (pv 3) (pa_cons (pv 4) (pa_cons (pv 3) (pa_cons (pv 5) (pa_cons (pv 6) (pa_cons (pv 4) pa_nil)))))))) (pg_name (i := 9) nd rfl (Or.inl rfl))
          (pss_one (ps_if (pt_not (pt_val (pe_got G.right h7 (by rfl) (pa_cons (pv 8) (pa_cons (pv 9) pa_nil)))))
            (pss_one (ps_ret pe_bl))
            pss_nil)))))
      (pss_one (ps_ret (pe_and (pe_got G.right h7 (by rfl) (pa_cons (pv 7) (pa_cons (pv 4) pa_nil))) (pe_and (pe_got G.right h7 (by rfl) (pa_cons (pv 7) (pa_cons (pv 6) pa_nil))) (pe_and (pe_got G.right h7 (by rfl) (pa_cons (pv 7) (pa_cons (pv 3) pa_nil))) (pe_one (pe_got G.right h7 (by rfl) (pa_cons (pe_ix ix_list (pv 1) (pe_ix ix_list (pv 2) pe_int fun _ _ => rfl) fun _ _ => rfl) (pa_cons (pv 3) pa_nil))))))))))))))))), ?_⟩
    refine ⟨rfl, fun p H1 np s1 hp => ?_⟩
    dsimp only [gName]
    have zz : ∀ z : Nat, z ≤ 100000 → z ≤ sizeLine := fun _ h => Nat.le_trans h (by decide)
    refine ⟨_, rfl, sc, ns, 2, rfl, s1.seq hS, fun c => ⟨show 11 ≤ sizeLine by decide, fun p2 np2 => ⟨c, p2, hdS, rfl, SqL.of upd_same, by decide, ?_, fun row aD H2 dg np3 s2 hrow => ?_⟩⟩⟩
    · intro s ms
      have ms : s ∈ [15, 15, 9, 403, 3, 15, 17, 12, 26, 16, 13] := ms
      simp only [List.mem_cons, List.not_mem_nil, or_false] at ms
      rcases ms with rfl | rfl | rfl | rfl | rfl | rfl | rfl | rfl | rfl | rfl | rfl <;> decide
    have s2 := (same_new (o := HO.lst (hdS.map V.int)) np2).trans s2
    have hp2 := s2 _ _ hp
    have s02 := s1.trans s2
    dsimp only [gName]
    obtain ⟨d0, e0, b0⟩ := dig_at dg 0 15 rfl
    obtain ⟨d1, e1, b1⟩ := dig_at dg 1 15 rfl
    obtain ⟨d2, e2, b2⟩ := dig_at dg 2 9 rfl
    obtain ⟨d3, e3, b3⟩ := dig_at dg 3 403 rfl
    obtain ⟨d4, e4, b4⟩ := dig_at dg 4 3 rfl
    obtain ⟨d5, e5, b5⟩ := dig_at dg 5 15 rfl
    obtain ⟨d6, e6, b6⟩ := dig_at dg 6 17 rfl
    obtain ⟨d7, e7, b7⟩ := dig_at dg 7 12 rfl
    obtain ⟨d8, e8, b8⟩ := dig_at dg 8 26 rfl
    obtain ⟨d9, e9, b9⟩ := dig_at dg 9 16 rfl
    obtain ⟨d10, e10, b10⟩ := dig_at dg 10 13 rfl
    have nm : ∀ d : Nat, d < 15 → ∃ x, x ∈ namesL ∧ atI (namesL.map V.str) (d : Int) = some (V.str x) := fun d hd => by
      have hl : d < namesL.length := by rw [show namesL.length = 15 by decide +kernel]; exact hd
      exact ⟨namesL[d], List.getElem_mem hl, atI_nat (by rw [List.getElem?_map, List.getElem?_eq_getElem hl]; rfl)⟩
    obtain ⟨x0, m0, a0⟩ := nm d0 b0
    obtain ⟨x1, m1, a1⟩ := nm d1 b1
    obtain ⟨x5, m5, a5⟩ := nm d5 b5
    obtain ⟨x10, m10, a10⟩ := nm d10 (by omega)
    refine ⟨_, rfl, _, rfl, _, rfl, aD, _, _, _, rfl, rfl, SqL.of hrow, rw_at (j := 0) e0, p, _, _, _, rfl, rfl, SqL.of hp2, a0, sc, ns, 0, x0, 1, rfl, s02.seq hS, by decide, by decide, fun one H3 s3 l1 ao => ?_⟩
    have hp3 := s3 _ _ hp2
    have hr3 := s3 _ _ hrow
    have s03 := s02.trans s3
    dsimp only [gName]
    refine ⟨_, rfl, _, rfl, _, rfl, aD, _, _, _, rfl, rfl, SqL.of hr3, rw_at (j := 1) e1, p, _, _, _, rfl, rfl, SqL.of hp3, a1, sc, ns, 1, x1, 1, rfl, s03.seq hS, by decide, by decide, fun two H4 s4 l2 at_ => ?_⟩
    have hp4 := s4 _ _ hp3
    have hr4 := s4 _ _ hr3
    have s04 := s03.trans s4
    dsimp only [gName]
    refine ⟨_, rfl, _, rfl, _, rfl, aD, _, _, _, rfl, rfl, SqL.of hr4, rw_at (j := 10) e10, p, _, _, _, rfl, rfl, SqL.of hp4, a10, sc, ns, 3, x10, 10, rfl, s04.seq hS, by decide, by decide, fun lt H5 s5 l3 al => ?_⟩
    have hp5 := s5 _ _ hp4
    have hr5 := s5 _ _ hr4
    have s05 := s04.trans s5
    obtain ⟨lc, hlc⟩ : ∃ c, (PySem.Str.ofString "abc").cps.toList[d4]? = some c := ⟨_, List.getElem?_eq_getElem (by rw [show (PySem.Str.ofString "abc").cps.toList.length = 3 by decide +kernel]; omega)⟩
    have alc : asc ⟨#[lc]⟩ := fun c m => by
      have m : c ∈ [lc] := m
      rw [List.mem_singleton.mp m]
      have a3 : ∀ c ∈ (PySem.Str.ofString "abc").cps.toList, c < 1114112 := by decide +kernel
      exact a3 lc (List.mem_of_getElem? hlc)
    have lone : (⟨#[lc]⟩ : PySem.Str).length = 1 := rfl
    refine ⟨_, rfl, _, rfl, aD, _, _, _, rfl, rfl, SqL.of hr5, rw_at (j := 4) e4, _, _, _, rfl, rfl, by decide +kernel, atI_nat hlc, _, _, rfl, rfl, zz _ (by rw [lone]; omega), ?_⟩
    refine ⟨_, rfl, aD, _, _, _, rfl, rfl, SqL.of hr5, rw_at (j := 2) e2, _, rfl, aD, _, _, _, rfl, rfl, SqL.of hr5, rw_at (j := 3) e3, lt, _, d2, d3, rfl, l3, by rw [app_len, lone]; omega, b2, by omega, al, asc_app ao alc, fun lo H6 s6 l4 alo => ?_⟩
    have hp6 := s6 _ _ hp5
    have hr6 := s6 _ _ hr5
    have s06 := s05.trans s6
    dsimp only [gName]
    refine ⟨_, rfl, _, rfl, aD, _, _, _, rfl, rfl, SqL.of hr6, rw_at (j := 9) e9, _, rfl, aD, _, _, _, rfl, rfl, SqL.of hr6, rw_at (j := 3) e3, two, d9, d3, rfl, by omega, b9, by omega, at_, fun bad db H7 s7 gb ob => ?_⟩
    have hp7 := s7 _ _ hp6
    have hr7 := s7 _ _ hr6
    have s07 := s06.trans s7
    dsimp only [gName]
    refine ⟨_, rfl, _, rfl, aD, _, _, _, rfl, rfl, SqL.of hr7, rw_at (j := 5) e5, p, _, _, _, rfl, rfl, SqL.of hp7, a5, _, rfl, aD, _, _, _, rfl, rfl, SqL.of hr7, rw_at (j := 6) e6, _, rfl, aD, _, _, _, rfl, rfl, SqL.of hr7, rw_at (j := 7) e7, _, rfl, aD, _, _, _, rfl, rfl, SqL.of hr7, rw_at (j := 8) e8, x5, d6, d7, d8, rfl, m5, b6, by omega, b8, fun odd do_ H8 s8 go oo => ?_⟩
    have hp8 := s8 _ _ hp7
    have hr8 := s8 _ _ hr7
    have gb8 := dp_mono s8 _ _ gb
    dsimp only [gName]
    clear s02 s03 s04 s05 s06 s07
    have ok1 : okVal (.str one) := ⟨by omega, ao⟩
    have ok2 : okVal (.str two) := ⟨by omega, at_⟩
    have ok3 : okVal (.str lo) := ⟨by omega, alo⟩
    refine ⟨fun σ' H' => Same H8 H' ∧ ∃ e f : Option V, σ' = [some (.ref sc), some (.ref p), some (.ref aD), some (.str one), some (.str two), some (.str lo), some bad, some odd, e, f], ?_, ?_⟩
    · refine ⟨_, rfl, p, rfl, ⟨_, SqL.of hp8⟩, for_list (K := K) (a := p) (xs := namesL.map V.str) (fun i σ H' => Same H8 H' ∧ ∃ e f : Option V, σ = [some (.ref sc), some (.ref p), some (.ref aD), some (.str one), some (.str two), some (.str lo), some bad, some odd, e, f]) ⟨Same.refl _, _, _, rfl⟩ (fun i σ H' _ h => SqL.of (h.1 _ _ hp8)) ?_ (fun σ H' h => h)⟩
      rintro i v σ H9 hi ⟨s9, e, f, rfl⟩
      obtain ⟨x, mx, rfl⟩ : ∃ x, x ∈ namesL ∧ v = V.str x := by
        have m := List.mem_of_getElem? hi
        obtain ⟨x, mx, rfl⟩ := List.mem_map.mp m
        exact ⟨x, mx, rfl⟩
      have okx : okVal (.str x) := ⟨Nat.le_trans (names_len x mx).2.1 (by decide), names_asc x mx⟩
      dsimp only [gName]
      refine ⟨_, rfl, _, rfl, _, rfl, _, rfl, _, rfl, _, rfl, show 6 ≤ sizeLine by decide, fun q hq => ⟨q, rfl, ⟨_, SqL.of upd_same⟩, for_list (K := K) (a := q) (xs := [V.str one, V.str two, V.str one, V.str lo, bad, V.str two]) (fun j σ H' => Same (upd H9 q (.lst [V.str one, V.str two, V.str one, V.str lo, bad, V.str two])) H' ∧ ∃ f : Option V, σ = [some (.ref sc), some (.ref p), some (.ref aD), some (.str one), some (.str two), some (.str lo), some bad, some odd, some (.str x), f]) ⟨Same.refl _, _, rfl⟩ (fun j σ H' _ h => SqL.of (h.1 _ _ upd_same)) ?_ ?_⟩⟩
      · rintro j v σ Hj hj ⟨sj, f, rfl⟩
        have sq := (s9.trans (same_new (o := HO.lst [V.str one, V.str two, V.str one, V.str lo, bad, V.str two]) hq)).trans sj
        obtain ⟨d, dp, ok⟩ : ∃ d, Dp K Hj v d ∧ okVal d := by
          have m := List.mem_of_getElem? hj
          simp only [List.mem_cons, List.not_mem_nil, or_false] at m
          rcases m with rfl | rfl | rfl | rfl | rfl | rfl
          · exact ⟨_, .str _, ok1⟩
          · exact ⟨_, .str _, ok2⟩
          · exact ⟨_, .str _, ok1⟩
          · exact ⟨_, .str _, ok3⟩
          · exact ⟨_, dp_mono sq _ _ gb8, ob⟩
          · exact ⟨_, .str _, ok2⟩
        dsimp only [gName]
        refine ⟨_, rfl, _, rfl, .str x, v, .str x, d, rfl, .str x, dp, okx, ok, fun H' s' => ⟨_, rfl, iteF ?_⟩⟩
        exact ⟨sj.trans s', _, rfl⟩
      · rintro σ Hj ⟨sj, f, rfl⟩
        exact ⟨(s9.trans (same_new hq)).trans sj, _, _, rfl⟩
    · rintro σ H9 ⟨s9, e, f, rfl⟩
      have hp9 := s9 _ _ hp8
      have hr9 := s9 _ _ hr8
      have gb9 := dp_mono s9 _ _ gb8
      have go9 := dp_mono s9 _ _ go
      refine ⟨_, rfl, _, rfl, odd, .str two, do_, .str two, rfl, go9, .str two, oo, ok2, fun Ha sa => ⟨true, rfl, iteT ?_⟩⟩
      refine ⟨_, rfl, _, rfl, odd, bad, do_, db, rfl, dp_mono sa _ _ go9, dp_mono sa _ _ gb9, oo, ob, fun Hb sb => ⟨true, rfl, iteT ?_⟩⟩
      refine ⟨_, rfl, _, rfl, odd, .str one, do_, .str one, rfl, dp_mono (sa.trans sb) _ _ go9, .str one, oo, ok1, fun Hc sc' => ⟨true, rfl, iteT ?_⟩⟩
      have s10 := (sa.trans sb).trans sc'
      have ok5 : okVal (.str x5) := ⟨Nat.le_trans (names_len x5 m5).2.1 (by decide), names_asc x5 m5⟩
      exact ⟨_, rfl, _, rfl, aD, _, _, _, rfl, rfl, SqL.of (s10 _ _ hr9), rw_at (j := 5) e5, p, _, _, _, rfl, rfl, SqL.of (s10 _ _ hp9), a5, _, rfl, .str x5, .str one, .str x5, .str one, rfl, .str x5, .str one, ok5, ok1, fun Hd _ => k Hd⟩
end
end Mk

set_option Elab.async false
set_option maxRecDepth 100000
set_option maxHeartbeats 8000000
namespace Mk
open PySem L2 Pk
theorem kit_no {K : PySem.W.Frag} {C x : Addr} {r : List Value} (c : PySem.W.subIn K (.ref C) (.ref C) = some true) (i : PySem.W.isClsIn K x = true) (t : PySem.W.typeIn K (.ref x) = some (.type "type")) (s : PySem.W.subIn K (.ref C) (.ref x) = some false)
    (h : PySem.W.kitAny K (.ref C) r = some false) : PySem.W.kitAny K (.ref C) (.ref x :: r) = some false := by
  have n : (Value.ref C == Value.ref x) = false := Bool.eq_false_iff.mpr fun q => by
    have e : C = x := Value.ref.inj (beq_iff_eq.mp q)
    rw [← e, c] at s
    cases s
  have two : ((PySem.W.clsIn K x).isSome && PySem.W.typeIn K (.ref x) == some (.type "type")) = true := by
    have i' : (PySem.W.clsIn K x).isSome = true := i
    rw [i', t]
    rfl
  have one : PySem.W.kitOne K (.ref C) (.ref x) = some false := by
    unfold PySem.W.kitOne PySem.W.kitCls
    rw [n, if_neg Bool.false_ne_true]
    show (if ((PySem.W.clsIn K x).isSome && PySem.W.typeIn K (.ref x) == some (.type "type")) = true then PySem.W.subIn K (.ref C) (.ref x) else none) = some false
    rw [if_pos two, s]
  unfold PySem.W.kitAny
  rw [one]
  exact h
theorem kit_self {K : PySem.W.Frag} {C : Addr} : PySem.W.kitOne K (.ref C) (.ref C) = some true := by
  have n : (Value.ref C == Value.ref C) = true := beq_iff_eq.mpr rfl
  unfold PySem.W.kitOne
  rw [if_pos n]
theorem kit_VE {K : PySem.W.Frag} {C : Addr} (s : PySem.W.subIn K (.ref C) (.type "ValueError") = some true) : PySem.W.kitOne K (.ref C) (.type "ValueError") = some true := by
  have n : (Value.ref C == Value.type "ValueError") = false := rfl
  unfold PySem.W.kitOne PySem.W.kitCls
  rw [n, if_neg Bool.false_ne_true]
  have k : PySem.W.kitMeta "ValueError" = true := by decide +kernel
  show (if PySem.W.kitMeta "ValueError" = true then PySem.W.subIn K (.ref C) (.type "ValueError") else none) = some true
  rw [if_pos k, s]
theorem exm_yes {K : PySem.W.Frag} {C R : Addr} (b : PySem.W.subIn K (.ref R) (.type "BaseException") = some true) (i : PySem.W.isClsIn K R = true) (t : PySem.W.typeIn K (.ref R) = some (.type "type")) (s : PySem.W.subIn K (.ref C) (.ref R) = some true) :
    PySem.W.exmOne K (.ref C) (.ref R) = some true := by
  have two : ((PySem.W.clsIn K R).isSome && PySem.W.typeIn K (.ref R) == some (.type "type")) = true := by
    have i' : (PySem.W.clsIn K R).isSome = true := i
    rw [i', t]
    rfl
  have e1 : (PySem.W.subIn K (.ref R) (.type "BaseException") == some true) = true := by
    rw [b]
    rfl
  unfold PySem.W.exmOne PySem.W.kitCls
  rw [if_pos e1]
  show (if ((PySem.W.clsIn K R).isSome && PySem.W.typeIn K (.ref R) == some (.type "type")) = true then PySem.W.subIn K (.ref C) (.ref R) else none) = some true
  rw [if_pos two, s]
theorem kit_yes {K : PySem.W.Frag} {C R : Addr} (i : PySem.W.isClsIn K R = true) (t : PySem.W.typeIn K (.ref R) = some (.type "type")) (s : PySem.W.subIn K (.ref C) (.ref R) = some true) : PySem.W.kitOne K (.ref C) (.ref R) = some true := by
  have two : ((PySem.W.clsIn K R).isSome && PySem.W.typeIn K (.ref R) == some (.type "type")) = true := by
    have i' : (PySem.W.clsIn K R).isSome = true := i
    rw [i', t]
    rfl
  unfold PySem.W.kitOne PySem.W.kitCls
  split
  · rfl
  · show (if ((PySem.W.clsIn K R).isSome && PySem.W.typeIn K (.ref R) == some (.type "type")) = true then PySem.W.subIn K (.ref C) (.ref R) else none) = some true
    rw [if_pos two, s]
theorem kit_not {K : PySem.W.Frag} {C x : Addr} (c : PySem.W.subIn K (.ref C) (.ref C) = some true) (i : PySem.W.isClsIn K x = true) (t : PySem.W.typeIn K (.ref x) = some (.type "type")) (s : PySem.W.subIn K (.ref C) (.ref x) = some false) :
    PySem.W.kitOne K (.ref C) (.ref x) = some false := by
  have n : (Value.ref C == Value.ref x) = false := Bool.eq_false_iff.mpr fun q => by
    have e : C = x := Value.ref.inj (beq_iff_eq.mp q)
    rw [← e, c] at s
    cases s
  have two : ((PySem.W.clsIn K x).isSome && PySem.W.typeIn K (.ref x) == some (.type "type")) = true := by
    have i' : (PySem.W.clsIn K x).isSome = true := i
    rw [i', t]
    rfl
  unfold PySem.W.kitOne PySem.W.kitCls
  rw [n, if_neg Bool.false_ne_true]
  show (if ((PySem.W.clsIn K x).isSome && PySem.W.typeIn K (.ref x) == some (.type "type")) = true then PySem.W.subIn K (.ref C) (.ref x) else none) = some false
  rw [if_pos two, s]
theorem exm_not {K : PySem.W.Frag} {C R : Addr} (b : PySem.W.subIn K (.ref R) (.type "BaseException") = some true) (i : PySem.W.isClsIn K R = true) (t : PySem.W.typeIn K (.ref R) = some (.type "type")) (s : PySem.W.subIn K (.ref C) (.ref R) = some false) :
    PySem.W.exmOne K (.ref C) (.ref R) = some false := by
  have two : ((PySem.W.clsIn K R).isSome && PySem.W.typeIn K (.ref R) == some (.type "type")) = true := by
    have i' : (PySem.W.clsIn K R).isSome = true := i
    rw [i', t]
    rfl
  have e1 : (PySem.W.subIn K (.ref R) (.type "BaseException") == some true) = true := by
    rw [b]
    rfl
  unfold PySem.W.exmOne PySem.W.kitCls
  rw [if_pos e1]
  show (if ((PySem.W.clsIn K R).isSome && PySem.W.typeIn K (.ref R) == some (.type "type")) = true then PySem.W.subIn K (.ref C) (.ref R) else none) = some false
  rw [if_pos two, s]
/-! the judges by their addresses -/
def SJ (L : List (Addr × Sp)) (f : Addr) : Option Sp := match L with
  | [] => none
  | p :: r => if f = p.1 then some p.2 else SJ r f
theorem SJ_at {L : List (Addr × Sp)} {f : Addr} {sp : Sp} (h : SJ L f = some sp) : (f, sp) ∈ L := by
  induction L with
  | nil => cases h
  | cons p r ih =>
    unfold SJ at h
    split at h
    · rename_i e
      cases h
      rw [e]
      exact List.mem_cons_self
    · exact List.mem_cons_of_mem _ (ih h)
theorem SJ_of {L : List (Addr × Sp)} (nd : (L.map (·.1)).Nodup) {f : Addr} {sp : Sp} (m : (f, sp) ∈ L) : SJ L f = some sp := by
  induction L with
  | nil => exact absurd m List.not_mem_nil
  | cons p r ih =>
    rw [List.map_cons, List.nodup_cons] at nd
    unfold SJ
    rcases List.mem_cons.mp m with e | m
    · rw [← e, if_pos rfl]
    · have ne : f ≠ p.1 := fun z => nd.1 (by
        rw [← z]
        exact List.mem_map.mpr ⟨_, m, rfl⟩)
      rw [if_neg ne]
      exact ih nd.2 m
theorem judge_at (l : List Nat) : judge "mirrored" l = pal l ∧ judge "found" l = fouB l ∧ judge "bordered" l = bordB l ∧ judge "mirrorstart" l = mstB l ∧ judge "balanced" l = balB l ∧ judge "evenly" l = eveB l ∧ judge "copied" l = copB l ∧ judge "thirds" l = thrB l ∧ judge "power" l = powB l ∧
    judge "twomirrors" l = twoB l ∧ judge "evenmirrors" l = evB l ∧ judge "backwards" l = true ∧ judge "doubling" l = true ∧ judge "chant" l = true ∧ judge "rounds" l = true := by
  unfold judge
  refine ⟨?_, ?_, ?_, ?_, ?_, ?_, ?_, ?_, ?_, ?_, ?_, ?_, ?_, ?_, ?_⟩ <;> repeat' first | rfl | rw [if_pos (by decide +kernel)] | rw [if_neg (by decide +kernel)]
end Mk

set_option Elab.async false
set_option maxRecDepth 100000
set_option maxHeartbeats 8000000
namespace Mk
open PySem L2 Pk
theorem all_mk {l : PySem.W.OpenLaw} {w : World} {K : PySem.W.Frag} {h : Heap} {mg : Str → Option Value} {fa : Addr} (X : K.In h) (G : h.Ns mainGlobals mg) (hfa : mg "law" = some (.ref fa))
    {f1 : Addr} {fd1 : FuncData}
    {f2 : Addr} {fd2 : FuncData}
    {f3 : Addr} {fd3 : FuncData}
    {f4 : Addr} {fd4 : FuncData}
    {f5 : Addr} {fd5 : FuncData}
    {f6 : Addr} {fd6 : FuncData}
    {f7 : Addr} {fd7 : FuncData}
    {f8 : Addr} {fd8 : FuncData}
    {f9 : Addr} {fd9 : FuncData}
    {f10 : Addr} {fd10 : FuncData}
    {f11 : Addr} {fd11 : FuncData}
    {f12 : Addr} {fd12 : FuncData}
    {f13 : Addr} {fd13 : FuncData}
    {f14 : Addr} {fd14 : FuncData}
    {f15 : Addr} {fd15 : FuncData}
    {f16 : Addr} {fd16 : FuncData}
    {f17 : Addr} {fd17 : FuncData}
    {f18 : Addr} {fd18 : FuncData}
    {f19 : Addr} {fd19 : FuncData}
    {f20 : Addr} {fd20 : FuncData}
    {f21 : Addr} {fd21 : FuncData}
    {f22 : Addr} {fd22 : FuncData}
    {f23 : Addr} {fd23 : FuncData}
    {f24 : Addr} {fd24 : FuncData}
    {f25 : Addr} {fd25 : FuncData}
    {f26 : Addr} {fd26 : FuncData}
    {f27 : Addr} {fd27 : FuncData}
    {f28 : Addr} {fd28 : FuncData}
    {f29 : Addr} {fd29 : FuncData}
    {f30 : Addr} {fd30 : FuncData}
    {f31 : Addr} {fd31 : FuncData}
    {f32 : Addr} {fd32 : FuncData}
    {f33 : Addr} {fd33 : FuncData}
    {f34 : Addr} {fd34 : FuncData}
    {f35 : Addr} {fd35 : FuncData}
    {fL : Addr} {fdL : FuncData}
    {aT : Addr}
    {CT C fN fT R aNA aGU a1 a2 a3 a4 a5 a6 a7 a8 a9 w1 w2 w3 w4 w5 w6 w7 w8 : Addr}
    {fdfN : FuncData}
    {fdfT : FuncData}
    (na1 : PySem.W.nsIn K mainGlobals "check_name" = some (some (.ref f1)))
    (F1 : Fun K "check_name" "check_name" sCheckName f1 fd1)
    (na2 : PySem.W.nsIn K mainGlobals "is_mirrored" = some (some (.ref f2)))
    (F2 : Fun K "is_mirrored" "is_mirrored" sMirrored f2 fd2)
    (na3 : PySem.W.nsIn K mainGlobals "is_found" = some (some (.ref f3)))
    (F3 : Fun K "is_found" "is_found" sFound f3 fd3)
    (na4 : PySem.W.nsIn K mainGlobals "is_bordered" = some (some (.ref f4)))
    (F4 : Fun K "is_bordered" "is_bordered" sBordered f4 fd4)
    (na5 : PySem.W.nsIn K mainGlobals "has_mirrored_start" = some (some (.ref f5)))
    (F5 : Fun K "has_mirrored_start" "has_mirrored_start" sMirStart f5 fd5)
    (na6 : PySem.W.nsIn K mainGlobals "is_balanced" = some (some (.ref f6)))
    (F6 : Fun K "is_balanced" "is_balanced" sBalanced f6 fd6)
    (na7 : PySem.W.nsIn K mainGlobals "is_even" = some (some (.ref f7)))
    (F7 : Fun K "is_even" "is_even" sEven f7 fd7)
    (na8 : PySem.W.nsIn K mainGlobals "is_copied" = some (some (.ref f8)))
    (F8 : Fun K "is_copied" "is_copied" sCopied f8 fd8)
    (na9 : PySem.W.nsIn K mainGlobals "is_in_thirds" = some (some (.ref f9)))
    (F9 : Fun K "is_in_thirds" "is_in_thirds" sThirds f9 fd9)
    (na10 : PySem.W.nsIn K mainGlobals "is_power" = some (some (.ref f10)))
    (F10 : Fun K "is_power" "is_power" sPower f10 fd10)
    (na11 : PySem.W.nsIn K mainGlobals "is_two_mirrors" = some (some (.ref f11)))
    (F11 : Fun K "is_two_mirrors" "is_two_mirrors" sTwoMir f11 fd11)
    (na12 : PySem.W.nsIn K mainGlobals "is_even_mirrors" = some (some (.ref f12)))
    (F12 : Fun K "is_even_mirrors" "is_even_mirrors" sEvenMir f12 fd12)
    (na13 : PySem.W.nsIn K mainGlobals "check_told" = some (some (.ref f13)))
    (F13 : Fun K "check_told" "check_told" sCheckTold f13 fd13)
    (na14 : PySem.W.nsIn K mainGlobals "plainly" = some (some (.ref f14)))
    (F14 : Fun K "plainly" "plainly" sPlainly f14 fd14)
    (na15 : PySem.W.nsIn K mainGlobals "_law_whole" = some (some (.ref f15)))
    (F15 : Fun K "_law_whole" "_law_whole" sWhole f15 fd15)
    (na16 : PySem.W.nsIn K mainGlobals "_law_same" = some (some (.ref f16)))
    (F16 : Fun K "_law_same" "_law_same" sSame f16 fd16)
    (na17 : PySem.W.nsIn K mainGlobals "_law_cell" = some (some (.ref f17)))
    (F17 : Fun K "_law_cell" "_law_cell" sCell f17 fd17)
    (na18 : PySem.W.nsIn K mainGlobals "_law_digits" = some (some (.ref f18)))
    (F18 : Fun K "_law_digits" "_law_digits" sDigits f18 fd18)
    (na19 : PySem.W.nsIn K mainGlobals "_law_names" = some (some (.ref f19)))
    (F19 : Fun K "_law_names" "_law_names" sNames f19 fd19)
    (na20 : PySem.W.nsIn K mainGlobals "_law_back" = some (some (.ref f20)))
    (F20 : Fun K "_law_back" "_law_back" sBack f20 fd20)
    (na21 : PySem.W.nsIn K mainGlobals "_law_mirror" = some (some (.ref f21)))
    (F21 : Fun K "_law_mirror" "_law_mirror" sMirror f21 fd21)
    (na22 : PySem.W.nsIn K mainGlobals "_law_fold" = some (some (.ref f22)))
    (F22 : Fun K "_law_fold" "_law_fold" sFold f22 fd22)
    (na23 : PySem.W.nsIn K mainGlobals "_law_brackets" = some (some (.ref f23)))
    (F23 : Fun K "_law_brackets" "_law_brackets" sBrackets f23 fd23)
    (na24 : PySem.W.nsIn K mainGlobals "_law_fitted" = some (some (.ref f24)))
    (F24 : Fun K "_law_fitted" "_law_fitted" sFitted f24 fd24)
    (na25 : PySem.W.nsIn K mainGlobals "_law_tale" = some (some (.ref f25)))
    (F25 : Fun K "_law_tale" "_law_tale" sTale f25 fd25)
    (na26 : PySem.W.nsIn K mainGlobals "_law_stands" = some (some (.ref f26)))
    (F26 : Fun K "_law_stands" "_law_stands" sStands f26 fd26)
    (na27 : PySem.W.nsIn K mainGlobals "_law_evens" = some (some (.ref f27)))
    (F27 : Fun K "_law_evens" "_law_evens" sEvens f27 fd27)
    (na28 : PySem.W.nsIn K mainGlobals "_law_good" = some (some (.ref f28)))
    (F28 : Fun K "_law_good" "_law_good" sGood f28 fd28)
    (na29 : PySem.W.nsIn K mainGlobals "_law_due" = some (some (.ref f29)))
    (F29 : Fun K "_law_due" "_law_due" sDue f29 fd29)
    (na30 : PySem.W.nsIn K mainGlobals "_law_plain" = some (some (.ref f30)))
    (F30 : Fun K "_law_plain" "_law_plain" sPlainE f30 fd30)
    (na31 : PySem.W.nsIn K mainGlobals "_law_asked" = some (some (.ref f31)))
    (F31 : Fun K "_law_asked" "_law_asked" sAsked f31 fd31)
    (na32 : PySem.W.nsIn K mainGlobals "_law_right" = some (some (.ref f32)))
    (F32 : Fun K "_law_right" "_law_right" sRight f32 fd32)
    (na33 : PySem.W.nsIn K mainGlobals "_law_long" = some (some (.ref f33)))
    (F33 : Fun K "_law_long" "_law_long" sLong f33 fd33)
    (na34 : PySem.W.nsIn K mainGlobals "_law_bad" = some (some (.ref f34)))
    (F34 : Fun K "_law_bad" "_law_bad" sBad f34 fd34)
    (na35 : PySem.W.nsIn K mainGlobals "_law_odd" = some (some (.ref f35)))
    (F35 : Fun K "_law_odd" "_law_odd" sOdd f35 fd35)
    (naL : PySem.W.nsIn K mainGlobals "law" = some (some (.ref fL)))
    (FL : Fun K "law" "law" sLaw fL fdL)
    (mG : ∃ t, mg "MOST_GUESSED" = some (.int 40 t))
    (mL : ∃ t, mg "MOST_LETTERS" = some (.int 400 t))
    (z_isinstance : PySem.W.nsIn K mainGlobals "isinstance" = some none)
    (z_int : PySem.W.nsIn K mainGlobals "int" = some none)
    (z_bool : PySem.W.nsIn K mainGlobals "bool" = some none)
    (z_str : PySem.W.nsIn K mainGlobals "str" = some none)
    (z_tuple : PySem.W.nsIn K mainGlobals "tuple" = some none)
    (z_list : PySem.W.nsIn K mainGlobals "list" = some none)
    (z_len : PySem.W.nsIn K mainGlobals "len" = some none)
    (z_range : PySem.W.nsIn K mainGlobals "range" = some none)
    (z_all : PySem.W.nsIn K mainGlobals "all" = some none)
    (z_any : PySem.W.nsIn K mainGlobals "any" = some none)
    (z_sorted : PySem.W.nsIn K mainGlobals "sorted" = some none)
    (z_set : PySem.W.nsIn K mainGlobals "set" = some none)
    (z_abs : PySem.W.nsIn K mainGlobals "abs" = some none)
    (z_ValueError : PySem.W.nsIn K mainGlobals "ValueError" = some none)
    (z_max : PySem.W.nsIn K mainGlobals "max" = some none)
    (z_min : PySem.W.nsIn K mainGlobals "min" = some none)
    (z_repr : PySem.W.nsIn K mainGlobals "repr" = some none)
    (aTab : PySem.W.nsIn K mainGlobals "JUDGES" = some (some (.ref aT)))
    (kdT : ∃ es n, KDict K w aT es n)
    (nN : PySem.W.nsIn K mainGlobals "NoSuchProgram" = some (some (.ref C)))
    (nX : PySem.W.nsIn K mainGlobals "BadText" = some (some (.ref CT)))
    (nR : PySem.W.nsIn K mainGlobals "RecallError" = some (some (.ref R)))
    (nNA : PySem.W.nsIn K mainGlobals "NAMES" = some (some (.ref aNA)))
    (nGU : PySem.W.nsIn K mainGlobals "GUESSING" = some (some (.ref aGU)))
    (ga1 : PySem.W.nsIn K mainGlobals "BadCode" = some (some (.ref a1)))
    (ga2 : PySem.W.nsIn K mainGlobals "BadDeed" = some (some (.ref a2)))
    (ga3 : PySem.W.nsIn K mainGlobals "BadLine" = some (some (.ref a3)))
    (ga4 : PySem.W.nsIn K mainGlobals "BadPaper" = some (some (.ref a4)))
    (ga5 : PySem.W.nsIn K mainGlobals "BadSplice" = some (some (.ref a5)))
    (ga6 : PySem.W.nsIn K mainGlobals "BadStanding" = some (some (.ref a6)))
    (ga7 : PySem.W.nsIn K mainGlobals "BadSurface" = some (some (.ref a7)))
    (ga8 : PySem.W.nsIn K mainGlobals "BadToken" = some (some (.ref a8)))
    (ga9 : PySem.W.nsIn K mainGlobals "BadTree" = some (some (.ref a9)))
    (gw1 : PySem.W.nsIn K mainGlobals "BadGrammar" = some (some (.ref w1)))
    (gw2 : PySem.W.nsIn K mainGlobals "BadMachine" = some (some (.ref w2)))
    (gw3 : PySem.W.nsIn K mainGlobals "DoubleName" = some (some (.ref w3)))
    (gw4 : PySem.W.nsIn K mainGlobals "Guesses" = some (some (.ref w4)))
    (gw5 : PySem.W.nsIn K mainGlobals "NoSuchProcedure" = some (some (.ref w5)))
    (gw6 : PySem.W.nsIn K mainGlobals "NothingToUndo" = some (some (.ref w6)))
    (gw7 : PySem.W.nsIn K mainGlobals "TooLong" = some (some (.ref w7)))
    (gw8 : PySem.W.nsIn K mainGlobals "UnlikeLetters" = some (some (.ref w8)))
    (FN : Fun K "__init__" "NoSuchProgram.__init__" sNoInit fN fdfN)
    (FT : Fun K "__init__" "BadText.__init__" sTxInit fT fdfT)
    (sN : PySem.W.findIn K (.ref C) "__setattr__" = some (some (.builtin "object.__setattr__")))
    (eN : PySem.W.subIn K (.ref C) (.type "BaseException") = some true)
    (tN : PySem.W.typeIn K (.ref C) = some (.type "type"))
    (kN : PySem.W.keepIn K (.ref C) = true)
    (iN : PySem.W.findIn K (.ref C) "__init__" = some (some (.ref fN)))
    (tfN : PySem.W.typeIn K (.ref fN) = some (.type "function"))
    (noN : PySem.W.findIn K (.ref C) "name" = some none)
    (ycN : PySem.W.isClsIn K C = true)
    (ygN : PySem.W.findIn K (.ref C) "__getattribute__" = some (some (.builtin "BaseException.__getattribute__")))
    (yhN : PySem.W.findIn K (.ref C) "__getattr__" = some none)
    (ydN : PySem.W.hasDictIn K C = true)
    (yaN : PySem.W.findIn K (.ref C) "__class__" = some (some (.builtin "object.__class__")))
    (ymN : PySem.W.mroIn K C (.type "object") = some true)
    (sNV : PySem.W.subIn K (.ref C) (.type "ValueError") = some true)
    (sNR : PySem.W.subIn K (.ref C) (.ref R) = some true)
    (sNN : PySem.W.subIn K (.ref C) (.ref C) = some true)
    (sNT : PySem.W.subIn K (.ref C) (.ref CT) = some false)
    (sbN_a1 : PySem.W.subIn K (.ref C) (.ref a1) = some false)
    (sbN_a2 : PySem.W.subIn K (.ref C) (.ref a2) = some false)
    (sbN_a3 : PySem.W.subIn K (.ref C) (.ref a3) = some false)
    (sbN_a4 : PySem.W.subIn K (.ref C) (.ref a4) = some false)
    (sbN_a5 : PySem.W.subIn K (.ref C) (.ref a5) = some false)
    (sbN_a6 : PySem.W.subIn K (.ref C) (.ref a6) = some false)
    (sbN_a7 : PySem.W.subIn K (.ref C) (.ref a7) = some false)
    (sbN_a8 : PySem.W.subIn K (.ref C) (.ref a8) = some false)
    (sbN_a9 : PySem.W.subIn K (.ref C) (.ref a9) = some false)
    (sbN_w1 : PySem.W.subIn K (.ref C) (.ref w1) = some false)
    (sbN_w2 : PySem.W.subIn K (.ref C) (.ref w2) = some false)
    (sbN_w3 : PySem.W.subIn K (.ref C) (.ref w3) = some false)
    (sbN_w4 : PySem.W.subIn K (.ref C) (.ref w4) = some false)
    (sbN_w5 : PySem.W.subIn K (.ref C) (.ref w5) = some false)
    (sbN_w6 : PySem.W.subIn K (.ref C) (.ref w6) = some false)
    (sbN_w7 : PySem.W.subIn K (.ref C) (.ref w7) = some false)
    (sbN_w8 : PySem.W.subIn K (.ref C) (.ref w8) = some false)
    (sT : PySem.W.findIn K (.ref CT) "__setattr__" = some (some (.builtin "object.__setattr__")))
    (eT : PySem.W.subIn K (.ref CT) (.type "BaseException") = some true)
    (tT : PySem.W.typeIn K (.ref CT) = some (.type "type"))
    (kT : PySem.W.keepIn K (.ref CT) = true)
    (iT : PySem.W.findIn K (.ref CT) "__init__" = some (some (.ref fT)))
    (tfT : PySem.W.typeIn K (.ref fT) = some (.type "function"))
    (noT : PySem.W.findIn K (.ref CT) "text" = some none)
    (ycT : PySem.W.isClsIn K CT = true)
    (ygT : PySem.W.findIn K (.ref CT) "__getattribute__" = some (some (.builtin "BaseException.__getattribute__")))
    (yhT : PySem.W.findIn K (.ref CT) "__getattr__" = some none)
    (ydT : PySem.W.hasDictIn K CT = true)
    (yaT : PySem.W.findIn K (.ref CT) "__class__" = some (some (.builtin "object.__class__")))
    (ymT : PySem.W.mroIn K CT (.type "object") = some true)
    (sTV : PySem.W.subIn K (.ref CT) (.type "ValueError") = some true)
    (sTR : PySem.W.subIn K (.ref CT) (.ref R) = some true)
    (sTN : PySem.W.subIn K (.ref CT) (.ref C) = some false)
    (sTT : PySem.W.subIn K (.ref CT) (.ref CT) = some true)
    (sbT_a1 : PySem.W.subIn K (.ref CT) (.ref a1) = some false)
    (sbT_a2 : PySem.W.subIn K (.ref CT) (.ref a2) = some false)
    (sbT_a3 : PySem.W.subIn K (.ref CT) (.ref a3) = some false)
    (sbT_a4 : PySem.W.subIn K (.ref CT) (.ref a4) = some false)
    (sbT_a5 : PySem.W.subIn K (.ref CT) (.ref a5) = some false)
    (sbT_a6 : PySem.W.subIn K (.ref CT) (.ref a6) = some false)
    (sbT_a7 : PySem.W.subIn K (.ref CT) (.ref a7) = some false)
    (sbT_a8 : PySem.W.subIn K (.ref CT) (.ref a8) = some false)
    (sbT_a9 : PySem.W.subIn K (.ref CT) (.ref a9) = some false)
    (sbT_w1 : PySem.W.subIn K (.ref CT) (.ref w1) = some false)
    (sbT_w2 : PySem.W.subIn K (.ref CT) (.ref w2) = some false)
    (sbT_w3 : PySem.W.subIn K (.ref CT) (.ref w3) = some false)
    (sbT_w4 : PySem.W.subIn K (.ref CT) (.ref w4) = some false)
    (sbT_w5 : PySem.W.subIn K (.ref CT) (.ref w5) = some false)
    (sbT_w6 : PySem.W.subIn K (.ref CT) (.ref w6) = some false)
    (sbT_w7 : PySem.W.subIn K (.ref CT) (.ref w7) = some false)
    (sbT_w8 : PySem.W.subIn K (.ref CT) (.ref w8) = some false)
    (yn : PySem.W.specialIn K (.builtin "object.__class__") "__get__" = some (some (.builtin "getset_descriptor.__get__")))
    (yt : PySem.W.takesIn K (.builtin "object.__class__") = some true)
    (iR : PySem.W.isClsIn K R = true)
    (tR : PySem.W.typeIn K (.ref R) = some (.type "type"))
    (ic_a1 : PySem.W.isClsIn K a1 = true)
    (ty_a1 : PySem.W.typeIn K (.ref a1) = some (.type "type"))
    (ic_a2 : PySem.W.isClsIn K a2 = true)
    (ty_a2 : PySem.W.typeIn K (.ref a2) = some (.type "type"))
    (ic_a3 : PySem.W.isClsIn K a3 = true)
    (ty_a3 : PySem.W.typeIn K (.ref a3) = some (.type "type"))
    (ic_a4 : PySem.W.isClsIn K a4 = true)
    (ty_a4 : PySem.W.typeIn K (.ref a4) = some (.type "type"))
    (ic_a5 : PySem.W.isClsIn K a5 = true)
    (ty_a5 : PySem.W.typeIn K (.ref a5) = some (.type "type"))
    (ic_a6 : PySem.W.isClsIn K a6 = true)
    (ty_a6 : PySem.W.typeIn K (.ref a6) = some (.type "type"))
    (ic_a7 : PySem.W.isClsIn K a7 = true)
    (ty_a7 : PySem.W.typeIn K (.ref a7) = some (.type "type"))
    (ic_a8 : PySem.W.isClsIn K a8 = true)
    (ty_a8 : PySem.W.typeIn K (.ref a8) = some (.type "type"))
    (ic_a9 : PySem.W.isClsIn K a9 = true)
    (ty_a9 : PySem.W.typeIn K (.ref a9) = some (.type "type"))
    (ic_w1 : PySem.W.isClsIn K w1 = true)
    (ty_w1 : PySem.W.typeIn K (.ref w1) = some (.type "type"))
    (ic_w2 : PySem.W.isClsIn K w2 = true)
    (ty_w2 : PySem.W.typeIn K (.ref w2) = some (.type "type"))
    (ic_w3 : PySem.W.isClsIn K w3 = true)
    (ty_w3 : PySem.W.typeIn K (.ref w3) = some (.type "type"))
    (ic_w4 : PySem.W.isClsIn K w4 = true)
    (ty_w4 : PySem.W.typeIn K (.ref w4) = some (.type "type"))
    (ic_w5 : PySem.W.isClsIn K w5 = true)
    (ty_w5 : PySem.W.typeIn K (.ref w5) = some (.type "type"))
    (ic_w6 : PySem.W.isClsIn K w6 = true)
    (ty_w6 : PySem.W.typeIn K (.ref w6) = some (.type "type"))
    (ic_w7 : PySem.W.isClsIn K w7 = true)
    (ty_w7 : PySem.W.typeIn K (.ref w7) = some (.type "type"))
    (ic_w8 : PySem.W.isClsIn K w8 = true)
    (ty_w8 : PySem.W.typeIn K (.ref w8) = some (.type "type"))
    (xN : ∃ nm q N bs bm sn sub ab col dd k0 k1 k2 k3 k5, K.lookup C = some (excClassObj nm q C N bs bm true sn sub ab col dd k0 k1 k2 k3 k5 "ValueError.__new__") ∧ PySem.HandSPX.refsVE bm = true)
    (xT : ∃ nm q N bs bm sn sub ab col dd k0 k1 k2 k3 k5, K.lookup CT = some (excClassObj nm q CT N bs bm true sn sub ab col dd k0 k1 k2 k3 k5 "ValueError.__new__") ∧ PySem.HandSPX.refsVE bm = true)
    (hNA : ∀ H : Hp, SqT K H aNA (namesL.map V.str))
    (hGU : ∀ H : Hp, SqT K H aGU (guessL.map V.str))
    (ndJ : [f2, f3, f4, f5, f6, f7, f8, f9, f10, f11, f12].Nodup)
    (v_mirrored : PySem.W.nsIn K aT "mirrored" = some (some (.ref f2)))
    (v_found : PySem.W.nsIn K aT "found" = some (some (.ref f3)))
    (v_bordered : PySem.W.nsIn K aT "bordered" = some (some (.ref f4)))
    (v_mirrorstart : PySem.W.nsIn K aT "mirrorstart" = some (some (.ref f5)))
    (v_balanced : PySem.W.nsIn K aT "balanced" = some (some (.ref f6)))
    (v_evenly : PySem.W.nsIn K aT "evenly" = some (some (.ref f7)))
    (v_copied : PySem.W.nsIn K aT "copied" = some (some (.ref f8)))
    (v_thirds : PySem.W.nsIn K aT "thirds" = some (some (.ref f9)))
    (v_power : PySem.W.nsIn K aT "power" = some (some (.ref f10)))
    (v_backwards : PySem.W.nsIn K aT "backwards" = some none)
    (v_doubling : PySem.W.nsIn K aT "doubling" = some none)
    (v_chant : PySem.W.nsIn K aT "chant" = some none)
    (v_rounds : PySem.W.nsIn K aT "rounds" = some none)
    (v_twomirrors : PySem.W.nsIn K aT "twomirrors" = some (some (.ref f11)))
    (v_evenmirrors : PySem.W.nsIn K aT "evenmirrors" = some (some (.ref f12))) :
    ∃ fd : FuncData, (∀ (s : Shared) (v : Value), BindsTo s fd ⟨[v], []⟩ [("script", v)]) ∧ ∀ base : Heap, K.In base → base.Ns mainGlobals mg → FnOk l.prog w K mg base CX0 8 fa fd ["script"] (spLaw K) := by
  have e := hfa.symm.trans (PySem.W.mg_of X G naL)
  cases e
  have T : TM mg := ⟨PySem.W.mg_none_of X G z_isinstance, PySem.W.mg_none_of X G z_int, PySem.W.mg_none_of X G z_bool, PySem.W.mg_none_of X G z_str, PySem.W.mg_none_of X G z_tuple, PySem.W.mg_none_of X G z_list, PySem.W.mg_none_of X G z_len, PySem.W.mg_none_of X G z_range, PySem.W.mg_none_of X G z_all, PySem.W.mg_none_of X G z_any, PySem.W.mg_none_of X G z_sorted, PySem.W.mg_none_of X G z_set, PySem.W.mg_none_of X G z_abs⟩
  have m : ∀ {x : Str} {v : Value}, PySem.W.nsIn K mainGlobals x = some (some v) → mg x = some v := fun q => PySem.W.mg_of X G q
  have b_1 := F1.binds (ps := ["name"]) fun _ _ _ _ _ _ us hl => match us, hl with | [_], _ => rfl
  have b_2 := F2.binds (ps := ["text"]) fun _ _ _ _ _ _ us hl => match us, hl with | [_], _ => rfl
  have b_3 := F3.binds (ps := ["text"]) fun _ _ _ _ _ _ us hl => match us, hl with | [_], _ => rfl
  have b_4 := F4.binds (ps := ["text"]) fun _ _ _ _ _ _ us hl => match us, hl with | [_], _ => rfl
  have b_5 := F5.binds (ps := ["text"]) fun _ _ _ _ _ _ us hl => match us, hl with | [_], _ => rfl
  have b_6 := F6.binds (ps := ["text"]) fun _ _ _ _ _ _ us hl => match us, hl with | [_], _ => rfl
  have b_7 := F7.binds (ps := ["text"]) fun _ _ _ _ _ _ us hl => match us, hl with | [_], _ => rfl
  have b_8 := F8.binds (ps := ["text"]) fun _ _ _ _ _ _ us hl => match us, hl with | [_], _ => rfl
  have b_9 := F9.binds (ps := ["text"]) fun _ _ _ _ _ _ us hl => match us, hl with | [_], _ => rfl
  have b_10 := F10.binds (ps := ["text"]) fun _ _ _ _ _ _ us hl => match us, hl with | [_], _ => rfl
  have b_11 := F11.binds (ps := ["text"]) fun _ _ _ _ _ _ us hl => match us, hl with | [_], _ => rfl
  have b_12 := F12.binds (ps := ["text"]) fun _ _ _ _ _ _ us hl => match us, hl with | [_], _ => rfl
  have b_13 := F13.binds (ps := ["name", "text"]) fun _ _ _ _ _ _ us hl => match us, hl with | [_, _], _ => rfl
  have b_14 := F14.binds (ps := ["name", "text"]) fun _ _ _ _ _ _ us hl => match us, hl with | [_, _], _ => rfl
  have b_15 := F15.binds (ps := ["value"]) fun _ _ _ _ _ _ us hl => match us, hl with | [_], _ => rfl
  have b_16 := F16.binds (ps := ["told", "due"]) fun _ _ _ _ _ _ us hl => match us, hl with | [_, _], _ => rfl
  have b_17 := F17.binds (ps := ["script", "k"]) fun _ _ _ _ _ _ us hl => match us, hl with | [_, _], _ => rfl
  have b_18 := F18.binds (ps := ["cell", "sizes"]) fun _ _ _ _ _ _ us hl => match us, hl with | [_, _], _ => rfl
  have b_19 := F19.binds (ps := []) fun _ _ _ _ _ _ us hl => match us, hl with | [], _ => rfl
  have b_20 := F20.binds (ps := ["text"]) fun _ _ _ _ _ _ us hl => match us, hl with | [_], _ => rfl
  have b_21 := F21.binds (ps := ["text"]) fun _ _ _ _ _ _ us hl => match us, hl with | [_], _ => rfl
  have b_22 := F22.binds (ps := ["part"]) fun _ _ _ _ _ _ us hl => match us, hl with | [_], _ => rfl
  have b_23 := F23.binds (ps := ["part"]) fun _ _ _ _ _ _ us hl => match us, hl with | [_], _ => rfl
  have b_24 := F24.binds (ps := ["name", "raw", "cut", "room"]) fun _ _ _ _ _ _ us hl => match us, hl with | [_, _, _, _], _ => rfl
  have b_25 := F25.binds (ps := ["script", "at", "name", "room"]) fun _ _ _ _ _ _ us hl => match us, hl with | [_, _, _, _], _ => rfl
  have b_26 := F26.binds (ps := ["word", "text"]) fun _ _ _ _ _ _ us hl => match us, hl with | [_, _], _ => rfl
  have b_27 := F27.binds (ps := ["text"]) fun _ _ _ _ _ _ us hl => match us, hl with | [_], _ => rfl
  have b_28 := F28.binds (ps := ["name", "text"]) fun _ _ _ _ _ _ us hl => match us, hl with | [_, _], _ => rfl
  have b_29 := F29.binds (ps := ["name", "text"]) fun _ _ _ _ _ _ us hl => match us, hl with | [_, _], _ => rfl
  have b_30 := F30.binds (ps := ["e"]) fun _ _ _ _ _ _ us hl => match us, hl with | [_], _ => rfl
  have b_31 := F31.binds (ps := ["name", "value"]) fun _ _ _ _ _ _ us hl => match us, hl with | [_, _], _ => rfl
  have b_32 := F32.binds (ps := ["name", "value"]) fun _ _ _ _ _ _ us hl => match us, hl with | [_, _], _ => rfl
  have b_33 := F33.binds (ps := ["text", "base", "kind", "size"]) fun _ _ _ _ _ _ us hl => match us, hl with | [_, _, _, _], _ => rfl
  have b_34 := F34.binds (ps := ["text", "kind", "spot"]) fun _ _ _ _ _ _ us hl => match us, hl with | [_, _, _], _ => rfl
  have b_35 := F35.binds (ps := ["name", "kind", "spot", "letter"]) fun _ _ _ _ _ _ us hl => match us, hl with | [_, _, _, _], _ => rfl
  have hbL : ∀ (s : Shared) (v : Value), BindsTo s fdL ⟨[v], []⟩ [("script", v)] := by
    obtain ⟨oc, od, kV, doc, pm, an, cdv, ct, osl, hfd, _, _⟩ := FL.ex
    subst hfd
    exact fun s v => .of_eq rfl
  refine ⟨fdL, hbL, fun base _ _ => ?_⟩
  have g_mir : Got l.prog w K mg base "is_mirrored" 1 ["text"] spMir := ⟨_, _, ok_mir F2, F2.kp, b_2, m na2⟩
  have hJ_pal : Held l.prog w K mg base 2 f2 (spJ pal) := ⟨⟨_, _, (okJ_mir F2).mono (show 1 ≤ 2 by decide), F2.kp, b_2⟩⟩
  have hJ_fouB : Held l.prog w K mg base 2 f3 (spJ fouB) := ⟨⟨_, _, (okJ_fou F3).mono (show 1 ≤ 2 by decide), F3.kp, b_3⟩⟩
  have hJ_bordB : Held l.prog w K mg base 2 f4 (spJ bordB) := ⟨⟨_, _, (ok_bordered F4 T).mono (show 1 ≤ 2 by decide), F4.kp, b_4⟩⟩
  have hJ_mstB : Held l.prog w K mg base 2 f5 (spJ mstB) := ⟨⟨_, _, (ok_mst F5 T g_mir), F5.kp, b_5⟩⟩
  have hJ_balB : Held l.prog w K mg base 2 f6 (spJ balB) := ⟨⟨_, _, (ok_bal F6 T).mono (show 1 ≤ 2 by decide), F6.kp, b_6⟩⟩
  have hJ_eveB : Held l.prog w K mg base 2 f7 (spJ eveB) := ⟨⟨_, _, (okJ_even F7).mono (show 1 ≤ 2 by decide), F7.kp, b_7⟩⟩
  have hJ_copB : Held l.prog w K mg base 2 f8 (spJ copB) := ⟨⟨_, _, (okJ_cop F8).mono (show 1 ≤ 2 by decide), F8.kp, b_8⟩⟩
  have hJ_thrB : Held l.prog w K mg base 2 f9 (spJ thrB) := ⟨⟨_, _, (okJ_thr F9 T).mono (show 1 ≤ 2 by decide), F9.kp, b_9⟩⟩
  have hJ_powB : Held l.prog w K mg base 2 f10 (spJ powB) := ⟨⟨_, _, (ok_pow F10 T).mono (show 1 ≤ 2 by decide), F10.kp, b_10⟩⟩
  have hJ_twoB : Held l.prog w K mg base 2 f11 (spJ twoB) := ⟨⟨_, _, (ok_two F11 T g_mir), F11.kp, b_11⟩⟩
  have hJ_evB : Held l.prog w K mg base 2 f12 (spJ evB) := ⟨⟨_, _, (ok_ev F12 T g_mir), F12.kp, b_12⟩⟩
  have ndL : (([(f2, spJ pal), (f3, spJ fouB), (f4, spJ bordB), (f5, spJ mstB), (f6, spJ balB), (f7, spJ eveB), (f8, spJ copB), (f9, spJ thrB), (f10, spJ powB), (f11, spJ twoB), (f12, spJ evB)] : List (Addr × Sp)).map (·.1)).Nodup := ndJ
  obtain ⟨esT, nT, kdT⟩ := kdT
  have JD : JDef l.prog w K mg base aT esT nT (SJ [(f2, spJ pal), (f3, spJ fouB), (f4, spJ bordB), (f5, spJ mstB), (f6, spJ balB), (f7, spJ eveB), (f8, spJ copB), (f9, spJ thrB), (f10, spJ powB), (f11, spJ twoB), (f12, spJ evB)]) := ⟨m aTab, kdT, fun f sp h => by
      have q := SJ_at h
      simp only [List.mem_cons, List.not_mem_nil, or_false, Prod.mk.injEq] at q
      rcases q with ⟨rfl, rfl⟩ | ⟨rfl, rfl⟩ | ⟨rfl, rfl⟩ | ⟨rfl, rfl⟩ | ⟨rfl, rfl⟩ | ⟨rfl, rfl⟩ | ⟨rfl, rfl⟩ | ⟨rfl, rfl⟩ | ⟨rfl, rfl⟩ | ⟨rfl, rfl⟩ | ⟨rfl, rfl⟩ <;> assumption, fun x hx => by
      have hx : x ∈ (["mirrored", "found", "bordered", "mirrorstart", "balanced", "evenly", "copied", "thirds", "power", "backwards", "doubling", "chant", "rounds", "twomirrors", "evenmirrors"] : List PySem.Str) := hx
      simp only [List.mem_cons, List.not_mem_nil, or_false] at hx
      rcases hx with rfl | rfl | rfl | rfl | rfl | rfl | rfl | rfl | rfl | rfl | rfl | rfl | rfl | rfl | rfl
      · exact .inr ⟨_, pal, v_mirrored, SJ_of ndL List.mem_cons_self, fun l => (judge_at l).1⟩
      · exact .inr ⟨_, fouB, v_found, SJ_of ndL (List.mem_cons_of_mem _ List.mem_cons_self), fun l => (judge_at l).2.1⟩
      · exact .inr ⟨_, bordB, v_bordered, SJ_of ndL (List.mem_cons_of_mem _ (List.mem_cons_of_mem _ List.mem_cons_self)), fun l => (judge_at l).2.2.1⟩
      · exact .inr ⟨_, mstB, v_mirrorstart, SJ_of ndL (List.mem_cons_of_mem _ (List.mem_cons_of_mem _ (List.mem_cons_of_mem _ List.mem_cons_self))), fun l => (judge_at l).2.2.2.1⟩
      · exact .inr ⟨_, balB, v_balanced, SJ_of ndL (List.mem_cons_of_mem _ (List.mem_cons_of_mem _ (List.mem_cons_of_mem _ (List.mem_cons_of_mem _ List.mem_cons_self)))), fun l => (judge_at l).2.2.2.2.1⟩
      · exact .inr ⟨_, eveB, v_evenly, SJ_of ndL (List.mem_cons_of_mem _ (List.mem_cons_of_mem _ (List.mem_cons_of_mem _ (List.mem_cons_of_mem _ (List.mem_cons_of_mem _ List.mem_cons_self))))), fun l => (judge_at l).2.2.2.2.2.1⟩
      · exact .inr ⟨_, copB, v_copied, SJ_of ndL (List.mem_cons_of_mem _ (List.mem_cons_of_mem _ (List.mem_cons_of_mem _ (List.mem_cons_of_mem _ (List.mem_cons_of_mem _ (List.mem_cons_of_mem _ List.mem_cons_self)))))), fun l => (judge_at l).2.2.2.2.2.2.1⟩
      · exact .inr ⟨_, thrB, v_thirds, SJ_of ndL (List.mem_cons_of_mem _ (List.mem_cons_of_mem _ (List.mem_cons_of_mem _ (List.mem_cons_of_mem _ (List.mem_cons_of_mem _ (List.mem_cons_of_mem _ (List.mem_cons_of_mem _ List.mem_cons_self))))))), fun l => (judge_at l).2.2.2.2.2.2.2.1⟩
      · exact .inr ⟨_, powB, v_power, SJ_of ndL (List.mem_cons_of_mem _ (List.mem_cons_of_mem _ (List.mem_cons_of_mem _ (List.mem_cons_of_mem _ (List.mem_cons_of_mem _ (List.mem_cons_of_mem _ (List.mem_cons_of_mem _ (List.mem_cons_of_mem _ List.mem_cons_self)))))))), fun l => (judge_at l).2.2.2.2.2.2.2.2.1⟩
      · exact .inl ⟨v_backwards, fun l => (judge_at l).2.2.2.2.2.2.2.2.2.2.2.1⟩
      · exact .inl ⟨v_doubling, fun l => (judge_at l).2.2.2.2.2.2.2.2.2.2.2.2.1⟩
      · exact .inl ⟨v_chant, fun l => (judge_at l).2.2.2.2.2.2.2.2.2.2.2.2.2.1⟩
      · exact .inl ⟨v_rounds, fun l => (judge_at l).2.2.2.2.2.2.2.2.2.2.2.2.2.2⟩
      · exact .inr ⟨_, twoB, v_twomirrors, SJ_of ndL (List.mem_cons_of_mem _ (List.mem_cons_of_mem _ (List.mem_cons_of_mem _ (List.mem_cons_of_mem _ (List.mem_cons_of_mem _ (List.mem_cons_of_mem _ (List.mem_cons_of_mem _ (List.mem_cons_of_mem _ (List.mem_cons_of_mem _ List.mem_cons_self))))))))), fun l => (judge_at l).2.2.2.2.2.2.2.2.2.1⟩
      · exact .inr ⟨_, evB, v_evenmirrors, SJ_of ndL (List.mem_cons_of_mem _ (List.mem_cons_of_mem _ (List.mem_cons_of_mem _ (List.mem_cons_of_mem _ (List.mem_cons_of_mem _ (List.mem_cons_of_mem _ (List.mem_cons_of_mem _ (List.mem_cons_of_mem _ (List.mem_cons_of_mem _ (List.mem_cons_of_mem _ List.mem_cons_self)))))))))), fun l => (judge_at l).2.2.2.2.2.2.2.2.2.2.1⟩⟩
  have bN := FN.binds (ps := ["self", "name"]) fun _ _ _ _ _ _ us hl => match us, hl with | [_, _], _ => rfl
  have bT := FT.binds (ps := ["self", "text"]) fun _ _ _ _ _ _ us hl => match us, hl with | [_, _], _ => rfl
  have oxN : OexC K C := ⟨xN, sN, eN, tN, kN⟩
  have oxT : OexC K CT := ⟨xT, sT, eT, tT, kT⟩
  have EN : ErrF K mg "NoSuchProgram" "name" C fN := ⟨m nN, oxN, iN, tfN, noN⟩
  have EX : ErrF K mg "BadText" "text" CT fT := ⟨m nX, oxT, iT, tfT, noT⟩
  have ok1 := ok_chkName (P := l.prog) (w := w) (base := base) F1 T EN FN bN (m nNA) hNA
  have ok2 := ok_chkTold F13 T ok1 F1.kp b_1 (m na1) EX FT bT (m nGU) hGU mG mL
  have ok3 := ok_plainly F14 ok2 F13.kp b_13 (m na13) JD
  have PD : PlDef l.prog w K mg base C CT _ _ := ⟨ok3, F14.kp, b_14, m na14⟩
  have ET1 : ErrT K C := ⟨ycN, ygN, yhN, eN, ydN, yaN, yn, yt, ymN⟩
  have ET2 : ErrT K CT := ⟨ycT, ygT, yhT, eT, ydT, yaT, yn, yt, ymT⟩
  have NN : ErrsN mg R a1 a2 a3 a4 a5 a6 a7 a8 a9 w1 w2 w3 w4 w5 w6 w7 w8 := ⟨m nR, m ga1, m ga2, m ga3, m ga4, m ga5, m ga6, m ga7, m ga8, m ga9, m gw1, m gw2, m gw3, m gw4, m gw5, m gw6, m gw7, m gw8, PySem.W.mg_none_of X G z_ValueError⟩
  have E1 : ErrsK K C R a1 a2 a3 a4 a5 a6 a7 a8 a9 w1 w2 w3 w4 w5 w6 w7 w8 := ⟨ET1, (kit_no sNN ic_a1 ty_a1 sbN_a1 (kit_no sNN ic_a2 ty_a2 sbN_a2 (kit_no sNN ic_a3 ty_a3 sbN_a3 (kit_no sNN ic_a4 ty_a4 sbN_a4 (kit_no sNN ic_a5 ty_a5 sbN_a5 (kit_no sNN ic_a6 ty_a6 sbN_a6 (kit_no sNN ic_a7 ty_a7 sbN_a7 (kit_no sNN ic_a8 ty_a8 sbN_a8 (kit_no sNN ic_a9 ty_a9 sbN_a9 rfl))))))))), (kit_no sNN ic_w1 ty_w1 sbN_w1 (kit_no sNN ic_w2 ty_w2 sbN_w2 (kit_no sNN ic_w3 ty_w3 sbN_w3 (kit_no sNN ic_w4 ty_w4 sbN_w4 (kit_no sNN ic_w5 ty_w5 sbN_w5 (kit_no sNN ic_w6 ty_w6 sbN_w6 (kit_no sNN ic_w7 ty_w7 sbN_w7 (kit_no sNN ic_w8 ty_w8 sbN_w8 rfl)))))))), kit_yes iR tR sNR, kit_VE sNV⟩
  have E2 : ErrsK K CT R a1 a2 a3 a4 a5 a6 a7 a8 a9 w1 w2 w3 w4 w5 w6 w7 w8 := ⟨ET2, (kit_no sTT ic_a1 ty_a1 sbT_a1 (kit_no sTT ic_a2 ty_a2 sbT_a2 (kit_no sTT ic_a3 ty_a3 sbT_a3 (kit_no sTT ic_a4 ty_a4 sbT_a4 (kit_no sTT ic_a5 ty_a5 sbT_a5 (kit_no sTT ic_a6 ty_a6 sbT_a6 (kit_no sTT ic_a7 ty_a7 sbT_a7 (kit_no sTT ic_a8 ty_a8 sbT_a8 (kit_no sTT ic_a9 ty_a9 sbT_a9 rfl))))))))), (kit_no sTT ic_w1 ty_w1 sbT_w1 (kit_no sTT ic_w2 ty_w2 sbT_w2 (kit_no sTT ic_w3 ty_w3 sbT_w3 (kit_no sTT ic_w4 ty_w4 sbT_w4 (kit_no sTT ic_w5 ty_w5 sbT_w5 (kit_no sTT ic_w6 ty_w6 sbT_w6 (kit_no sTT ic_w7 ty_w7 sbT_w7 (kit_no sTT ic_w8 ty_w8 sbT_w8 rfl)))))))), kit_yes iR tR sTR, kit_VE sTV⟩
  have HD : HotDef l.prog w K mg base C CT _ _ := ⟨ok_plainE F30 T NN E1 E2, F30.kp, b_30, m na30⟩
  have TT : ErrsT K mg C CT := ⟨m nN, m nX, ET1, ET2, exm_yes eN ycN tN sNN, exm_not eN ycN tN sTN, exm_yes eT ycT tT sTT, kit_not sNN ycT tT sNT, kit_not sTT ycN tN sTN, noN, noT⟩
  have TN := PySem.W.mg_none_of X G z_min
  have TX := PySem.W.mg_none_of X G z_max
  have TR := PySem.W.mg_none_of X G z_repr
  have g_cell : Got l.prog w K mg base "_law_cell" 1 ["script", "k"] (spCellA K) := ⟨_, _, ok_cell F17 T, F17.kp, b_17, m na17⟩
  have g_digits : Got l.prog w K mg base "_law_digits" 1 ["cell", "sizes"] (spDigits K) := ⟨_, _, ok_digits F18 T, F18.kp, b_18, m na18⟩
  have g_names : Got l.prog w K mg base "_law_names" 1 [] spNames := ⟨_, _, ok_names F19, F19.kp, b_19, m na19⟩
  have g_same : Got l.prog w K mg base "_law_same" 3 ["told", "due"] (spSame K 1) := ⟨_, _, ok_same F16 T F15 b_15 (m na15) b_16 (m na16) 1, F16.kp, b_16, m na16⟩
  have g_back : Got l.prog w K mg base "_law_back" 1 ["text"] spBack := ⟨_, _, ok_back F20, F20.kp, b_20, m na20⟩
  have g_mirL : Got l.prog w K mg base "_law_mirror" 2 ["text"] spMirL := ⟨_, _, ok_mirL F21 g_back, F21.kp, b_21, m na21⟩
  have g_fold : Got l.prog w K mg base "_law_fold" 2 ["part"] spFold := ⟨_, _, ok_fold F22 T g_back, F22.kp, b_22, m na22⟩
  have g_br : Got l.prog w K mg base "_law_brackets" 1 ["part"] spBr := ⟨_, _, ok_br F23, F23.kp, b_23, m na23⟩
  have g_fit : Got l.prog w K mg base "_law_fitted" 3 ["name", "raw", "cut", "room"] (spFit K) := ⟨_, _, ok_fit F24 T TN TX g_back g_fold g_br, F24.kp, b_24, m na24⟩
  have g_tale : Got l.prog w K mg base "_law_tale" 4 ["script", "at", "name", "room"] (spTale K) := ⟨_, _, ok_tale F25 T ⟨g_cell, g_digits, g_fit⟩, F25.kp, b_25, m na25⟩
  have g_stands : Got l.prog w K mg base "_law_stands" 1 ["word", "text"] spStands := ⟨_, _, ok_stands F26 T, F26.kp, b_26, m na26⟩
  have g_ev : Got l.prog w K mg base "_law_evens" 3 ["text"] (spJ evB) := ⟨_, _, ok_evL F27 T g_mirL, F27.kp, b_27, m na27⟩
  have g_good : Got l.prog w K mg base "_law_good" 4 ["name", "text"] spGood := ⟨_, _, ok_good F28 T TN g_mirL g_stands g_ev, F28.kp, b_28, m na28⟩
  have g_due : Got l.prog w K mg base "_law_due" 5 ["name", "text"] spDue := ⟨_, _, ok_due F29 T g_good, F29.kp, b_29, m na29⟩
  have g_asked : Got l.prog w K mg base "_law_asked" 6 ["name", "value"] (spAsked K) := ⟨_, _, ok_asked F31 T PD HD TT, F31.kp, b_31, m na31⟩
  have g_right : Got l.prog w K mg base "_law_right" 7 ["name", "value"] (spRight K) := ⟨_, _, ok_right F32 T TR g_asked g_names g_due g_same, F32.kp, b_32, m na32⟩
  have g_long : Got l.prog w K mg base "_law_long" 1 ["text", "base", "kind", "size"] spLong := ⟨_, _, ok_long F33, F33.kp, b_33, m na33⟩
  have g_bad : Got l.prog w K mg base "_law_bad" 1 ["text", "kind", "spot"] (spBadT K) := ⟨_, _, ok_badT F34 T, F34.kp, b_34, m na34⟩
  have g_odd : Got l.prog w K mg base "_law_odd" 1 ["name", "kind", "spot", "letter"] (spOddT K) := ⟨_, _, ok_oddT F35 T, F35.kp, b_35, m na35⟩
  exact ok_law FL T ⟨g_names, g_cell, g_digits, g_tale, g_long, g_bad, g_odd, g_right⟩
end Mk

set_option Elab.async false
set_option maxRecDepth 100000
set_option maxHeartbeats 0
namespace Mk
open PySem L2 Pk
theorem glo_na {K : PySem.W.Frag} {x : Str} (c : (He.Fa.glo x).ok K = true) : PySem.W.nsIn K mainGlobals x = some (some (.ref (He.ga K x))) := He.eqO_ok c
theorem fun_of {K : PySem.W.Frag} {x qual : Str} {st : Stmt} {f : Addr} {fd : FuncData} (F : FunD K x qual (defArgs st) (defBody st) (defScope st) [] [] f fd) : Fun K x qual st f fd := by
  obtain ⟨⟨oc, od, dV, kV, doc, pm, an, cdv, ct, osl, hfd, lk, co, hd, _⟩, kp⟩ := F
  have e : dV = .none := by
    rcases hd with ⟨_, e⟩ | ⟨n, _⟩
    · exact e
    · exact absurd rfl n
  subst e
  exact ⟨⟨oc, od, kV, doc, pm, an, cdv, ct, osl, hfd, lk, co⟩, kp⟩
/-- a tuple in the head's part -/
def tupA (K : PySem.W.Frag) (a : Addr) (vs : List V) : Bool := match K.lookup a with
  | some ⟨.type c, _, .seq its _, _⟩ => decide (c = "tuple") && (decide (its.size ≤ sizeLine) && He.relAll vs its.toList)
  | _ => false
theorem tupA_ok {K : PySem.W.Frag} {a : Addr} {vs : List V} (h : tupA K a vs = true) (H : Hp) : SqT K H a vs := by
  unfold tupA at h
  cases q : K.lookup a with
  | none =>
    rw [q] at h
    cases h
  | some o =>
    obtain ⟨oc, od, dt, osl⟩ := o
    rw [q] at h
    cases oc with
    | type c =>
      cases dt with
      | seq its n =>
        obtain ⟨h1, h2⟩ := He.ba (show (decide (c = "tuple") && (decide (its.size ≤ sizeLine) && He.relAll vs its.toList)) = true from h)
        obtain ⟨h3, h4⟩ := He.ba h2
        exact .inr ⟨_, its, n, q, congrArg Value.type (of_decide_eq_true h1), rfl, of_decide_eq_true h3, He.relAll_ok h4⟩
      | _ => cases h
    | _ => cases dt <;> cases h
/-! what the facts look at: the names' objects, what they name; the ways of the classes -/
def kidsQ (g : Addr → Option Obj) (a : Addr) : List Addr := match g a with
  | some o => He.refsD o
  | none => []
def asQ (names cs : List Str) (g : Addr → Option Obj) : List Addr :=
  (fun K0 : PySem.W.Frag => (fun A1 B1 : List Addr => (fun B2 : List Addr => (fun B3 : List Addr => mainGlobals :: (A1 ++ (A1.flatMap (kidsQ g) ++ (B2 ++ (B3 ++ B3.flatMap (kidsQ g)))))) (B2.flatMap (kidsQ g))) (B1.flatMap (kidsQ g)))
    (names.map (He.ga K0)) ((cs.map (He.ga K0)).flatMap (kidsQ g))) (He.frG g [mainGlobals])
abbrev AlQ : Type := He.AlD × Bool × Option (List (Option (Str × Int)))
def tabQ (b : Bool) (K : PySem.W.Frag) : Option (List (Option (Str × Int))) := match b with
  | true => He.dicW K (He.ga K "JUDGES")
  | false => none
def tabV (b : Bool) (P : Params) : Option (List (Option (Str × Int))) := match b with
  | true => some (He.keysIn P ["mirrored", "found", "bordered", "mirrorstart", "balanced", "evenly", "copied", "thirds", "power", "twomirrors", "evenmirrors"])
  | false => none
def obsQ (fa : List He.Fa) (fn : List He.DefD) (ex : PySem.W.Frag → Bool) (tb : Bool) (names cs : List Str) (g : Addr → Option Obj) : AlQ := (fun K : PySem.W.Frag => ((He.obsD fa fn K, ex K, tabQ tb K) : AlQ)) (He.frG g (asQ names cs g))
def SaysQ (fa : List He.Fa) (fn : List He.DefD) (ex : PySem.W.Frag → Bool) (tb : Bool) (w : World) (K : PySem.W.Frag) : Prop := He.SaysD fa fn K ∧ ex K = true ∧ tabQ tb K = tabV tb w.params
def hookQ (fa : List He.Fa) (fn : List He.DefD) (ex : PySem.W.Frag → Bool) (tb : Bool) (names cs : List Str) : PySem.W.Hook where
  α := AlQ
  obs := fun s => obsQ fa fn ex tb names cs s.heap.get?
  val := fun w => (He.valD fn, true, tabV tb w.params)
  says := fun w h => ∃ K : PySem.W.Frag, K.In h ∧ SaysQ fa fn ex tb w K
  of := fun _ _ e => ⟨_, He.frG_in, congrArg (fun z : AlQ => z.1) e, congrArg (fun z : AlQ => z.2.1) e, congrArg (fun z : AlQ => z.2.2) e⟩
  keeps := fun _ _ _ ⟨K, hK, c⟩ k => ⟨K, PySem.W.Frag.In.keeps hK k, c⟩
theorem obsQ_eq {fa : List He.Fa} {fn : List He.DefD} {ex : PySem.W.Frag → Bool} {tb : Bool} {names cs : List Str} {g : Addr → Option Obj} {s : Shared} (h : ∀ a, g a = s.heap.get? a) : obsQ fa fn ex tb names cs g = (hookQ fa fn ex tb names cs).obs s := by
  have e : g = s.heap.get? := funext h
  rw [e] <;> rfl
/-- an own error class in the head's part -/
def oexB (K : PySem.W.Frag) (C : Addr) : Bool := match K.lookup C with
  | some ⟨.type "type", _, .cls cd, sl⟩ => (match cd.mro, sl.toList with
    | .ref C' :: bm, [_, _, _, _, some (.builtin n), _] => C' == C && n == "ValueError.__new__" && !cd.hasDel && cd.hasDict && PySem.HandSPX.refsVE bm
    | _, _ => false)
  | _ => false
theorem oexB_ok {K : PySem.W.Frag} {C : Addr} (q : oexB K C = true) : ∃ nm q N bs bm sn sub ab col dd k0 k1 k2 k3 k5, K.lookup C = some (excClassObj nm q C N bs bm true sn sub ab col dd k0 k1 k2 k3 k5 "ValueError.__new__") ∧ PySem.HandSPX.refsVE bm = true := by
  unfold oexB at q
  split at q
  · rename_i dd cd sl ho
    split at q
    · rename_i C' bm k0 k1 k2 k3 n k5 hm hs
      simp only [Bool.and_eq_true, beq_iff_eq, Bool.not_eq_true'] at q
      obtain ⟨⟨⟨⟨rfl, rfl⟩, hdel⟩, ht⟩, hok⟩ := q
      obtain ⟨nm, bs, mro, ns, qn, hd, sn, sub, ab, col, del⟩ := cd
      dsimp only at hm hdel ht hok
      subst hm hdel ht
      have hsl : sl = #[k0, k1, k2, k3, some (.builtin "ValueError.__new__"), k5] := by
        obtain ⟨l⟩ := sl
        simp only at hs
        rw [hs]
      subst hsl
      exact ⟨nm, qn, ns, bs, bm, sn, sub, ab, col, dd, k0, k1, k2, k3, k5, ho, hok⟩
    · cases q
  · cases q
def hfa : List He.Fa := [.glo "check_name", .glo "is_mirrored", .glo "is_found", .glo "is_bordered", .glo "has_mirrored_start", .glo "is_balanced", .glo "is_even", .glo "is_copied", .glo "is_in_thirds", .glo "is_power", .glo "is_two_mirrors", .glo "is_even_mirrors", .glo "check_told", .glo "plainly", .glo "_law_whole", .glo "_law_same", .glo "_law_cell", .glo "_law_digits", .glo "_law_names", .glo "_law_back", .glo "_law_mirror", .glo "_law_fold", .glo "_law_brackets", .glo "_law_fitted", .glo "_law_tale", .glo "_law_stands", .glo "_law_evens", .glo "_law_good", .glo "_law_due", .glo "_law_plain", .glo "_law_asked", .glo "_law_right", .glo "_law_long", .glo "_law_bad", .glo "_law_odd", .glo "law", .int "MOST_GUESSED" 40, .int "MOST_LETTERS" 400, .free "isinstance", .free "int", .free "bool", .free "str", .free "tuple", .free "list", .free "len", .free "range", .free "all", .free "any", .free "sorted", .free "set", .free "abs", .free "ValueError", .free "max", .free "min", .free "repr", .glo "JUDGES", .glo "NoSuchProgram", .glo "BadText", .glo "RecallError", .glo "NAMES", .glo "GUESSING", .glo "BadCode", .glo "BadDeed", .glo "BadLine", .glo "BadPaper", .glo "BadSplice", .glo "BadStanding", .glo "BadSurface", .glo "BadToken", .glo "BadTree", .glo "BadGrammar", .glo "BadMachine", .glo "DoubleName", .glo "Guesses", .glo "NoSuchProcedure", .glo "NothingToUndo", .glo "TooLong", .glo "UnlikeLetters"]
def hfn0 : He.DefD := ⟨("check_name", none), "check_name", "check_name", defArgs sCheckName, defBody sCheckName, defScope sCheckName, [], []⟩
def hfn1 : He.DefD := ⟨("is_mirrored", none), "is_mirrored", "is_mirrored", defArgs sMirrored, defBody sMirrored, defScope sMirrored, [], []⟩
def hfn2 : He.DefD := ⟨("is_found", none), "is_found", "is_found", defArgs sFound, defBody sFound, defScope sFound, [], []⟩
def hfn3 : He.DefD := ⟨("is_bordered", none), "is_bordered", "is_bordered", defArgs sBordered, defBody sBordered, defScope sBordered, [], []⟩
def hfn4 : He.DefD := ⟨("has_mirrored_start", none), "has_mirrored_start", "has_mirrored_start", defArgs sMirStart, defBody sMirStart, defScope sMirStart, [], []⟩
def hfn5 : He.DefD := ⟨("is_balanced", none), "is_balanced", "is_balanced", defArgs sBalanced, defBody sBalanced, defScope sBalanced, [], []⟩
def hfn6 : He.DefD := ⟨("is_even", none), "is_even", "is_even", defArgs sEven, defBody sEven, defScope sEven, [], []⟩
def hfn7 : He.DefD := ⟨("is_copied", none), "is_copied", "is_copied", defArgs sCopied, defBody sCopied, defScope sCopied, [], []⟩
def hfn8 : He.DefD := ⟨("is_in_thirds", none), "is_in_thirds", "is_in_thirds", defArgs sThirds, defBody sThirds, defScope sThirds, [], []⟩
def hfn9 : He.DefD := ⟨("is_power", none), "is_power", "is_power", defArgs sPower, defBody sPower, defScope sPower, [], []⟩
def hfn10 : He.DefD := ⟨("is_two_mirrors", none), "is_two_mirrors", "is_two_mirrors", defArgs sTwoMir, defBody sTwoMir, defScope sTwoMir, [], []⟩
def hfn11 : He.DefD := ⟨("is_even_mirrors", none), "is_even_mirrors", "is_even_mirrors", defArgs sEvenMir, defBody sEvenMir, defScope sEvenMir, [], []⟩
def hfn12 : He.DefD := ⟨("check_told", none), "check_told", "check_told", defArgs sCheckTold, defBody sCheckTold, defScope sCheckTold, [], []⟩
def hfn13 : He.DefD := ⟨("plainly", none), "plainly", "plainly", defArgs sPlainly, defBody sPlainly, defScope sPlainly, [], []⟩
def hfn14 : He.DefD := ⟨("_law_whole", none), "_law_whole", "_law_whole", defArgs sWhole, defBody sWhole, defScope sWhole, [], []⟩
def hfn15 : He.DefD := ⟨("_law_same", none), "_law_same", "_law_same", defArgs sSame, defBody sSame, defScope sSame, [], []⟩
def hfn16 : He.DefD := ⟨("_law_cell", none), "_law_cell", "_law_cell", defArgs sCell, defBody sCell, defScope sCell, [], []⟩
def hfn17 : He.DefD := ⟨("_law_digits", none), "_law_digits", "_law_digits", defArgs sDigits, defBody sDigits, defScope sDigits, [], []⟩
def hfn18 : He.DefD := ⟨("_law_names", none), "_law_names", "_law_names", defArgs sNames, defBody sNames, defScope sNames, [], []⟩
def hfn19 : He.DefD := ⟨("_law_back", none), "_law_back", "_law_back", defArgs sBack, defBody sBack, defScope sBack, [], []⟩
def hfn20 : He.DefD := ⟨("_law_mirror", none), "_law_mirror", "_law_mirror", defArgs sMirror, defBody sMirror, defScope sMirror, [], []⟩
def hfn21 : He.DefD := ⟨("_law_fold", none), "_law_fold", "_law_fold", defArgs sFold, defBody sFold, defScope sFold, [], []⟩
def hfn22 : He.DefD := ⟨("_law_brackets", none), "_law_brackets", "_law_brackets", defArgs sBrackets, defBody sBrackets, defScope sBrackets, [], []⟩
def hfn23 : He.DefD := ⟨("_law_fitted", none), "_law_fitted", "_law_fitted", defArgs sFitted, defBody sFitted, defScope sFitted, [], []⟩
def hfn24 : He.DefD := ⟨("_law_tale", none), "_law_tale", "_law_tale", defArgs sTale, defBody sTale, defScope sTale, [], []⟩
def hfn25 : He.DefD := ⟨("_law_stands", none), "_law_stands", "_law_stands", defArgs sStands, defBody sStands, defScope sStands, [], []⟩
def hfn26 : He.DefD := ⟨("_law_evens", none), "_law_evens", "_law_evens", defArgs sEvens, defBody sEvens, defScope sEvens, [], []⟩
def hfn27 : He.DefD := ⟨("_law_good", none), "_law_good", "_law_good", defArgs sGood, defBody sGood, defScope sGood, [], []⟩
def hfn28 : He.DefD := ⟨("_law_due", none), "_law_due", "_law_due", defArgs sDue, defBody sDue, defScope sDue, [], []⟩
def hfn29 : He.DefD := ⟨("_law_plain", none), "_law_plain", "_law_plain", defArgs sPlainE, defBody sPlainE, defScope sPlainE, [], []⟩
def hfn30 : He.DefD := ⟨("_law_asked", none), "_law_asked", "_law_asked", defArgs sAsked, defBody sAsked, defScope sAsked, [], []⟩
def hfn31 : He.DefD := ⟨("_law_right", none), "_law_right", "_law_right", defArgs sRight, defBody sRight, defScope sRight, [], []⟩
def hfn32 : He.DefD := ⟨("_law_long", none), "_law_long", "_law_long", defArgs sLong, defBody sLong, defScope sLong, [], []⟩
def hfn33 : He.DefD := ⟨("_law_bad", none), "_law_bad", "_law_bad", defArgs sBad, defBody sBad, defScope sBad, [], []⟩
def hfn34 : He.DefD := ⟨("_law_odd", none), "_law_odd", "_law_odd", defArgs sOdd, defBody sOdd, defScope sOdd, [], []⟩
def hfn35 : He.DefD := ⟨("law", none), "law", "law", defArgs sLaw, defBody sLaw, defScope sLaw, [], []⟩
def hfn36 : He.DefD := ⟨("NoSuchProgram", some "__init__"), "__init__", "NoSuchProgram.__init__", defArgs sNoInit, defBody sNoInit, defScope sNoInit, [], []⟩
def hfn37 : He.DefD := ⟨("BadText", some "__init__"), "__init__", "BadText.__init__", defArgs sTxInit, defBody sTxInit, defScope sTxInit, [], []⟩
def hfn : List He.DefD := [hfn0, hfn1, hfn2, hfn3, hfn4, hfn5, hfn6, hfn7, hfn8, hfn9, hfn10, hfn11, hfn12, hfn13, hfn14, hfn15, hfn16, hfn17, hfn18, hfn19, hfn20, hfn21, hfn22, hfn23, hfn24, hfn25, hfn26, hfn27, hfn28, hfn29, hfn30, hfn31, hfn32, hfn33, hfn34, hfn35, hfn36, hfn37]
def hexL (K : PySem.W.Frag) : List Bool := [decide (PySem.W.findIn K (.ref (He.ga K "NoSuchProgram")) "__setattr__" = some (some (.builtin "object.__setattr__"))),
  decide (PySem.W.subIn K (.ref (He.ga K "NoSuchProgram")) (.type "BaseException") = some true),
  decide (PySem.W.typeIn K (.ref (He.ga K "NoSuchProgram")) = some (.type "type")),
  decide (PySem.W.keepIn K (.ref (He.ga K "NoSuchProgram")) = true),
  decide (PySem.W.findIn K (.ref (He.ga K "NoSuchProgram")) "__init__" = some (some (.ref (He.ma K (He.ga K "NoSuchProgram") "__init__")))),
  decide (PySem.W.typeIn K (.ref (He.ma K (He.ga K "NoSuchProgram") "__init__")) = some (.type "function")),
  decide (PySem.W.findIn K (.ref (He.ga K "NoSuchProgram")) "name" = some none),
  decide (PySem.W.isClsIn K (He.ga K "NoSuchProgram") = true),
  decide (PySem.W.findIn K (.ref (He.ga K "NoSuchProgram")) "__getattribute__" = some (some (.builtin "BaseException.__getattribute__"))),
  decide (PySem.W.findIn K (.ref (He.ga K "NoSuchProgram")) "__getattr__" = some none),
  decide (PySem.W.hasDictIn K (He.ga K "NoSuchProgram") = true),
  decide (PySem.W.findIn K (.ref (He.ga K "NoSuchProgram")) "__class__" = some (some (.builtin "object.__class__"))),
  decide (PySem.W.mroIn K (He.ga K "NoSuchProgram") (.type "object") = some true),
  decide (PySem.W.subIn K (.ref (He.ga K "NoSuchProgram")) (.type "ValueError") = some true),
  decide (PySem.W.subIn K (.ref (He.ga K "NoSuchProgram")) (.ref (He.ga K "RecallError")) = some true),
  decide (PySem.W.subIn K (.ref (He.ga K "NoSuchProgram")) (.ref (He.ga K "NoSuchProgram")) = some true),
  decide (PySem.W.subIn K (.ref (He.ga K "NoSuchProgram")) (.ref (He.ga K "BadText")) = some false),
  decide (PySem.W.subIn K (.ref (He.ga K "NoSuchProgram")) (.ref (He.ga K "BadCode")) = some false),
  decide (PySem.W.subIn K (.ref (He.ga K "NoSuchProgram")) (.ref (He.ga K "BadDeed")) = some false),
  decide (PySem.W.subIn K (.ref (He.ga K "NoSuchProgram")) (.ref (He.ga K "BadLine")) = some false),
  decide (PySem.W.subIn K (.ref (He.ga K "NoSuchProgram")) (.ref (He.ga K "BadPaper")) = some false),
  decide (PySem.W.subIn K (.ref (He.ga K "NoSuchProgram")) (.ref (He.ga K "BadSplice")) = some false),
  decide (PySem.W.subIn K (.ref (He.ga K "NoSuchProgram")) (.ref (He.ga K "BadStanding")) = some false),
  decide (PySem.W.subIn K (.ref (He.ga K "NoSuchProgram")) (.ref (He.ga K "BadSurface")) = some false),
  decide (PySem.W.subIn K (.ref (He.ga K "NoSuchProgram")) (.ref (He.ga K "BadToken")) = some false),
  decide (PySem.W.subIn K (.ref (He.ga K "NoSuchProgram")) (.ref (He.ga K "BadTree")) = some false),
  decide (PySem.W.subIn K (.ref (He.ga K "NoSuchProgram")) (.ref (He.ga K "BadGrammar")) = some false),
  decide (PySem.W.subIn K (.ref (He.ga K "NoSuchProgram")) (.ref (He.ga K "BadMachine")) = some false),
  decide (PySem.W.subIn K (.ref (He.ga K "NoSuchProgram")) (.ref (He.ga K "DoubleName")) = some false),
  decide (PySem.W.subIn K (.ref (He.ga K "NoSuchProgram")) (.ref (He.ga K "Guesses")) = some false),
  decide (PySem.W.subIn K (.ref (He.ga K "NoSuchProgram")) (.ref (He.ga K "NoSuchProcedure")) = some false),
  decide (PySem.W.subIn K (.ref (He.ga K "NoSuchProgram")) (.ref (He.ga K "NothingToUndo")) = some false),
  decide (PySem.W.subIn K (.ref (He.ga K "NoSuchProgram")) (.ref (He.ga K "TooLong")) = some false),
  decide (PySem.W.subIn K (.ref (He.ga K "NoSuchProgram")) (.ref (He.ga K "UnlikeLetters")) = some false),
  decide (PySem.W.findIn K (.ref (He.ga K "BadText")) "__setattr__" = some (some (.builtin "object.__setattr__"))),
  decide (PySem.W.subIn K (.ref (He.ga K "BadText")) (.type "BaseException") = some true),
  decide (PySem.W.typeIn K (.ref (He.ga K "BadText")) = some (.type "type")),
  decide (PySem.W.keepIn K (.ref (He.ga K "BadText")) = true),
  decide (PySem.W.findIn K (.ref (He.ga K "BadText")) "__init__" = some (some (.ref (He.ma K (He.ga K "BadText") "__init__")))),
  decide (PySem.W.typeIn K (.ref (He.ma K (He.ga K "BadText") "__init__")) = some (.type "function")),
  decide (PySem.W.findIn K (.ref (He.ga K "BadText")) "text" = some none),
  decide (PySem.W.isClsIn K (He.ga K "BadText") = true),
  decide (PySem.W.findIn K (.ref (He.ga K "BadText")) "__getattribute__" = some (some (.builtin "BaseException.__getattribute__"))),
  decide (PySem.W.findIn K (.ref (He.ga K "BadText")) "__getattr__" = some none),
  decide (PySem.W.hasDictIn K (He.ga K "BadText") = true),
  decide (PySem.W.findIn K (.ref (He.ga K "BadText")) "__class__" = some (some (.builtin "object.__class__"))),
  decide (PySem.W.mroIn K (He.ga K "BadText") (.type "object") = some true),
  decide (PySem.W.subIn K (.ref (He.ga K "BadText")) (.type "ValueError") = some true),
  decide (PySem.W.subIn K (.ref (He.ga K "BadText")) (.ref (He.ga K "RecallError")) = some true),
  decide (PySem.W.subIn K (.ref (He.ga K "BadText")) (.ref (He.ga K "NoSuchProgram")) = some false),
  decide (PySem.W.subIn K (.ref (He.ga K "BadText")) (.ref (He.ga K "BadText")) = some true),
  decide (PySem.W.subIn K (.ref (He.ga K "BadText")) (.ref (He.ga K "BadCode")) = some false),
  decide (PySem.W.subIn K (.ref (He.ga K "BadText")) (.ref (He.ga K "BadDeed")) = some false),
  decide (PySem.W.subIn K (.ref (He.ga K "BadText")) (.ref (He.ga K "BadLine")) = some false),
  decide (PySem.W.subIn K (.ref (He.ga K "BadText")) (.ref (He.ga K "BadPaper")) = some false),
  decide (PySem.W.subIn K (.ref (He.ga K "BadText")) (.ref (He.ga K "BadSplice")) = some false),
  decide (PySem.W.subIn K (.ref (He.ga K "BadText")) (.ref (He.ga K "BadStanding")) = some false),
  decide (PySem.W.subIn K (.ref (He.ga K "BadText")) (.ref (He.ga K "BadSurface")) = some false),
  decide (PySem.W.subIn K (.ref (He.ga K "BadText")) (.ref (He.ga K "BadToken")) = some false),
  decide (PySem.W.subIn K (.ref (He.ga K "BadText")) (.ref (He.ga K "BadTree")) = some false),
  decide (PySem.W.subIn K (.ref (He.ga K "BadText")) (.ref (He.ga K "BadGrammar")) = some false),
  decide (PySem.W.subIn K (.ref (He.ga K "BadText")) (.ref (He.ga K "BadMachine")) = some false),
  decide (PySem.W.subIn K (.ref (He.ga K "BadText")) (.ref (He.ga K "DoubleName")) = some false),
  decide (PySem.W.subIn K (.ref (He.ga K "BadText")) (.ref (He.ga K "Guesses")) = some false),
  decide (PySem.W.subIn K (.ref (He.ga K "BadText")) (.ref (He.ga K "NoSuchProcedure")) = some false),
  decide (PySem.W.subIn K (.ref (He.ga K "BadText")) (.ref (He.ga K "NothingToUndo")) = some false),
  decide (PySem.W.subIn K (.ref (He.ga K "BadText")) (.ref (He.ga K "TooLong")) = some false),
  decide (PySem.W.subIn K (.ref (He.ga K "BadText")) (.ref (He.ga K "UnlikeLetters")) = some false),
  decide (PySem.W.specialIn K (.builtin "object.__class__") "__get__" = some (some (.builtin "getset_descriptor.__get__"))),
  decide (PySem.W.takesIn K (.builtin "object.__class__") = some true),
  decide (PySem.W.isClsIn K (He.ga K "RecallError") = true),
  decide (PySem.W.typeIn K (.ref (He.ga K "RecallError")) = some (.type "type")),
  decide (PySem.W.isClsIn K (He.ga K "BadCode") = true),
  decide (PySem.W.typeIn K (.ref (He.ga K "BadCode")) = some (.type "type")),
  decide (PySem.W.isClsIn K (He.ga K "BadDeed") = true),
  decide (PySem.W.typeIn K (.ref (He.ga K "BadDeed")) = some (.type "type")),
  decide (PySem.W.isClsIn K (He.ga K "BadLine") = true),
  decide (PySem.W.typeIn K (.ref (He.ga K "BadLine")) = some (.type "type")),
  decide (PySem.W.isClsIn K (He.ga K "BadPaper") = true),
  decide (PySem.W.typeIn K (.ref (He.ga K "BadPaper")) = some (.type "type")),
  decide (PySem.W.isClsIn K (He.ga K "BadSplice") = true),
  decide (PySem.W.typeIn K (.ref (He.ga K "BadSplice")) = some (.type "type")),
  decide (PySem.W.isClsIn K (He.ga K "BadStanding") = true),
  decide (PySem.W.typeIn K (.ref (He.ga K "BadStanding")) = some (.type "type")),
  decide (PySem.W.isClsIn K (He.ga K "BadSurface") = true),
  decide (PySem.W.typeIn K (.ref (He.ga K "BadSurface")) = some (.type "type")),
  decide (PySem.W.isClsIn K (He.ga K "BadToken") = true),
  decide (PySem.W.typeIn K (.ref (He.ga K "BadToken")) = some (.type "type")),
  decide (PySem.W.isClsIn K (He.ga K "BadTree") = true),
  decide (PySem.W.typeIn K (.ref (He.ga K "BadTree")) = some (.type "type")),
  decide (PySem.W.isClsIn K (He.ga K "BadGrammar") = true),
  decide (PySem.W.typeIn K (.ref (He.ga K "BadGrammar")) = some (.type "type")),
  decide (PySem.W.isClsIn K (He.ga K "BadMachine") = true),
  decide (PySem.W.typeIn K (.ref (He.ga K "BadMachine")) = some (.type "type")),
  decide (PySem.W.isClsIn K (He.ga K "DoubleName") = true),
  decide (PySem.W.typeIn K (.ref (He.ga K "DoubleName")) = some (.type "type")),
  decide (PySem.W.isClsIn K (He.ga K "Guesses") = true),
  decide (PySem.W.typeIn K (.ref (He.ga K "Guesses")) = some (.type "type")),
  decide (PySem.W.isClsIn K (He.ga K "NoSuchProcedure") = true),
  decide (PySem.W.typeIn K (.ref (He.ga K "NoSuchProcedure")) = some (.type "type")),
  decide (PySem.W.isClsIn K (He.ga K "NothingToUndo") = true),
  decide (PySem.W.typeIn K (.ref (He.ga K "NothingToUndo")) = some (.type "type")),
  decide (PySem.W.isClsIn K (He.ga K "TooLong") = true),
  decide (PySem.W.typeIn K (.ref (He.ga K "TooLong")) = some (.type "type")),
  decide (PySem.W.isClsIn K (He.ga K "UnlikeLetters") = true),
  decide (PySem.W.typeIn K (.ref (He.ga K "UnlikeLetters")) = some (.type "type")),
  oexB K (He.ga K "NoSuchProgram"),
  oexB K (He.ga K "BadText"),
  tupA K (He.ga K "NAMES") (namesL.map V.str),
  tupA K (He.ga K "GUESSING") (guessL.map V.str),
  decide (List.Nodup [(He.ga K "is_mirrored"), (He.ga K "is_found"), (He.ga K "is_bordered"), (He.ga K "has_mirrored_start"), (He.ga K "is_balanced"), (He.ga K "is_even"), (He.ga K "is_copied"), (He.ga K "is_in_thirds"), (He.ga K "is_power"), (He.ga K "is_two_mirrors"), (He.ga K "is_even_mirrors")]),
  decide (PySem.W.nsIn K (He.ga K "JUDGES") "mirrored" = some (some (.ref (He.ga K "is_mirrored")))),
  decide (PySem.W.nsIn K (He.ga K "JUDGES") "found" = some (some (.ref (He.ga K "is_found")))),
  decide (PySem.W.nsIn K (He.ga K "JUDGES") "bordered" = some (some (.ref (He.ga K "is_bordered")))),
  decide (PySem.W.nsIn K (He.ga K "JUDGES") "mirrorstart" = some (some (.ref (He.ga K "has_mirrored_start")))),
  decide (PySem.W.nsIn K (He.ga K "JUDGES") "balanced" = some (some (.ref (He.ga K "is_balanced")))),
  decide (PySem.W.nsIn K (He.ga K "JUDGES") "evenly" = some (some (.ref (He.ga K "is_even")))),
  decide (PySem.W.nsIn K (He.ga K "JUDGES") "copied" = some (some (.ref (He.ga K "is_copied")))),
  decide (PySem.W.nsIn K (He.ga K "JUDGES") "thirds" = some (some (.ref (He.ga K "is_in_thirds")))),
  decide (PySem.W.nsIn K (He.ga K "JUDGES") "power" = some (some (.ref (He.ga K "is_power")))),
  decide (PySem.W.nsIn K (He.ga K "JUDGES") "backwards" = some none),
  decide (PySem.W.nsIn K (He.ga K "JUDGES") "doubling" = some none),
  decide (PySem.W.nsIn K (He.ga K "JUDGES") "chant" = some none),
  decide (PySem.W.nsIn K (He.ga K "JUDGES") "rounds" = some none),
  decide (PySem.W.nsIn K (He.ga K "JUDGES") "twomirrors" = some (some (.ref (He.ga K "is_two_mirrors")))),
  decide (PySem.W.nsIn K (He.ga K "JUDGES") "evenmirrors" = some (some (.ref (He.ga K "is_even_mirrors"))))]
def hex_ (K : PySem.W.Frag) : Bool := (hexL K).all id
abbrev hR : PySem.W.OpenRow := PySem.W.OpenLaw.row PySem.Challenge.rw_pilerecall_k84_tests_of_texts_whole
def hnd0 : List Str := ["check_name", "is_mirrored", "is_found", "is_bordered", "has_mirrored_start", "is_balanced", "is_even", "is_copied", "is_in_thirds", "is_power", "is_two_mirrors", "is_even_mirrors", "check_told", "plainly", "_law_whole", "_law_same", "_law_cell", "_law_digits", "_law_names", "_law_back", "_law_mirror", "_law_fold", "_law_brackets", "_law_fitted", "_law_tale", "_law_stands", "_law_evens", "_law_good", "_law_due", "_law_plain"]
def hnd1 : List Str := ["_law_asked", "_law_right", "_law_long", "_law_bad", "_law_odd", "law", "JUDGES", "NoSuchProgram", "BadText", "RecallError", "NAMES", "GUESSING", "BadCode", "BadDeed", "BadLine", "BadPaper", "BadSplice", "BadStanding", "BadSurface", "BadToken", "BadTree", "BadGrammar", "BadMachine", "DoubleName", "Guesses", "NoSuchProcedure", "NothingToUndo", "TooLong", "UnlikeLetters"]
def hnd : List Str := hnd0 ++ hnd1
def hcs : List Str := ["NoSuchProgram", "BadText"]
abbrev hk : PySem.W.Hook := hookQ hfa hfn hex_ true hnd hcs
def hob (s : PySem.W.SharedT) : AlQ := obsQ hfa hfn hex_ true hnd hcs (HandSHeadRun.getT s)
theorem hob_eq (s : PySem.W.SharedT) : hob s = hk.obs s.abs := obsQ_eq (HandSHeadRun.getT_eq s)
def hnm0 : List Str := ["RecallError", "BadMachine", "BadLine", "BadText", "Guesses", "BadStanding", "BadSurface", "TooLong", "BadSplice", "NothingToUndo", "BadDeed", "BadTree", "DoubleName", "NoSuchProcedure", "BadToken", "UnlikeLetters", "BadCode", "BadPaper", "BadGrammar", "NoSuchProgram", "NAMES", "check_name", "MOST_LETTERS", "MOST_GUESSED", "GUESSING", "is_mirrored", "is_found", "is_bordered", "has_mirrored_start", "is_balanced"]
def hnm1 : List Str := ["is_even", "is_copied", "is_in_thirds", "is_power", "is_two_mirrors", "is_even_mirrors", "JUDGES", "check_told", "plainly", "_law_whole", "_law_same", "_law_cell", "_law_digits", "_law_names", "_law_back", "_law_mirror", "_law_fold", "_law_brackets", "_law_fitted", "_law_tale", "_law_stands", "_law_evens", "_law_good", "_law_due", "_law_plain", "_law_asked", "_law_right", "_law_long", "_law_bad", "_law_odd"]
def hnm : List Str := hnm0 ++ hnm1
theorem hrunF (w : World) : HandSHeadRun.RunEq hR (PySem.W.view hR.prog [64]) hk hob 12000 hnm (w.withFollow "special-get-raises" false) := by
  intro os
  kernel_rfl
theorem hrunT (w : World) : HandSHeadRun.RunEq hR (PySem.W.view hR.prog [64]) hk hob 12000 hnm (w.withFollow "special-get-raises" true) := by
  intro os
  kernel_rfl
theorem hrun (w : World) : HandSHeadRun.RunEq hR (PySem.W.view hR.prog [64]) hk hob 12000 hnm w := PySem.W.byRow2 "special-get-raises" (P := fun w => HandSHeadRun.RunEq hR (PySem.W.view hR.prog [64]) hk hob 12000 hnm w) hrunF hrunT w
theorem hfacts {w : World} {K : PySem.W.Frag} {h : Heap} {mg : Str → Option Value} {fa : Addr} (X : K.In h) (G : h.Ns mainGlobals mg) (hf : mg ("law" : Str) = some (.ref fa)) (cx : SaysQ hfa hfn hex_ true w K) :
    ∃ fd : FuncData, (∀ (s : Shared) (v : Value), BindsTo s fd ⟨[v], []⟩ [("script", v)]) ∧ ∀ base : Heap, K.In base → base.Ns mainGlobals mg → FnOk (PySem.Challenge.rw_pilerecall_k84_tests_of_texts_whole).prog w K mg base CX0 8 fa fd ["script"] (spLaw K) := by
  have c : He.SaysD hfa hfn K := cx.1
  have b : ∀ (i : Nat) {x : Bool}, (hexL K)[i]? = some x → x = true := fun i x hx => List.all_eq_true.mp (show (hexL K).all id = true from cx.2.1) x (List.mem_of_getElem? hx)
  have d0 : ∃ fd, FunD K hfn0.name hfn0.qual hfn0.params hfn0.body hfn0.scope (hfn0.dvs K) (hfn0.kws K) (He.fAd K hfn0.at_) fd := c.def_ 0 (d := hfn0) rfl
  have d1 : ∃ fd, FunD K hfn1.name hfn1.qual hfn1.params hfn1.body hfn1.scope (hfn1.dvs K) (hfn1.kws K) (He.fAd K hfn1.at_) fd := c.def_ 1 (d := hfn1) rfl
  have d2 : ∃ fd, FunD K hfn2.name hfn2.qual hfn2.params hfn2.body hfn2.scope (hfn2.dvs K) (hfn2.kws K) (He.fAd K hfn2.at_) fd := c.def_ 2 (d := hfn2) rfl
  have d3 : ∃ fd, FunD K hfn3.name hfn3.qual hfn3.params hfn3.body hfn3.scope (hfn3.dvs K) (hfn3.kws K) (He.fAd K hfn3.at_) fd := c.def_ 3 (d := hfn3) rfl
  have d4 : ∃ fd, FunD K hfn4.name hfn4.qual hfn4.params hfn4.body hfn4.scope (hfn4.dvs K) (hfn4.kws K) (He.fAd K hfn4.at_) fd := c.def_ 4 (d := hfn4) rfl
  have d5 : ∃ fd, FunD K hfn5.name hfn5.qual hfn5.params hfn5.body hfn5.scope (hfn5.dvs K) (hfn5.kws K) (He.fAd K hfn5.at_) fd := c.def_ 5 (d := hfn5) rfl
  have d6 : ∃ fd, FunD K hfn6.name hfn6.qual hfn6.params hfn6.body hfn6.scope (hfn6.dvs K) (hfn6.kws K) (He.fAd K hfn6.at_) fd := c.def_ 6 (d := hfn6) rfl
  have d7 : ∃ fd, FunD K hfn7.name hfn7.qual hfn7.params hfn7.body hfn7.scope (hfn7.dvs K) (hfn7.kws K) (He.fAd K hfn7.at_) fd := c.def_ 7 (d := hfn7) rfl
  have d8 : ∃ fd, FunD K hfn8.name hfn8.qual hfn8.params hfn8.body hfn8.scope (hfn8.dvs K) (hfn8.kws K) (He.fAd K hfn8.at_) fd := c.def_ 8 (d := hfn8) rfl
  have d9 : ∃ fd, FunD K hfn9.name hfn9.qual hfn9.params hfn9.body hfn9.scope (hfn9.dvs K) (hfn9.kws K) (He.fAd K hfn9.at_) fd := c.def_ 9 (d := hfn9) rfl
  have d10 : ∃ fd, FunD K hfn10.name hfn10.qual hfn10.params hfn10.body hfn10.scope (hfn10.dvs K) (hfn10.kws K) (He.fAd K hfn10.at_) fd := c.def_ 10 (d := hfn10) rfl
  have d11 : ∃ fd, FunD K hfn11.name hfn11.qual hfn11.params hfn11.body hfn11.scope (hfn11.dvs K) (hfn11.kws K) (He.fAd K hfn11.at_) fd := c.def_ 11 (d := hfn11) rfl
  have d12 : ∃ fd, FunD K hfn12.name hfn12.qual hfn12.params hfn12.body hfn12.scope (hfn12.dvs K) (hfn12.kws K) (He.fAd K hfn12.at_) fd := c.def_ 12 (d := hfn12) rfl
  have d13 : ∃ fd, FunD K hfn13.name hfn13.qual hfn13.params hfn13.body hfn13.scope (hfn13.dvs K) (hfn13.kws K) (He.fAd K hfn13.at_) fd := c.def_ 13 (d := hfn13) rfl
  have d14 : ∃ fd, FunD K hfn14.name hfn14.qual hfn14.params hfn14.body hfn14.scope (hfn14.dvs K) (hfn14.kws K) (He.fAd K hfn14.at_) fd := c.def_ 14 (d := hfn14) rfl
  have d15 : ∃ fd, FunD K hfn15.name hfn15.qual hfn15.params hfn15.body hfn15.scope (hfn15.dvs K) (hfn15.kws K) (He.fAd K hfn15.at_) fd := c.def_ 15 (d := hfn15) rfl
  have d16 : ∃ fd, FunD K hfn16.name hfn16.qual hfn16.params hfn16.body hfn16.scope (hfn16.dvs K) (hfn16.kws K) (He.fAd K hfn16.at_) fd := c.def_ 16 (d := hfn16) rfl
  have d17 : ∃ fd, FunD K hfn17.name hfn17.qual hfn17.params hfn17.body hfn17.scope (hfn17.dvs K) (hfn17.kws K) (He.fAd K hfn17.at_) fd := c.def_ 17 (d := hfn17) rfl
  have d18 : ∃ fd, FunD K hfn18.name hfn18.qual hfn18.params hfn18.body hfn18.scope (hfn18.dvs K) (hfn18.kws K) (He.fAd K hfn18.at_) fd := c.def_ 18 (d := hfn18) rfl
  have d19 : ∃ fd, FunD K hfn19.name hfn19.qual hfn19.params hfn19.body hfn19.scope (hfn19.dvs K) (hfn19.kws K) (He.fAd K hfn19.at_) fd := c.def_ 19 (d := hfn19) rfl
  have d20 : ∃ fd, FunD K hfn20.name hfn20.qual hfn20.params hfn20.body hfn20.scope (hfn20.dvs K) (hfn20.kws K) (He.fAd K hfn20.at_) fd := c.def_ 20 (d := hfn20) rfl
  have d21 : ∃ fd, FunD K hfn21.name hfn21.qual hfn21.params hfn21.body hfn21.scope (hfn21.dvs K) (hfn21.kws K) (He.fAd K hfn21.at_) fd := c.def_ 21 (d := hfn21) rfl
  have d22 : ∃ fd, FunD K hfn22.name hfn22.qual hfn22.params hfn22.body hfn22.scope (hfn22.dvs K) (hfn22.kws K) (He.fAd K hfn22.at_) fd := c.def_ 22 (d := hfn22) rfl
  have d23 : ∃ fd, FunD K hfn23.name hfn23.qual hfn23.params hfn23.body hfn23.scope (hfn23.dvs K) (hfn23.kws K) (He.fAd K hfn23.at_) fd := c.def_ 23 (d := hfn23) rfl
  have d24 : ∃ fd, FunD K hfn24.name hfn24.qual hfn24.params hfn24.body hfn24.scope (hfn24.dvs K) (hfn24.kws K) (He.fAd K hfn24.at_) fd := c.def_ 24 (d := hfn24) rfl
  have d25 : ∃ fd, FunD K hfn25.name hfn25.qual hfn25.params hfn25.body hfn25.scope (hfn25.dvs K) (hfn25.kws K) (He.fAd K hfn25.at_) fd := c.def_ 25 (d := hfn25) rfl
  have d26 : ∃ fd, FunD K hfn26.name hfn26.qual hfn26.params hfn26.body hfn26.scope (hfn26.dvs K) (hfn26.kws K) (He.fAd K hfn26.at_) fd := c.def_ 26 (d := hfn26) rfl
  have d27 : ∃ fd, FunD K hfn27.name hfn27.qual hfn27.params hfn27.body hfn27.scope (hfn27.dvs K) (hfn27.kws K) (He.fAd K hfn27.at_) fd := c.def_ 27 (d := hfn27) rfl
  have d28 : ∃ fd, FunD K hfn28.name hfn28.qual hfn28.params hfn28.body hfn28.scope (hfn28.dvs K) (hfn28.kws K) (He.fAd K hfn28.at_) fd := c.def_ 28 (d := hfn28) rfl
  have d29 : ∃ fd, FunD K hfn29.name hfn29.qual hfn29.params hfn29.body hfn29.scope (hfn29.dvs K) (hfn29.kws K) (He.fAd K hfn29.at_) fd := c.def_ 29 (d := hfn29) rfl
  have d30 : ∃ fd, FunD K hfn30.name hfn30.qual hfn30.params hfn30.body hfn30.scope (hfn30.dvs K) (hfn30.kws K) (He.fAd K hfn30.at_) fd := c.def_ 30 (d := hfn30) rfl
  have d31 : ∃ fd, FunD K hfn31.name hfn31.qual hfn31.params hfn31.body hfn31.scope (hfn31.dvs K) (hfn31.kws K) (He.fAd K hfn31.at_) fd := c.def_ 31 (d := hfn31) rfl
  have d32 : ∃ fd, FunD K hfn32.name hfn32.qual hfn32.params hfn32.body hfn32.scope (hfn32.dvs K) (hfn32.kws K) (He.fAd K hfn32.at_) fd := c.def_ 32 (d := hfn32) rfl
  have d33 : ∃ fd, FunD K hfn33.name hfn33.qual hfn33.params hfn33.body hfn33.scope (hfn33.dvs K) (hfn33.kws K) (He.fAd K hfn33.at_) fd := c.def_ 33 (d := hfn33) rfl
  have d34 : ∃ fd, FunD K hfn34.name hfn34.qual hfn34.params hfn34.body hfn34.scope (hfn34.dvs K) (hfn34.kws K) (He.fAd K hfn34.at_) fd := c.def_ 34 (d := hfn34) rfl
  have d35 : ∃ fd, FunD K hfn35.name hfn35.qual hfn35.params hfn35.body hfn35.scope (hfn35.dvs K) (hfn35.kws K) (He.fAd K hfn35.at_) fd := c.def_ 35 (d := hfn35) rfl
  have d36 : ∃ fd, FunD K hfn36.name hfn36.qual hfn36.params hfn36.body hfn36.scope (hfn36.dvs K) (hfn36.kws K) (He.fAd K hfn36.at_) fd := c.def_ 36 (d := hfn36) rfl
  have d37 : ∃ fd, FunD K hfn37.name hfn37.qual hfn37.params hfn37.body hfn37.scope (hfn37.dvs K) (hfn37.kws K) (He.fAd K hfn37.at_) fd := c.def_ 37 (d := hfn37) rfl
  obtain ⟨fd0, d0⟩ := d0
  obtain ⟨fd1, d1⟩ := d1
  obtain ⟨fd2, d2⟩ := d2
  obtain ⟨fd3, d3⟩ := d3
  obtain ⟨fd4, d4⟩ := d4
  obtain ⟨fd5, d5⟩ := d5
  obtain ⟨fd6, d6⟩ := d6
  obtain ⟨fd7, d7⟩ := d7
  obtain ⟨fd8, d8⟩ := d8
  obtain ⟨fd9, d9⟩ := d9
  obtain ⟨fd10, d10⟩ := d10
  obtain ⟨fd11, d11⟩ := d11
  obtain ⟨fd12, d12⟩ := d12
  obtain ⟨fd13, d13⟩ := d13
  obtain ⟨fd14, d14⟩ := d14
  obtain ⟨fd15, d15⟩ := d15
  obtain ⟨fd16, d16⟩ := d16
  obtain ⟨fd17, d17⟩ := d17
  obtain ⟨fd18, d18⟩ := d18
  obtain ⟨fd19, d19⟩ := d19
  obtain ⟨fd20, d20⟩ := d20
  obtain ⟨fd21, d21⟩ := d21
  obtain ⟨fd22, d22⟩ := d22
  obtain ⟨fd23, d23⟩ := d23
  obtain ⟨fd24, d24⟩ := d24
  obtain ⟨fd25, d25⟩ := d25
  obtain ⟨fd26, d26⟩ := d26
  obtain ⟨fd27, d27⟩ := d27
  obtain ⟨fd28, d28⟩ := d28
  obtain ⟨fd29, d29⟩ := d29
  obtain ⟨fd30, d30⟩ := d30
  obtain ⟨fd31, d31⟩ := d31
  obtain ⟨fd32, d32⟩ := d32
  obtain ⟨fd33, d33⟩ := d33
  obtain ⟨fd34, d34⟩ := d34
  obtain ⟨fd35, d35⟩ := d35
  obtain ⟨fd36, d36⟩ := d36
  obtain ⟨fd37, d37⟩ := d37
  exact all_mk (l := PySem.Challenge.rw_pilerecall_k84_tests_of_texts_whole) X G hf
    (glo_na (c.fact 0 rfl))
    (fun_of d0)
    (glo_na (c.fact 1 rfl))
    (fun_of d1)
    (glo_na (c.fact 2 rfl))
    (fun_of d2)
    (glo_na (c.fact 3 rfl))
    (fun_of d3)
    (glo_na (c.fact 4 rfl))
    (fun_of d4)
    (glo_na (c.fact 5 rfl))
    (fun_of d5)
    (glo_na (c.fact 6 rfl))
    (fun_of d6)
    (glo_na (c.fact 7 rfl))
    (fun_of d7)
    (glo_na (c.fact 8 rfl))
    (fun_of d8)
    (glo_na (c.fact 9 rfl))
    (fun_of d9)
    (glo_na (c.fact 10 rfl))
    (fun_of d10)
    (glo_na (c.fact 11 rfl))
    (fun_of d11)
    (glo_na (c.fact 12 rfl))
    (fun_of d12)
    (glo_na (c.fact 13 rfl))
    (fun_of d13)
    (glo_na (c.fact 14 rfl))
    (fun_of d14)
    (glo_na (c.fact 15 rfl))
    (fun_of d15)
    (glo_na (c.fact 16 rfl))
    (fun_of d16)
    (glo_na (c.fact 17 rfl))
    (fun_of d17)
    (glo_na (c.fact 18 rfl))
    (fun_of d18)
    (glo_na (c.fact 19 rfl))
    (fun_of d19)
    (glo_na (c.fact 20 rfl))
    (fun_of d20)
    (glo_na (c.fact 21 rfl))
    (fun_of d21)
    (glo_na (c.fact 22 rfl))
    (fun_of d22)
    (glo_na (c.fact 23 rfl))
    (fun_of d23)
    (glo_na (c.fact 24 rfl))
    (fun_of d24)
    (glo_na (c.fact 25 rfl))
    (fun_of d25)
    (glo_na (c.fact 26 rfl))
    (fun_of d26)
    (glo_na (c.fact 27 rfl))
    (fun_of d27)
    (glo_na (c.fact 28 rfl))
    (fun_of d28)
    (glo_na (c.fact 29 rfl))
    (fun_of d29)
    (glo_na (c.fact 30 rfl))
    (fun_of d30)
    (glo_na (c.fact 31 rfl))
    (fun_of d31)
    (glo_na (c.fact 32 rfl))
    (fun_of d32)
    (glo_na (c.fact 33 rfl))
    (fun_of d33)
    (glo_na (c.fact 34 rfl))
    (fun_of d34)
    (glo_na (c.fact 35 rfl))
    (fun_of d35)
    (He.int_ok X G (c.fact 36 rfl))
    (He.int_ok X G (c.fact 37 rfl))
    (He.eqO_ok (c.fact 38 rfl))
    (He.eqO_ok (c.fact 39 rfl))
    (He.eqO_ok (c.fact 40 rfl))
    (He.eqO_ok (c.fact 41 rfl))
    (He.eqO_ok (c.fact 42 rfl))
    (He.eqO_ok (c.fact 43 rfl))
    (He.eqO_ok (c.fact 44 rfl))
    (He.eqO_ok (c.fact 45 rfl))
    (He.eqO_ok (c.fact 46 rfl))
    (He.eqO_ok (c.fact 47 rfl))
    (He.eqO_ok (c.fact 48 rfl))
    (He.eqO_ok (c.fact 49 rfl))
    (He.eqO_ok (c.fact 50 rfl))
    (He.eqO_ok (c.fact 51 rfl))
    (He.eqO_ok (c.fact 52 rfl))
    (He.eqO_ok (c.fact 53 rfl))
    (He.eqO_ok (c.fact 54 rfl))
    (glo_na (c.fact 55 rfl))
    (He.dicW_ok cx.2.2)
    (glo_na (c.fact 56 rfl))
    (glo_na (c.fact 57 rfl))
    (glo_na (c.fact 58 rfl))
    (glo_na (c.fact 59 rfl))
    (glo_na (c.fact 60 rfl))
    (glo_na (c.fact 61 rfl))
    (glo_na (c.fact 62 rfl))
    (glo_na (c.fact 63 rfl))
    (glo_na (c.fact 64 rfl))
    (glo_na (c.fact 65 rfl))
    (glo_na (c.fact 66 rfl))
    (glo_na (c.fact 67 rfl))
    (glo_na (c.fact 68 rfl))
    (glo_na (c.fact 69 rfl))
    (glo_na (c.fact 70 rfl))
    (glo_na (c.fact 71 rfl))
    (glo_na (c.fact 72 rfl))
    (glo_na (c.fact 73 rfl))
    (glo_na (c.fact 74 rfl))
    (glo_na (c.fact 75 rfl))
    (glo_na (c.fact 76 rfl))
    (glo_na (c.fact 77 rfl))
    (fun_of d36)
    (fun_of d37)
    (of_decide_eq_true (b 0 rfl))
    (of_decide_eq_true (b 1 rfl))
    (of_decide_eq_true (b 2 rfl))
    (of_decide_eq_true (b 3 rfl))
    (of_decide_eq_true (b 4 rfl))
    (of_decide_eq_true (b 5 rfl))
    (of_decide_eq_true (b 6 rfl))
    (of_decide_eq_true (b 7 rfl))
    (of_decide_eq_true (b 8 rfl))
    (of_decide_eq_true (b 9 rfl))
    (of_decide_eq_true (b 10 rfl))
    (of_decide_eq_true (b 11 rfl))
    (of_decide_eq_true (b 12 rfl))
    (of_decide_eq_true (b 13 rfl))
    (of_decide_eq_true (b 14 rfl))
    (of_decide_eq_true (b 15 rfl))
    (of_decide_eq_true (b 16 rfl))
    (of_decide_eq_true (b 17 rfl))
    (of_decide_eq_true (b 18 rfl))
    (of_decide_eq_true (b 19 rfl))
    (of_decide_eq_true (b 20 rfl))
    (of_decide_eq_true (b 21 rfl))
    (of_decide_eq_true (b 22 rfl))
    (of_decide_eq_true (b 23 rfl))
    (of_decide_eq_true (b 24 rfl))
    (of_decide_eq_true (b 25 rfl))
    (of_decide_eq_true (b 26 rfl))
    (of_decide_eq_true (b 27 rfl))
    (of_decide_eq_true (b 28 rfl))
    (of_decide_eq_true (b 29 rfl))
    (of_decide_eq_true (b 30 rfl))
    (of_decide_eq_true (b 31 rfl))
    (of_decide_eq_true (b 32 rfl))
    (of_decide_eq_true (b 33 rfl))
    (of_decide_eq_true (b 34 rfl))
    (of_decide_eq_true (b 35 rfl))
    (of_decide_eq_true (b 36 rfl))
    (of_decide_eq_true (b 37 rfl))
    (of_decide_eq_true (b 38 rfl))
    (of_decide_eq_true (b 39 rfl))
    (of_decide_eq_true (b 40 rfl))
    (of_decide_eq_true (b 41 rfl))
    (of_decide_eq_true (b 42 rfl))
    (of_decide_eq_true (b 43 rfl))
    (of_decide_eq_true (b 44 rfl))
    (of_decide_eq_true (b 45 rfl))
    (of_decide_eq_true (b 46 rfl))
    (of_decide_eq_true (b 47 rfl))
    (of_decide_eq_true (b 48 rfl))
    (of_decide_eq_true (b 49 rfl))
    (of_decide_eq_true (b 50 rfl))
    (of_decide_eq_true (b 51 rfl))
    (of_decide_eq_true (b 52 rfl))
    (of_decide_eq_true (b 53 rfl))
    (of_decide_eq_true (b 54 rfl))
    (of_decide_eq_true (b 55 rfl))
    (of_decide_eq_true (b 56 rfl))
    (of_decide_eq_true (b 57 rfl))
    (of_decide_eq_true (b 58 rfl))
    (of_decide_eq_true (b 59 rfl))
    (of_decide_eq_true (b 60 rfl))
    (of_decide_eq_true (b 61 rfl))
    (of_decide_eq_true (b 62 rfl))
    (of_decide_eq_true (b 63 rfl))
    (of_decide_eq_true (b 64 rfl))
    (of_decide_eq_true (b 65 rfl))
    (of_decide_eq_true (b 66 rfl))
    (of_decide_eq_true (b 67 rfl))
    (of_decide_eq_true (b 68 rfl))
    (of_decide_eq_true (b 69 rfl))
    (of_decide_eq_true (b 70 rfl))
    (of_decide_eq_true (b 71 rfl))
    (of_decide_eq_true (b 72 rfl))
    (of_decide_eq_true (b 73 rfl))
    (of_decide_eq_true (b 74 rfl))
    (of_decide_eq_true (b 75 rfl))
    (of_decide_eq_true (b 76 rfl))
    (of_decide_eq_true (b 77 rfl))
    (of_decide_eq_true (b 78 rfl))
    (of_decide_eq_true (b 79 rfl))
    (of_decide_eq_true (b 80 rfl))
    (of_decide_eq_true (b 81 rfl))
    (of_decide_eq_true (b 82 rfl))
    (of_decide_eq_true (b 83 rfl))
    (of_decide_eq_true (b 84 rfl))
    (of_decide_eq_true (b 85 rfl))
    (of_decide_eq_true (b 86 rfl))
    (of_decide_eq_true (b 87 rfl))
    (of_decide_eq_true (b 88 rfl))
    (of_decide_eq_true (b 89 rfl))
    (of_decide_eq_true (b 90 rfl))
    (of_decide_eq_true (b 91 rfl))
    (of_decide_eq_true (b 92 rfl))
    (of_decide_eq_true (b 93 rfl))
    (of_decide_eq_true (b 94 rfl))
    (of_decide_eq_true (b 95 rfl))
    (of_decide_eq_true (b 96 rfl))
    (of_decide_eq_true (b 97 rfl))
    (of_decide_eq_true (b 98 rfl))
    (of_decide_eq_true (b 99 rfl))
    (of_decide_eq_true (b 100 rfl))
    (of_decide_eq_true (b 101 rfl))
    (of_decide_eq_true (b 102 rfl))
    (of_decide_eq_true (b 103 rfl))
    (of_decide_eq_true (b 104 rfl))
    (of_decide_eq_true (b 105 rfl))
    (oexB_ok (b 106 rfl))
    (oexB_ok (b 107 rfl))
    (tupA_ok (b 108 rfl))
    (tupA_ok (b 109 rfl))
    (of_decide_eq_true (b 110 rfl))
    (of_decide_eq_true (b 111 rfl))
    (of_decide_eq_true (b 112 rfl))
    (of_decide_eq_true (b 113 rfl))
    (of_decide_eq_true (b 114 rfl))
    (of_decide_eq_true (b 115 rfl))
    (of_decide_eq_true (b 116 rfl))
    (of_decide_eq_true (b 117 rfl))
    (of_decide_eq_true (b 118 rfl))
    (of_decide_eq_true (b 119 rfl))
    (of_decide_eq_true (b 120 rfl))
    (of_decide_eq_true (b 121 rfl))
    (of_decide_eq_true (b 122 rfl))
    (of_decide_eq_true (b 123 rfl))
    (of_decide_eq_true (b 124 rfl))
    (of_decide_eq_true (b 125 rfl))
end Mk
open PySem PySem.W PySem.Calls PyProof.Rows
theorem PySem.Challenge.cw_pilerecall_k84_tests_of_texts_whole_holds : PySem.Challenge.rw_pilerecall_k84_tests_of_texts_whole.Holds := by
  w_on; o_law
  refine HandSHeadRun.head_any (r := OpenLaw.row PySem.Challenge.rw_pilerecall_k84_tests_of_texts_whole) (q := view (OpenLaw.row PySem.Challenge.rw_pilerecall_k84_tests_of_texts_whole).prog [64]) (H := Mk.hk) (ob := Mk.hob) (M := 12000) (loose := Mk.hnm) (d := HandSHeadRun.topDef (OpenLaw.row PySem.Challenge.rw_pilerecall_k84_tests_of_texts_whole).prog 64) (kwd := []) Mk.hob_eq
    (by kernel_rfl) (fun s => by kernel_rfl) Mk.hrun (by kernel_rfl) (by kernel_rfl) (by kernel_rfl) (by rfl) (by first | assumption | decide +kernel) (by decide +kernel) ⟨rfl, rfl, rfl, rfl, rfl, by decide +kernel⟩ ?hw ?hc
  case hw => w_witness2
  case hc =>
    refine L2.walk_ofE (l := PySem.Challenge.rw_pilerecall_k84_tests_of_texts_whole) (n := 63) (k := 8) (x := "script") (CX := L2.CX0) rfl (by decide) (by kernel_rfl) ⟨rfl, by decide, by decide⟩ ?F (fun _ _ _ _ z => z)
    intro w mg fa h Y G hmg0
    obtain ⟨K, KX, c⟩ := Y
    have hmg : mg ("law" : PySem.Str) = some (.ref fa) := by
      have e : (HandSHeadRun.topDef (OpenLaw.row PySem.Challenge.rw_pilerecall_k84_tests_of_texts_whole).prog 64).name = ("law" : PySem.Str) := by kernel_rfl
      rw [← e]
      exact hmg0
    obtain ⟨fd, hb, hF⟩ := Mk.hfacts (w := w) KX G hmg c
    exact ⟨K, fd, Mk.spLaw K, KX, hb, fun H a ns hl _ hS => ⟨a, ns, rfl, hS, fun _ => rfl⟩, hF⟩

