import PyProof.Rows.All
import Wide.All
import OpenK.AllK
import Wide.FinOn
import HandS.ForMost
import HandS.Wide
import HandS.EndBits
import HandS.IsInst
import HandS.Conv
import HandS.Defaults
import HandS.TupSets
import HandS.SetBool
import HandS.Dict
import HandS.SortOrd
import HandS.SortRule
import HandS.SetKeys
import HandS.DictComp
import PyProof.DictMoreH
import HandS.Walk
import HandS.SetFor
import HandS.SortInts
import HandS.Strs
import HandS.OwnEq
import HandS.MakeKw
import HandS.More
import HandS.Steps
import HandS.ForExc
import HandS.Codes
import HandS.Text
import HandS.Flow
import HandS.FStr
import HandS.TupAny
import PySem.Challenge.RW_pilerecall_k03_machine_notes_whole
set_option Elab.async false
set_option maxRecDepth 100000
set_option maxHeartbeats 4000000
namespace Pk
open PySem L2

/-! deep data in the heap -/
theorem Same.tup {K : PySem.W.Frag} {H H' : Hp} {a : Addr} {xs : List V} (e : Same H H') (h : SqT K H a xs) : SqT K H' a xs := by
  rcases h with (h | ⟨o, h⟩) | h
  · exact .inl (.inl (e _ _ h))
  · exact .inl (.inr ⟨o, e _ _ h⟩)
  · exact .inr h
mutual
theorem dp_mono {K : PySem.W.Frag} {H H' : Hp} (e : Same H H') : ∀ (d : PyData) (v : V), Dp K H v d → Dp K H' v d
  | .none, _, h => by cases h; exact .non
  | .bool _, _, h => by cases h; exact .bl _
  | .int _, _, h => by cases h; exact .int _
  | .str _, _, h => by cases h; exact .str _
  | .list ds, _, h => by
    cases h with
    | lst hs ha => exact .lst (e.seq hs) (dpa_mono e ds _ ha)
  | .tuple ds, _, h => by
    cases h with
    | tup hs ha => exact .tup (Same.tup e hs) (dpa_mono e ds _ ha)
  | .dict _, _, h => by cases h
theorem dpa_mono {K : PySem.W.Frag} {H H' : Hp} (e : Same H H') : ∀ (ds : List PyData) (vs : List V), DpAll K H vs ds → DpAll K H' vs ds
  | [], _, h => by cases h; exact .nil
  | d :: ds, _, h => by
    cases h with
    | cons h1 h2 => exact .cons (dp_mono e d _ h1) (dpa_mono e ds _ h2)
end
theorem dpa_len {K : PySem.W.Frag} {H : Hp} : ∀ {ds : List PyData} {vs : List V}, DpAll K H vs ds → vs.length = ds.length
  | [], _, h => by cases h; rfl
  | _ :: _, _, h => by
    cases h with
    | cons _ h2 => rw [List.length_cons, List.length_cons, dpa_len h2]
theorem dpa_get {K : PySem.W.Frag} {H : Hp} : ∀ {ds : List PyData} {vs : List V} {i : Nat} {v : V}, DpAll K H vs ds → vs[i]? = some v → ∃ d, ds[i]? = some d ∧ Dp K H v d
  | [], _, i, v, h, e => by cases h; simp at e
  | d :: ds, _, 0, v, h, e => by
    cases h with
    | cons h1 h2 => simp at e; subst e; exact ⟨d, rfl, h1⟩
  | d :: ds, _, i + 1, v, h, e => by
    cases h with
    | cons h1 h2 =>
      obtain ⟨x, e1, e2⟩ := dpa_get (i := i) (v := v) h2 (by simpa using e)
      exact ⟨x, by simpa using e1, e2⟩
theorem dpa_append {K : PySem.W.Frag} {H : Hp} : ∀ {ds es : List PyData} {vs us : List V}, DpAll K H vs ds → DpAll K H us es → DpAll K H (vs ++ us) (ds ++ es)
  | [], _, _, _, h, g => by cases h; exact g
  | _ :: _, _, _, _, h, g => by
    cases h with
    | cons h1 h2 => exact .cons h1 (dpa_append h2 g)
theorem same_new {H : Hp} {p : Addr} {o : HO} (h : H p = none) : Same H (upd H p o) := fun b u e => by
  rw [upd_ne (ne_of_none e h)]
  exact e
/-- what H0 did not know may change -/
theorem same_mut {H0 H : Hp} {p : Addr} {o : HO} (e : Same H0 H) (h : H0 p = none) : Same H0 (upd H p o) := fun b u q => by
  rw [upd_ne (ne_of_none q h)]
  exact e b u q
/-- the heap without what stands at q -/
def hide (q : Addr) (H : Hp) : Hp := fun b => if b = q then none else H b
theorem hide_ne {q b : Addr} {H : Hp} (h : b ≠ q) : hide q H b = H b := if_neg h
theorem hide_same {q : Addr} {H : Hp} : hide q H q = none := if_pos rfl
theorem hide_le {q : Addr} {H : Hp} : Same (hide q H) H := fun b o e => by
  by_cases h : b = q
  · rw [h, hide_same] at e
    cases e
  · rw [hide_ne h] at e
    exact e
theorem hide_upd {q : Addr} {H : Hp} {o : HO} : hide q (upd H q o) = hide q H := by
  funext b
  by_cases h : b = q
  · rw [h, hide_same, hide_same]
  · rw [hide_ne h, hide_ne h, upd_ne h]
theorem hide_new {q r : Addr} {H : Hp} {o : HO} (h : r ≠ q) : hide q (upd H r o) = upd (hide q H) r o := by
  funext b
  by_cases e : b = q
  · rw [e, hide_same, upd_ne h.symm, hide_same]
  · rw [hide_ne e]
    by_cases e2 : b = r
    · rw [e2, upd_same, upd_same]
    · rw [upd_ne e2, upd_ne e2, hide_ne e]
theorem hide_base {q : Addr} {H0 H : Hp} (e : Same H0 H) (h : H0 q = none) : Same H0 (hide q H) := fun b o z => by
  rw [hide_ne (ne_of_none z h)]
  exact e b o z
theorem hide_mono {q : Addr} {H H' : Hp} (e : Same H H') : Same (hide q H) (hide q H') := fun b o z => by
  by_cases h : b = q
  · rw [h, hide_same] at z
    cases z
  · rw [hide_ne h] at z ⊢
    exact e b o z
theorem hide_none {q r : Addr} {H : Hp} (h : H r = none) : hide q H r = none := by
  by_cases e : r = q
  · rw [e, hide_same]
  · rw [hide_ne e, h]
/-- of H' what H did not know -/
def newOnly (H H' : Hp) : Hp := fun b => match H b with
  | none => H' b
  | some _ => none
theorem newOnly_at {H H' : Hp} {a : Addr} {o : HO} (h : H a = none) (e : H' a = some o) : newOnly H H' a = some o := by
  unfold newOnly
  rw [h]
  exact e
theorem newOnly_hide {H H' : Hp} {q : Addr} {o : HO} (h : H q = some o) : Same (newOnly H H') (hide q H') := fun b u e => by
  unfold newOnly at e
  cases z : H b with
  | none =>
    rw [z] at e
    rw [hide_ne (ne_of_none h z).symm]
    exact e
  | some y =>
    rw [z] at e
    cases e
theorem mapInt {ns : List Int} {i : Nat} {v : V} (h : (ns.map V.int)[i]? = some v) : ∃ z, ns[i]? = some z ∧ v = V.int z := by
  rw [List.getElem?_map] at h
  cases e : ns[i]? with
  | none => rw [e] at h; cases h
  | some z => rw [e] at h; exact ⟨z, rfl, (Option.some.inj h).symm⟩

/-- the built-in names that are used -/
structure TB (mg : Str → Option Value) : Prop where
  isi : mg "isinstance" = none
  int : mg "int" = none
  bool : mg "bool" = none
  str : mg "str" = none
  tuple : mg "tuple" = none
  list : mg "list" = none
  len : mg "len" = none
  range : mg "range" = none
  sum : mg "sum" = none
  abs : mg "abs" = none

theorem lt_pow_natAbs {i : Int} {n : Nat} (h : i.natAbs < 2 ^ n) : -(2 ^ n : Int) < i ∧ i < (2 ^ n : Int) := by
  have e : ((2 ^ n : Nat) : Int) = (2 : Int) ^ n := by simp
  omega
end Pk
/-! the map x ↦ 5 x + 1 modulo a power of two runs through all places -/
namespace Sx
/-- 1 + 5 + .. + 5^(n-1) -/
def geo : Nat → Nat
  | 0 => 0
  | n + 1 => geo n * 5 + 1
theorem geo_pow : ∀ n, 4 * geo n + 1 = 5 ^ n
  | 0 => rfl
  | n + 1 => by
    have h := geo_pow n
    show 4 * (geo n * 5 + 1) + 1 = 5 ^ n * 5
    omega
theorem geo_add (a : Nat) : ∀ b, geo (a + b) = geo a * 5 ^ b + geo b
  | 0 => by show geo a = geo a * 1 + 0; omega
  | b + 1 => by
    have h := geo_add a b
    show geo (a + b) * 5 + 1 = geo a * (5 ^ b * 5) + (geo b * 5 + 1)
    rw [h, Nat.add_mul, Nat.mul_assoc]
    omega
theorem geo_odd : ∀ n, geo n % 2 = n % 2
  | 0 => rfl
  | n + 1 => by
    have h := geo_odd n
    show (geo n * 5 + 1) % 2 = (n + 1) % 2
    omega
theorem pow5_mod4 (n : Nat) : 5 ^ n % 4 = 1 := by
  have h := geo_pow n
  omega
/-- geo (2 n) = geo n times twice an odd number -/
theorem geo_two (n : Nat) : ∃ q, geo (2 * n) = geo n * (2 * (2 * q + 1)) := by
  have h4 := pow5_mod4 n
  refine ⟨5 ^ n / 4, ?_⟩
  have e : 5 ^ n + 1 = 2 * (2 * (5 ^ n / 4) + 1) := by omega
  rw [← e, show 2 * n = n + n by omega, geo_add, Nat.mul_add, Nat.mul_one]
theorem odd_drop {k a q : Nat} (h : 2 ^ k ∣ a * (2 * q + 1)) : 2 ^ k ∣ a := by
  induction k generalizing a with
  | zero => exact ⟨a, by simp⟩
  | succ k ih =>
    have h1 : 2 ^ k ∣ a * (2 * q + 1) := Nat.dvd_trans ⟨2, by rw [Nat.pow_succ]⟩ h
    obtain ⟨b, rfl⟩ := ih h1
    obtain ⟨c, hc⟩ := h
    have hp : 0 < 2 ^ k := Nat.pow_pos (by decide)
    have e : b * (2 * q + 1) = 2 * c := by
      have : 2 ^ k * (b * (2 * q + 1)) = 2 ^ k * (2 * c) := by
        rw [← Nat.mul_assoc, hc, Nat.pow_succ, Nat.mul_assoc]
      exact Nat.eq_of_mul_eq_mul_left hp this
    have e2 : b * (2 * q) + b = 2 * c := by rw [← e, Nat.mul_add, Nat.mul_one]
    have e3 : b * (2 * q) = 2 * (b * q) := by rw [← Nat.mul_assoc, Nat.mul_comm b 2, Nat.mul_assoc]
    have hb : b % 2 = 0 := by omega
    obtain ⟨d, rfl⟩ : ∃ d, b = 2 * d := ⟨b / 2, by omega⟩
    exact ⟨d, by rw [Nat.pow_succ, Nat.mul_assoc]⟩
theorem geo_dvd : ∀ (k n : Nat), 2 ^ k ∣ geo n → 2 ^ k ∣ n
  | 0, n, _ => ⟨n, by simp⟩
  | k + 1, n, h => by
    have h2 : 2 ∣ geo n := Nat.dvd_trans ⟨2 ^ k, by rw [Nat.pow_succ, Nat.mul_comm]⟩ h
    have ev : n % 2 = 0 := by
      have o := geo_odd n
      omega
    obtain ⟨m, rfl⟩ : ∃ m, n = 2 * m := ⟨n / 2, by omega⟩
    obtain ⟨q, e⟩ := geo_two m
    rw [e] at h
    have h3 : 2 ^ k ∣ geo m * (2 * q + 1) := by
      obtain ⟨c, hc⟩ := h
      refine ⟨c, ?_⟩
      have : 2 * (geo m * (2 * q + 1)) = 2 * (2 ^ k * c) := by
        have l : geo m * (2 * (2 * q + 1)) = 2 * (geo m * (2 * q + 1)) := by rw [← Nat.mul_assoc, Nat.mul_comm (geo m) 2, Nat.mul_assoc]
        rw [← l, hc, Nat.pow_succ, Nat.mul_comm (2 ^ k) 2, Nat.mul_assoc]
      exact Nat.eq_of_mul_eq_mul_left (by decide) this
    obtain ⟨c, hc⟩ := geo_dvd k m (odd_drop h3)
    exact ⟨c, by rw [hc, Nat.pow_succ, Nat.mul_comm (2 ^ k) 2, Nat.mul_assoc]⟩
/-- the n-th place from i -/
def orb (M i : Nat) : Nat → Nat
  | 0 => i
  | n + 1 => (orb M i n * 5 + 1) % M
theorem orb_val {M i : Nat} (hi : i < M) : ∀ n, orb M i n = (5 ^ n * i + geo n) % M
  | 0 => by show i = (1 * i + 0) % M; rw [Nat.one_mul, Nat.add_zero, Nat.mod_eq_of_lt hi]
  | n + 1 => by
    show (orb M i n * 5 + 1) % M = (5 ^ n * 5 * i + (geo n * 5 + 1)) % M
    rw [orb_val hi n, Nat.add_mod, Nat.mul_mod, Nat.mod_mod, ← Nat.mul_mod, ← Nat.add_mod]
    congr 1
    rw [Nat.add_mul, Nat.mul_right_comm]
    omega
theorem mod_eq_dvd {M a b : Nat} (h : a % M = b % M) : M ∣ b - a := by
  have e : (b - a) % M = 0 := Nat.sub_mod_eq_zero_of_mod_eq h.symm
  exact Nat.dvd_of_mod_eq_zero e
theorem orb_inj {k i a b : Nat} (hi : i < 2 ^ k) (hab : a ≤ b) (hb : b < 2 ^ k) (h : orb (2 ^ k) i a = orb (2 ^ k) i b) : a = b := by
  rw [orb_val hi, orb_val hi] at h
  have d := mod_eq_dvd h
  obtain ⟨c, rfl⟩ : ∃ c, b = c + a := ⟨b - a, by omega⟩
  have ga := geo_pow a
  have gb := geo_pow (c + a)
  have gs := geo_add c a
  have e : 5 ^ (c + a) * i + geo (c + a) - (5 ^ a * i + geo a) = geo c * 5 ^ a * (2 * (2 * i) + 1) := by
    have l : geo (c + a) = geo c * 5 ^ a + geo a := gs
    rw [← gb, l]
    generalize geo c * 5 ^ a = x
    rw [← ga]
    have e1 : (4 * (x + geo a) + 1) * i = 4 * (x * i) + (4 * geo a + 1) * i := by
      rw [Nat.mul_add, Nat.add_assoc, Nat.add_mul, Nat.mul_assoc]
    have e2 : x * (2 * (2 * i) + 1) = 4 * (x * i) + x := by
      rw [Nat.mul_add, Nat.mul_one, ← Nat.mul_assoc 2 2 i, Nat.mul_left_comm]
    rw [e1, e2]
    omega
  rw [e] at d
  have d2 := odd_drop d
  obtain ⟨q, hq⟩ : ∃ q, 5 ^ a = 2 * q + 1 := ⟨5 ^ a / 2, by have := pow5_mod4 a; omega⟩
  rw [hq] at d2
  obtain ⟨t, ht⟩ := geo_dvd k c (odd_drop d2)
  cases t with
  | zero => rw [Nat.mul_zero] at ht; omega
  | succ t =>
    have : 2 ^ k ≤ c := by rw [ht, Nat.mul_succ]; omega
    omega
theorem nd_len {α : Type} [DecidableEq α] : ∀ (l D : List α), l.Nodup → (∀ x ∈ l, x ∈ D) → l.length ≤ D.length
  | [], _, _, _ => Nat.zero_le _
  | a :: l, D, h, s => by
    have ha := s a List.mem_cons_self
    have hn := List.nodup_cons.mp h
    have ih := nd_len l (D.erase a) hn.2 fun x hx => (List.mem_erase_of_ne (fun e => hn.1 (by rw [← e]; exact hx))).2 (s x (List.mem_cons_of_mem _ hx))
    rw [List.length_erase_of_mem ha] at ih
    have : 0 < D.length := List.length_pos_of_mem ha
    rw [List.length_cons]
    omega
theorem orb_lt {M i : Nat} (hi : i < M) : ∀ n, orb M i n < M
  | 0 => hi
  | _ + 1 => Nat.mod_lt _ (by omega)
/-- every place is met -/
theorem orb_all {k i j : Nat} (hi : i < 2 ^ k) (hj : j < 2 ^ k) : ∃ n, n < 2 ^ k ∧ orb (2 ^ k) i n = j := by
  apply Classical.byContradiction
  intro no
  have miss : ∀ n, n < 2 ^ k → orb (2 ^ k) i n ≠ j := fun n hn e => no ⟨n, hn, e⟩
  have nd : (j :: (List.range (2 ^ k)).map (orb (2 ^ k) i)).Nodup := by
    refine List.nodup_cons.mpr ⟨fun hm => ?_, ?_⟩
    · obtain ⟨n, hn, e⟩ := List.mem_map.mp hm
      exact miss n (List.mem_range.mp hn) e
    · refine List.Pairwise.map _ (fun a b h => h) ?_
      refine List.Pairwise.imp_of_mem ?_ (List.nodup_range (n := 2 ^ k))
      intro a b ha hb hne e
      have ha' := List.mem_range.mp ha
      have hb' := List.mem_range.mp hb
      rcases Nat.le_total a b with c | c
      · exact hne (orb_inj hi c hb' e)
      · exact hne (orb_inj hi c ha' e.symm).symm
  have l := nd_len _ (List.range (2 ^ k)) nd fun x hx => by
    rcases List.mem_cons.mp hx with rfl | hx
    · exact List.mem_range.mpr hj
    · obtain ⟨n, _, rfl⟩ := List.mem_map.mp hx
      exact List.mem_range.mpr (orb_lt hi n)
  rw [List.length_cons, List.length_map, List.length_range] at l
  omega
end Sx
set_option linter.all false
set_option maxRecDepth 100000
/-! sets whose table has any mask 2^k - 1: the search finds what stands there -/
namespace Sx
open PySem PyProof.Rows L2

/-- the masks of tables of fewer than some thousand items -/
def MaskG (m : Nat) : Prop := ∃ k, 3 ≤ k ∧ k ≤ 13 ∧ m + 1 = 2 ^ k
theorem MaskG.odd {m : Nat} (h : MaskG m) : m % 2 = 1 := by
  obtain ⟨k, h3, _, e⟩ := h
  obtain ⟨q, rfl⟩ : ∃ q, k = q + 1 := ⟨k - 1, by omega⟩
  rw [Nat.pow_succ] at e
  omega
theorem MaskG.top {m : Nat} (h : MaskG m) : m ≤ 8191 := by
  obtain ⟨k, _, h13, e⟩ := h
  have q : 2 ^ k ≤ 2 ^ 13 := Nat.pow_le_pow_right (by decide) h13
  have z : (2 : Nat) ^ 13 = 8192 := by decide
  omega
theorem lcg_is_orb (m i : Nat) : ∀ n, lcgI m i n = orb (m + 1) i n
  | 0 => rfl
  | n + 1 => by
    show (lcgI m i n * 5 + 1) % (m + 1) = (orb (m + 1) i n * 5 + 1) % (m + 1)
    rw [lcg_is_orb m i n]
theorem runs_come {m : Nat} (g : MaskG m) (h : Int) {j : Nat} (hj : j ≤ m) : ∃ n, n ≤ m + 12 ∧ runI m (SetTable.bits h) n = j := by
  obtain ⟨k, _, _, e⟩ := g
  have lo := runI_le m (SetTable.bits h) 12
  obtain ⟨n, hn, q⟩ := orb_all (k := k) (i := runI m (SetTable.bits h) 12) (j := j) (by omega) (by omega)
  refine ⟨12 + n, by omega, ?_⟩
  rw [runI_tail (bits_lt h), lcg_is_orb, e]
  exact q
theorem slots_come {m : Nat} (g : MaskG m) (h : Int) {j : Nat} (hj : j ≤ m) : ∃ k, k < 10 * SetTable.turns m ∧ way m h k = j := by
  obtain ⟨n, a, b⟩ := runs_come g h hj
  obtain ⟨k, c, d⟩ := run_nth m (SetTable.bits h) n
  have t : SetTable.turns m = m + 15 := rfl
  refine ⟨k, by omega, ?_⟩
  show (nth m (runAt m (SetTable.bits h % (m + 1)) (SetTable.bits h)) k).j = j
  rw [d]
  exact b
theorem way_in {m : Nat} {h : Int} {k : Nat} : way m h k ≤ m := by
  have first : SetTable.bits h % (m + 1) ≤ m := Nat.le_of_lt_succ (Nat.mod_lt _ (Nat.succ_pos _))
  have q := runEnd_bd first
  have z := nth_in k (runAt m (SetTable.bits h % (m + 1)) (SetTable.bits h)) (m := m) (show SetTable.bits h % (m + 1) + (SetTable.runEnd m (SetTable.bits h % (m + 1)) - SetTable.bits h % (m + 1)) ≤ m by omega)
  exact Nat.le_trans (Nat.le_add_right _ _) z

/-- each item's slot is found from its hash -/
structure Tab (t : SetTable) (hs : List Int) : Prop where
  up : Ris t.place.toList
  clean : t.dummies = #[]
  size : t.place.size = hs.length
  mask : MaskG t.mask
  le : ∀ x ∈ t.place.toList, x ≤ t.mask
  found : ∀ (i : Nat) (h : Int) (j : Nat), hs[i]? = some h → t.place.toList[i]? = some j → ∃ k, way t.mask h k = j ∧ ∀ c, c < k → way t.mask h c ∈ t.place.toList

section
variable {t : SetTable} {hs : List Int}
theorem Tab.gap (T : Tab t hs) (few : hs.length ≤ t.mask) (h : Int) : ∃ K, K < 10 * SetTable.turns t.mask ∧ way t.mask h K ∉ t.place.toList ∧ ∀ k, k < K → way t.mask h k ∈ t.place.toList := by
  have size := T.size
  obtain ⟨j, lt, no⟩ := st_missing t.place.toList (t.mask + 1) (by rw [Array.length_toList]; omega)
  obtain ⟨k, hk, rfl⟩ := slots_come T.mask h (Nat.le_of_lt_succ lt)
  obtain ⟨K, le, nK, below⟩ := st_least (p := fun k => way t.mask h k ∉ t.place.toList) k no
  exact ⟨K, by omega, nK, fun c hc => Classical.byContradiction (below c hc)⟩
theorem Tab.sooner (T : Tab t hs) {h : Int} {K i j : Nat} (nK : way t.mask h K ∉ t.place.toList) (hi : hs[i]? = some h) (hj : t.place.toList[i]? = some j) : ∃ k, k < K ∧ way t.mask h k = j := by
  obtain ⟨k, e, all⟩ := T.found i h j hi hj
  refine ⟨k, Nat.lt_of_not_le fun le => ?_, e⟩
  rcases Nat.lt_or_eq_of_le le with c | c
  · exact nK (all K c)
  · exact nK (by rw [c, e]; exact List.mem_of_getElem? hj)
/-- one more, at the first gap of its way -/
theorem Tab.one_more (T : Tab t hs) {h : Int} {K : Nat} (nK : way t.mask h K ∉ t.place.toList) (all : ∀ k, k < K → way t.mask h k ∈ t.place.toList) :
    SetTable.below t.place (way t.mask h K) ≤ hs.length ∧
    Tab (t.put (way t.mask h K)).1 (hs.take (SetTable.below t.place (way t.mask h K)) ++ h :: hs.drop (SetTable.below t.place (way t.mask h K))) ∧
    (t.put (way t.mask h K)).1.fill = hs.length + 1 := by
  have inside : way t.mask h K ≤ t.mask := way_in
  generalize ej : way t.mask h K = j at nK inside ⊢
  obtain ⟨low, _, _⟩ := below_cut T.up j
  have ps := T.size
  have lp : SetTable.below t.place j ≤ t.place.toList.length := by rw [Array.length_toList]; exact low
  have lh : SetTable.below t.place j ≤ hs.length := ps ▸ low
  have pl := put_place t j
  have keep : ∀ {x : Nat}, x ∈ t.place.toList → x ∈ (t.put j).1.place.toList := fun m => by rw [pl]; exact mem_ins.2 (.inr m)
  have sz : (t.put j).1.place.size = hs.length + 1 := by
    rw [← Array.length_toList, pl, len_ins _ lp, Array.length_toList, ps]
  have nw : t.place[SetTable.below t.place j]? ≠ some j := fun e => nK (List.mem_of_getElem? (by rw [Array.getElem?_toList]; exact e))
  refine ⟨lh, ?_, ?_⟩
  · constructor
    · exact ris_insert T.up nw
    · exact put_dm T.clean j
    · rw [len_ins _ lh]; exact sz
    · exact T.mask
    · intro x m
      rw [pl] at m
      rcases mem_ins.1 m with e | m
      · rw [e]; exact inside
      · exact T.le x m
    · intro i h' j' e1 e2
      rw [tins_get hs lh] at e1
      rw [pl, tins_get _ lp] at e2
      show ∃ k, way t.mask h' k = j' ∧ ∀ c, c < k → way t.mask h' c ∈ (t.put j).1.place.toList
      split at e1
      · rename_i c
        rw [if_pos c] at e2
        obtain ⟨k, e, z⟩ := T.found i h' j' e1 e2
        exact ⟨k, e, fun q hq => keep (z q hq)⟩
      · rename_i c
        rw [if_neg c] at e2
        split at e1
        · rename_i d
          rw [if_pos d] at e2
          cases e1
          cases e2
          exact ⟨K, ej, fun q hq => keep (all q hq)⟩
        · rename_i d
          rw [if_neg d] at e2
          obtain ⟨k, e, z⟩ := T.found (i - 1) h' j' e1 e2
          exact ⟨k, e, fun q hq => keep (z q hq)⟩
  · show (t.put j).1.place.size + (t.put j).1.dummies.size = hs.length + 1
    rw [put_dm T.clean j, sz] <;> rfl
end

/-! ### all laid anew -/
theorem gap_found {m : Nat} (g : MaskG m) (owner : Array (Option Nat)) (h : Int) {j : Nat} (hj : j ≤ m) (free : oAt owner j = none) :
    ∃ K, SetTable.layClean.free m owner (SetTable.turns m) (SetTable.bits h % (m + 1)) (SetTable.bits h) = some (way m h K) ∧ oAt owner (way m h K) = none ∧ ∀ k, k < K → oAt owner (way m h k) ≠ none := by
  obtain ⟨n, le, e⟩ := runs_come g h hj
  generalize hb : SetTable.bits h = b at e
  have st : way m h (off m (b % (m + 1)) b n) = j := by
    unfold way
    rw [hb, nth_off, itL_run]
    exact e
  have free' : oAt owner (way m h (off m (b % (m + 1)) b n)) = none := by rw [st]; exact free
  obtain ⟨K, leK, eK, below⟩ := st_least (p := fun k => oAt owner (way m h k) = none) _ free'
  have wb : ∀ k, way m h k = (nth m (runAt m (b % (m + 1)) b) k).j := fun k => by unfold way; rw [hb]
  refine ⟨K, ?_, eK, below⟩
  have q := free_spec m owner (SetTable.turns m) n (b % (m + 1)) b K (show n < m + 15 by omega) leK (fun k hk => ?_) ?_
  · rw [q, wb]
  · rw [← wb, Option.isNone_eq_false_iff, Option.isSome_iff_ne_none]
    exact below k hk
  · rw [← wb, eK] <;> rfl
theorem own_step {m : Nat} (g : MaskG m) {done : List Int} {owner : Array (Option Nat)} (W : Own m done owner) (few : done.length ≤ m) (h : Int) :
    ∃ j, SetTable.layClean.free m owner (SetTable.turns m) (SetTable.bits h % (m + 1)) (SetTable.bits h) = some j ∧ Own m (done ++ [h]) (owner.setIfInBounds j (some done.length)) := by
  obtain ⟨ps, lps, cov⟩ := W.ps
  obtain ⟨j0, lt0, nin⟩ := st_missing ps (m + 1) (by omega)
  have f0 : oAt owner j0 = none := Classical.byContradiction fun z => nin (cov j0 (Nat.le_of_lt_succ lt0) z)
  obtain ⟨K, got, fK, below⟩ := gap_found g owner h (Nat.le_of_lt_succ lt0) f0
  have le : way m h K ≤ m := way_in
  have osz := W.sz
  have self := oAt_set_self (owner := owner) (j := way m h K) (some done.length) (by omega)
  refine ⟨_, got, ?_⟩
  generalize ep : way m h K = p at got fK le self ⊢
  have more : ∀ {i : Nat}, oAt owner i ≠ none → oAt (owner.setIfInBounds p (some done.length)) i ≠ none := fun {i} ne => by
    by_cases c : i = p
    · subst c; rw [self]; exact Option.some_ne_none _
    · rw [oAt_set_ne _ c]; exact ne
  have osz2 : (owner.setIfInBounds p (some done.length)).size = m + 1 := by rw [Array.size_setIfInBounds]; exact osz
  constructor
  · exact osz2
  · intro j k hj e
    by_cases c : j = p
    · subst c
      rw [self] at e
      cases e
      exact ⟨h, K, by simp, ep, fun q hq => more (below q hq)⟩
    · rw [oAt_set_ne _ c] at e
      obtain ⟨x, k0, e1, e2, e3⟩ := W.at_ j k hj e
      have lt := (List.getElem?_eq_some_iff.mp e1).1
      exact ⟨x, k0, by rw [List.getElem?_append_left lt]; exact e1, e2, fun q hq => more (e3 q hq)⟩
  · intro k hk
    rcases Nat.lt_or_ge k done.length with c | c
    · obtain ⟨j, hj, e⟩ := W.all k c
      have np : j ≠ p := fun z => by rw [z, fK] at e; cases e
      exact ⟨j, hj, by rw [oAt_set_ne _ np]; exact e⟩
    · rw [List.length_append] at hk
      have ek : done.length = k := by
        have : [h].length = 1 := rfl
        omega
      exact ⟨p, le, by rw [self, ek]⟩
  · refine ⟨p :: ps, by simp [lps], fun j hj ne => ?_⟩
    by_cases c : j = p
    · exact c ▸ List.mem_cons_self
    · rw [oAt_set_ne _ c] at ne
      exact List.mem_cons_of_mem _ (cov j hj ne)
theorem lay_some {m : Nat} (g : MaskG m) : ∀ (rest done : List Int) (owner : Array (Option Nat)), Own m done owner → done.length + rest.length ≤ m →
    ∃ o2, rest.foldl (stepF m) (some (owner, done.length)) = some (o2, (done ++ rest).length) ∧ Own m (done ++ rest) o2 := by
  intro rest
  induction rest with
  | nil => intro done owner W _; exact ⟨owner, by simp, by simpa using W⟩
  | cons h rest ih =>
    intro done owner W le
    have l1 : (h :: rest).length = rest.length + 1 := rfl
    have l2 : (done ++ [h]).length = done.length + 1 := by simp
    obtain ⟨j, e, W2⟩ := own_step g W (by omega) h
    obtain ⟨o2, f, W3⟩ := ih (done ++ [h]) _ W2 (by omega)
    rw [l2] at f
    have ap : done ++ [h] ++ rest = done ++ h :: rest := by simp
    rw [ap] at f W3
    exact ⟨o2, by rw [List.foldl_cons, stepF_some e]; exact f, W3⟩
theorem lay_clean {m : Nat} (g : MaskG m) {hs : Array Int} (few : hs.size ≤ m) : ∃ owner, SetTable.layClean m hs = some owner ∧ Own m hs.toList owner := by
  obtain ⟨owner, f, W⟩ := lay_some g hs.toList [] _ (Own.init m) (by simpa using few)
  refine ⟨owner, ?_, by simpa using W⟩
  rw [layClean_eq, show (some (Array.replicate (m + 1) (none : Option Nat), 0)) = some (Array.replicate (m + 1) none, ([] : List Int).length) from rfl, f] <;> rfl
/-- the table laid anew -/
theorem laid_anew (t : SetTable) {hs : Array Int} {wanted M : Nat} (hw : SetTable.sizeAbove wanted - 1 = M) (g : MaskG M) (few : hs.size ≤ M) :
    ∃ t2 order, t.relaid hs wanted = some (t2, order) ∧ order.toList.Perm (List.range hs.size) ∧ Tab t2 (order.toList.map fun i => hs.getD i 0) ∧ t2.mask = M ∧ t2.led = t.led ∧ t2.plain = t.plain := by
  obtain ⟨owner, e, W⟩ := lay_clean g few
  have rel : t.relaid hs wanted = some (tabOf t M owner, ((liveOf M owner).map (·.2)).toArray) := by rw [relaid_eq, hw, e] <;> rfl
  obtain ⟨up, inr⟩ := ris_live (fun j => owner.getD j none) (List.range (M + 1)) (by unfold Ris; exact List.pairwise_lt_range)
  have up' : Ris ((liveOf M owner).map (·.1)) := up
  have inr' : ∀ x ∈ (liveOf M owner).map (·.1), x ∈ List.range (M + 1) := inr
  have dist : ((liveOf M owner).map (·.1)).Nodup := up'.imp fun lt => Nat.ne_of_lt lt
  have len : (liveOf M owner).length = hs.size := by
    obtain ⟨ps, lps, cov⟩ := W.ps
    have a : (liveOf M owner).length ≤ ps.length := by
      have z := nd_len ((liveOf M owner).map (·.1)) ps dist fun x hx => by
        obtain ⟨⟨y, k⟩, hq, ey⟩ := List.mem_map.mp hx
        cases ey
        obtain ⟨le, own⟩ := (mem_live W.sz).1 hq
        exact cov y le (by rw [own]; exact Option.some_ne_none _)
      rwa [List.length_map] at z
    have b : hs.size ≤ (liveOf M owner).length := by
      have z := nd_len (List.range hs.size) ((liveOf M owner).map (·.2)) List.nodup_range fun k hk => by
        obtain ⟨j, le, own⟩ := W.all k (by simpa using hk)
        exact List.mem_map.mpr ⟨(j, k), (mem_live W.sz).2 ⟨le, own⟩, rfl⟩
      rwa [List.length_map, List.length_range] at z
    have c : hs.toList.length = hs.size := rfl
    omega
  refine ⟨_, _, rel, ?_, ?_, rfl, rfl, rfl⟩
  · refine perm_range hs.size _ (by show ((liveOf M owner).map (·.2)).length = hs.size; rw [List.length_map, len]) fun k hk => ?_
    obtain ⟨j, le, own⟩ := W.all k (by simpa using hk)
    exact List.mem_map.mpr ⟨(j, k), (mem_live W.sz).2 ⟨le, own⟩, rfl⟩
  · constructor
    · exact up'
    · rfl
    · show ((liveOf M owner).map (·.1)).toArray.size = (((liveOf M owner).map (·.2)).map fun i => hs.getD i 0).length
      simp
    · exact g
    · intro x hx
      exact Nat.le_of_lt_succ (List.mem_range.mp (inr' x hx))
    · intro i h j e1 e2
      have e1' : (((liveOf M owner).map (·.2)).map fun i => hs.getD i 0)[i]? = some h := e1
      have e2' : ((liveOf M owner).map (·.1))[i]? = some j := e2
      rw [List.getElem?_map, List.getElem?_map] at e1'
      rw [List.getElem?_map] at e2'
      rcases hq : (liveOf M owner)[i]? with _ | ⟨y, k⟩
      · rw [hq] at e2'; cases e2'
      · rw [hq] at e1' e2'
        cases e2'
        have eh : hs.getD k 0 = h := Option.some.inj e1'
        obtain ⟨le, own⟩ := (mem_live W.sz).1 (List.mem_of_getElem? hq)
        obtain ⟨x, K, f1, f2, f3⟩ := W.at_ y k le own
        have ex : x = h := by
          rw [← eh, Array.getD_eq_getD_getElem?, ← Array.getElem?_toList, f1] <;> rfl
        subst ex
        refine ⟨K, f2, fun c hc => ?_⟩
        show way M x c ∈ (liveOf M owner).map (·.1)
        rcases z : oAt owner (way M x c) with _ | k2
        · exact absurd z (f3 c hc)
        · exact List.mem_map.mpr ⟨(way M x c, k2), (mem_live W.sz).2 ⟨way_in, z⟩, rfl⟩
/-- the size of a new table: a power of two above what is wanted -/
theorem size_go (n : Nat) : ∀ (f k : Nat), n < 2 ^ (k + f) → 3 ≤ k → (k = 3 ∨ 2 ^ (k - 1) ≤ n) → ∃ q, 3 ≤ q ∧ SetTable.sizeAbove.go n f (2 ^ k) = 2 ^ q ∧ n < 2 ^ q ∧ (q = 3 ∨ 2 ^ (q - 1) ≤ n)
  | 0, k, h, h3, c => ⟨k, h3, rfl, h, c⟩
  | f + 1, k, h, h3, c => by
    have e : SetTable.sizeAbove.go n (f + 1) (2 ^ k) = if 2 ^ k ≤ n then SetTable.sizeAbove.go n f (2 ^ k * 2) else 2 ^ k := rfl
    rw [e]
    by_cases le : 2 ^ k ≤ n
    · rw [if_pos le, ← Nat.pow_succ]
      exact size_go n f (k + 1) (by rw [show k + 1 + f = k + (f + 1) by omega]; exact h) (by omega) (.inr le)
    · rw [if_neg le]
      exact ⟨k, h3, rfl, by omega, c⟩
theorem size_above {n : Nat} (h : n ≤ 6400) : ∃ q, 3 ≤ q ∧ q ≤ 13 ∧ SetTable.sizeAbove n = 2 ^ q ∧ n < 2 ^ q := by
  obtain ⟨q, h3, e, lt, c⟩ := size_go n 64 3 (Nat.lt_of_le_of_lt h (by decide)) (Nat.le_refl _) (.inl rfl)
  refine ⟨q, h3, ?_, e, lt⟩
  rcases c with c | c
  · omega
  · refine Nat.le_of_not_lt fun z => ?_
    have y : 2 ^ 13 ≤ 2 ^ (q - 1) := Nat.pow_le_pow_right (by decide) (by omega)
    have x : (2 : Nat) ^ 13 = 8192 := by decide
    omega
end Sx
set_option linter.all false
set_option maxRecDepth 100000
/-! sets of tuples of ints and texts -/
namespace Sx
open PySem PySem.Spec PyProof.Rows L2

abbrev MixT (P : Program) (w : World) (h : Heap) (k : List Key) (a : Addr) : Prop := IsTupleKey (mixKind P w) h k a
abbrev mh (P : Program) (w : World) (k : List Key) : Int := tupleKeyHash (mixKind P w) k
/-- ints and texts: no class of the program's, hashed by value -/
def Flat (v : Value) : Prop := (∃ i t, v = Value.int i t) ∨ ∃ x t, v = Value.str x t
theorem Flat.noClass {v : Value} (n : Nat) (h : Flat v) : ofAClassStatement n v = pure false := by
  rcases h with ⟨i, t, rfl⟩ | ⟨x, t, rfl⟩ <;> cases n <;> rfl
theorem strNotByVal (n : Nat) (x : Str) (t : Tok) : hashByValue n (.str x t) = pure false := by
  unfold hashByValue; rfl
section
variable {P : Program} {w : World} {A : Around} {E : Value → Shared → Prop} {s : Shared}
theorem flat_items {k : List Key} {vs : List Value} (h : ItemsAre (mixKind P w) k vs) : ∀ v ∈ vs, Flat v := by
  induction h with
  | nil => exact fun v m => absurd m List.not_mem_nil
  | cons h1 _ ih =>
    intro v m
    rcases List.mem_cons.mp m with rfl | m
    · rcases keyIs_shape h1 with ⟨i, t, _, e⟩ | ⟨x, t, _, e⟩
      · exact .inl ⟨i, t, e⟩
      · exact .inr ⟨x, t, e⟩
    · exact ih v m
theorem noClass_mix {k : List Key} {b : Addr} {Q : Bool → Shared → Prop} (hk : MixT P w s.heap k b) (h : Q false s) : wpAny (model P w) A (ofAClassStatement 8 (.ref b)) Q E s := by
  have ty := hk.typeIs
  obtain ⟨o, items, n, ho, _, hd, hi⟩ := hk
  unfold ofAClassStatement
  refine wpAny_bind (wpAny_typeOf ty ?_)
  dsimp only
  simp only [show (("tuple" : String) == "tuple") = true from by decide, if_true, Bool.not_true, Bool.false_eq_true, if_false]
  try refine wpAny_bind (wpAny_pure ?_)
  try simp only [Bool.not_true, Bool.false_eq_true, if_false]
  refine wpAny_bind (show wpAny _ _ (seqItems? (.ref b)) _ _ s from wpAny_seqItems ho hd ?_)
  dsimp only
  refine wpAny_bind (show wpAny _ _ (forIn items _ _) _ _ s from ?_)
  rw [← Array.forIn_toList]
  refine wpAny_forIn_list _ (fun rest r s' => s' = s ∧ r.1 = none ∧ ∀ v ∈ rest, Flat v) _ ?_ ?_ _ _ ⟨rfl, rfl, flat_items hi⟩
  · rintro v rest r s' ⟨rfl, hr, all⟩
    rw [(all v List.mem_cons_self).noClass]
    refine wpAny_bind (wpAny_pure ?_)
    simp only [Bool.false_eq_true, if_false]
    exact wpAny_pure ⟨rfl, rfl, fun u m => all u (List.mem_cons_of_mem _ m)⟩
  · rintro ⟨r1, r2⟩ s' ⟨rfl, hr, _⟩
    cases (show r1 = none from hr)
    exact wpAny_pure h
theorem byVal_mix {k : List Key} {b : Addr} {Q : Bool → Shared → Prop} (hk : MixT P w s.heap k b) (h : ∀ c, Q c s) : wpAny (model P w) A (hashByValue 8 (.ref b)) Q E s := by
  have ty := hk.typeIs
  obtain ⟨o, items, n, ho, _, hd, hi⟩ := hk
  unfold hashByValue
  refine wpAny_bind (wpAny_specialOf ty F.slot_tuple_hash.lookup ?_)
  refine wpAny_bind (show wpAny _ _ (seqItems? (.ref b)) _ _ s from wpAny_seqItems ho hd ?_)
  refine wpAny_bind (show wpAny _ _ (forIn items _ _) _ _ s from ?_)
  rw [← Array.forIn_toList]
  refine wpAny_forIn_list _ (fun rest r s' => s' = s ∧ r.1 = none ∧ ∀ v ∈ rest, Flat v) _ ?_ ?_ _ _ ⟨rfl, rfl, flat_items hi⟩
  · rintro v rest r s' ⟨rfl, hr, all⟩
    rcases all v List.mem_cons_self with ⟨i, t, rfl⟩ | ⟨x, t, rfl⟩
    · rw [hashBy_int]
      refine wpAny_bind (wpAny_pure ?_)
      simp only [Bool.not_true, Bool.false_eq_true, if_false]
      exact wpAny_pure ⟨rfl, rfl, fun u m => all u (List.mem_cons_of_mem _ m)⟩
    · rw [strNotByVal]
      refine wpAny_bind (wpAny_pure ?_)
      simp only [Bool.not_false, if_true]
      exact wpAny_pure (wpAny_pure (h false))
  · rintro ⟨r1, r2⟩ s' ⟨rfl, hr, _⟩
    cases (show r1 = none from hr)
    exact wpAny_pure (h true)
/-- a search among such tuples shows nothing -/
theorem unseen_mix {k : List Key} {b : Addr} {Q : Bool → Shared → Prop} (hk : MixT P w s.heap k b) {ys : List Value} (hy : ∀ y ∈ ys, ∃ k2 c, y = Value.ref c ∧ MixT P w s.heap k2 c) (h : Q false s) :
    wpAny (model P w) A (searchCouldBeSeen (.ref b) ys) Q E s := by
  unfold searchCouldBeSeen
  refine wpAny_bind (wpAny_forIn_list _ (fun rest r s' => s' = s ∧ r.1 = none ∧ ∀ y ∈ rest, ∃ k2 c, y = Value.ref c ∧ MixT P w s.heap k2 c) _ ?_ ?_ _ _ ⟨rfl, rfl, hy⟩)
  · rintro v rest r s' ⟨rfl, hr, all⟩
    obtain ⟨k2, c, rfl, hc⟩ := all v List.mem_cons_self
    have all2 := fun u m => all u (List.mem_cons_of_mem (Value.ref c) m)
    dsimp only
    by_cases hv : (b == c || (carriedByValue (.ref b) && carriedByValue (.ref c))) = true
    · exact wp_if_pos hv (wpAny_pure ⟨rfl, rfl, all2⟩)
    · refine wp_if_neg hv (wpAny_bind (wpAny_eqIsQuiet_tuple hk ?_))
      simp only [Bool.not_true, Bool.false_eq_true, if_false]
      refine wpAny_bind (wpAny_eqIsQuiet_tuple hc ?_)
      simp only [Bool.not_true, Bool.false_eq_true, if_false]
      refine wpAny_bind (noClass_mix hk ?_)
      simp only [Bool.false_eq_true, if_false]
      refine wpAny_bind (noClass_mix hc ?_)
      simp only [Bool.false_eq_true, if_false]
      exact wpAny_pure ⟨rfl, rfl, all2⟩
  · rintro ⟨r1, r2⟩ s' ⟨rfl, hr, _⟩
    cases (show r1 = none from hr)
    exact wpAny_pure h

/-! ### what the set is -/
abbrev Rows := List (Addr × List Key)
def cells (P : Program) (w : World) (L : Rows) : List (Int × Value) := L.map fun p => (mh P w p.2, Value.ref p.1)
theorem cells_len (L : Rows) : (cells P w L).length = L.length := List.length_map ..
structure MSet (P : Program) (w : World) (h : Heap) (a : Addr) (L : Rows) (es : Array (Int × Value)) (ep : Nat) (t : SetTable) : Prop where
  ob : ∃ o, h.get? a = some o ∧ o.ExactSet ∧ o.data = .set es ep t
  rows : es.toList = cells P w L
  tab : Tab t (L.map fun p => mh P w p.2)
  nd : (L.map (·.2)).Nodup
  tup : ∀ p ∈ L, MixT P w h p.2 p.1
  led : w.params.followText "set-order" = true ∨ t.led = true
  room : L.length * 5 < t.mask * 3
  few : L.length ≤ 1500
variable {a : Addr} {L : Rows} {es : Array (Int × Value)} {ep : Nat} {t : SetTable}
theorem cells_size (r : es.toList = cells P w L) : es.size = L.length := by
  rw [← Array.length_toList, r, cells_len]
theorem MSet.fits (R : MSet P w s.heap a L es ep t) : t.fits es.size = true := by
  have ts := R.tab.size
  have room := R.room
  rw [List.length_map] at ts
  rw [cells_size R.rows]
  unfold SetTable.fits SetTable.fill
  rw [R.tab.clean]
  simp
  omega
theorem cells_at (r : es.toList = cells P w L) {i : Nat} {p : Addr × List Key} (h : L[i]? = some p) : es[i]? = some (mh P w p.2, Value.ref p.1) := by
  rw [← Array.getElem?_toList, r]
  unfold cells
  rw [List.getElem?_map, h] <;> rfl
theorem MSet.steady (R : MSet P w s.heap a L es ep t) : ¬ t.gaveWay = true := by
  unfold SetTable.gaveWay
  rw [R.tab.mask.odd]
  decide

/-- the probe's start for a hash -/
abbrev pst (t : SetTable) (h : Int) (c : Nat) : SetTable.Probe := nth t.mask (runAt t.mask (SetTable.bits h % (t.mask + 1)) (SetTable.bits h)) c
theorem pst_add (t : SetTable) (h : Int) (c q : Nat) : nth t.mask (pst t h c) q = pst t h (c + q) := (nth_add t.mask c _ q).symm
theorem pst_j (t : SetTable) (h : Int) (c q : Nat) : (nth t.mask (pst t h c) q).j = way t.mask h (c + q) := by rw [pst_add]
theorem pst_free (t : SetTable) (h : Int) : ∀ c, (pst t h c).dummy = none := by
  intro c
  induction c with
  | zero => rfl
  | succ c ih =>
    rw [← pst_add t h c 1]
    show (adv t.mask (pst t h c)).dummy = none
    unfold adv
    split <;> exact ih

/-- the search from the c-th step of its way on -/
theorem find_from (R : MSet P w s.heap a L es ep t) {x : Addr} {k : List Key} (hx : MixT P w s.heap k x) (hu : A.units < cLine) {K : Nat} (hf : K < 10 * SetTable.turns t.mask)
    (nK : way t.mask (mh P w k) K ∉ t.place.toList) (low : ∀ c, c < K → way t.mask (mh P w k) c ∈ t.place.toList) {Q : SetFound → Shared → Prop}
    (yes : k ∈ L.map (·.2) → Q (.there none) s) (no : k ∉ L.map (·.2) → Q (.free (way t.mask (mh P w k) K) false) s) :
    ∀ (f c : Nat) (stand : Option SetTable.Probe), stand.getD (t.probeStart (mh P w k)) = pst t (mh P w k) c → c ≤ K → K - c < f →
      (∀ (i : Nat) p, L[i]? = some p → p.2 = k → ∃ q, c ≤ q ∧ q < K ∧ t.place.toList[i]? = some (way t.mask (mh P w k) q)) →
      wpAny (model P w) A (setSearchFrom a (.ref x) (mh P w k) true f stand) Q E s := by
  intro f
  induction f with
  | zero => intro c _ _ _ z; exact absurd z (Nat.not_lt_zero _)
  | succ f ih =>
    intro c stand st le lt reach
    obtain ⟨o, ho, _, hd⟩ := R.ob
    rw [setSearchFrom_succ]
    refine wpAny_bind (wpAny_setState_of ho hd R.fits ?_)
    dsimp only
    refine wp_if_neg R.steady ?_
    try refine wpAny_bind (wpAny_pure ?_)
    have hashes : ∀ (i : Nat) p, L[i]? = some p → (fun i => (es[i]?.map (·.1)).getD 0) i = mh P w p.2 := fun i p e => by
      show (es[i]?.map (·.1)).getD 0 = _
      rw [cells_at R.rows e] <;> rfl
    rcases go_spec t R.tab.up R.tab.clean (fun i => (es[i]?.map (·.1)).getD 0) (mh P w k) (10 * SetTable.turns t.mask) (K - c) (pst t (mh P w k) c) (pst_free ..) (by omega)
      (fun q hq => by rw [pst_j]; exact low _ (by omega)) (by rw [pst_j, show c + (K - c) = K by omega]; exact nK) with ⟨q, i, hq, at_, same, before, pr⟩ | ⟨before, pr⟩
    · rw [pst_j] at at_ pr
      rw [pst_add] at pr
      have met : t.probe (fun i => (es[i]?.map (·.1)).getD 0) (mh P w k) (stand.getD (t.probeStart (mh P w k))) = some (.candidate (way t.mask (mh P w k) (c + q)) i (pst t (mh P w k) (c + (q + 1)))) := by
        rw [st]; exact pr
      rw [met]
      dsimp only
      have il : i < L.length := by
        have z1 := (List.getElem?_eq_some_iff.mp at_).1
        have z2 := R.tab.size
        rw [List.length_map] at z2
        rw [Array.length_toList, z2] at z1
        exact z1
      obtain ⟨p, ep'⟩ : ∃ p, L[i]? = some p := ⟨_, List.getElem?_eq_getElem il⟩
      have pm := List.mem_of_getElem? ep'
      have live : t.slot (way t.mask (mh P w k) (c + q)) = .live i := slot_live R.tab.up at_
      have go : wpAny (model P w) A (searchRest a (.ref x) (mh P w k) true f es t (way t.mask (mh P w k) (c + q)) i (pst t (mh P w k) (c + (q + 1)))) Q E s := by
        unfold searchRest
        rw [cells_at R.rows ep']
        dsimp only
        refine wpAny_bind (wpAny_holding (wpAny_eqBool_tuple hu (R.tup p pm) hx ?_))
        refine wpAny_bind (wpAny_setState_of ho hd R.fits ?_)
        dsimp only
        by_cases ek : p.2 = k
        · exact wp_if_pos (by simp [ek]) (wpAny_pure (yes (List.mem_map.mpr ⟨p, pm, ek⟩)))
        · refine wp_if_neg (by simp [ek]) ?_
          try refine wpAny_bind (wpAny_pure ?_)
          rw [sameMem]
          dsimp only
          simp only [if_true, live, cells_at R.rows ep']
          refine wpAny_bind (wpAny_isSame_ref_self (wpAny_bind (wpAny_pure ?_)))
          simp only [if_true]
          refine wp_if_neg (by simp [ek]) (ih (c + (q + 1)) _ rfl (by omega) (by omega) fun i0 p0 h0 k0 => ?_)
          obtain ⟨d, d1, d2, d3⟩ := reach i0 p0 h0 k0
          refine ⟨d, Nat.lt_of_not_le fun (z : d ≤ c + q) => ?_, d2, d3⟩
          rcases Nat.lt_or_eq_of_le z with z | z
          · refine before (d - c) i0 (by omega) (by rw [pst_j, show c + (d - c) = d by omega]; exact d3) ?_
            exact (hashes i0 p0 h0).trans (by rw [k0])
          · rw [z] at d3
            have l2 := slot_live R.tab.up d3
            rw [live] at l2
            injection l2 with l2
            rw [← l2, ep'] at h0
            cases h0
            exact ek k0
      by_cases hl : t.led = true
      · refine wp_if_neg (by simp [hl]) ?_
        try refine wpAny_bind (wpAny_pure ?_)
        exact go
      · refine wp_if_pos (by simp [hl]) (wpAny_bind (unseen_mix hx (fun y hy => ?_) ?_))
        · obtain ⟨e, he, rfl⟩ := List.mem_map.mp hy
          have he2 : e ∈ es.toList := by
            have z : e ∈ es ∧ e.1 = mh P w k := by simpa using he
            simpa using z.1
          rw [R.rows] at he2
          obtain ⟨p2, hp2, rfl⟩ := List.mem_map.mp he2
          exact ⟨p2.2, p2.1, rfl, R.tup p2 hp2⟩
        · refine wp_if_neg (by decide) ?_
          try refine wpAny_bind (wpAny_pure ?_)
          exact go
    · rw [pst_j, show c + (K - c) = K by omega] at pr
      have met : t.probe (fun i => (es[i]?.map (·.1)).getD 0) (mh P w k) (stand.getD (t.probeStart (mh P w k))) = some (.empty (way t.mask (mh P w k) K) none) := by
        rw [st]; exact pr
      rw [met]
      dsimp only
      refine wpAny_pure (no fun m => ?_)
      obtain ⟨p0, h0, k0⟩ := List.mem_map.mp m
      obtain ⟨i0, _, e0⟩ := List.getElem_of_mem h0
      have at0 : L[i0]? = some p0 := by rw [← e0]; exact List.getElem?_eq_getElem _
      obtain ⟨d, d1, d2, d3⟩ := reach i0 p0 at0 k0
      refine before (d - c) i0 (by omega) (by rw [pst_j, show c + (d - c) = d by omega]; exact d3) ?_
      exact (hashes i0 p0 at0).trans (by rw [k0])
theorem find_at (R : MSet P w s.heap a L es ep t) {x : Addr} {k : List Key} (hx : MixT P w s.heap k x) (hu : A.units < cLine) {Q : SetFound → Shared → Prop}
    (yes : k ∈ L.map (·.2) → Q (.there none) s)
    (no : ∀ K, k ∉ L.map (·.2) → way t.mask (mh P w k) K ∉ t.place.toList → (∀ c, c < K → way t.mask (mh P w k) c ∈ t.place.toList) → Q (.free (way t.mask (mh P w k) K) false) s) :
    wpAny (model P w) A (setSearch a (.ref x) (mh P w k) true) Q E s := by
  have room := R.room
  obtain ⟨K, hf, nK, low⟩ := R.tab.gap (by rw [List.length_map]; omega) (mh P w k)
  have top := R.tab.mask.top
  have tn : SetTable.turns t.mask = t.mask + 15 := rfl
  unfold setSearch
  refine find_from R hx hu hf nK low yes (fun m => no K m nK low) 100000 0 none rfl (Nat.zero_le _) (by omega) fun i p hp hk => ?_
  have il := (List.getElem?_eq_some_iff.mp hp).1
  have z2 := R.tab.size
  rw [List.length_map] at z2
  have at_ : t.place.toList[i]? = some (t.place.toList[i]'(by rw [Array.length_toList, z2]; exact il)) := List.getElem?_eq_getElem _
  have hi : (L.map fun p => mh P w p.2)[i]? = some (mh P w k) := by rw [List.getElem?_map, hp, ← hk] <;> rfl
  obtain ⟨c, hc, e⟩ := R.tab.sooner nK hi at_
  exact ⟨c, Nat.zero_le _, hc, by rw [at_, e]⟩
end
end Sx
set_option linter.all false
set_option maxRecDepth 100000
/-! adding to a set of tuples -/
namespace Sx
open PySem PySem.Spec PyProof.Rows L2
section
variable {P : Program} {w : World} {A : Around} {E : Value → Shared → Prop} {s : Shared}
theorem mix_other {h h' : Heap} {k : List Key} {a b : Addr} {o : Obj} {es : Array (Int × Value)} {ep : Nat} {t : SetTable} (hb : MixT P w h k b) (ho : h.get? a = some o) (hd : o.data = .set es ep t) (sb : Heap.SameBut a h h') : MixT P w h' k b := by
  obtain ⟨ob, items, n, hob, hc, hod, hi⟩ := hb
  refine ⟨ob, items, n, ?_, hc, hod, hi⟩
  rw [sb.2 b ?_, hob]
  intro e
  subst e
  rw [hob] at ho
  cases ho
  rw [hod] at hd
  cases hd
theorem cells_put (L : Rows) (p : Nat) (x : Addr) (k : List Key) : cells P w (L.take p ++ (x, k) :: L.drop p) = (cells P w L).take p ++ (mh P w k, Value.ref x) :: (cells P w L).drop p := by
  simp [cells, List.map_take, List.map_drop]
theorem pick_all {α : Type} (L : List α) : (List.range L.length).filterMap (fun i => L[i]?) = L := by
  induction L with
  | nil => rfl
  | cons x L ih =>
    rw [List.length_cons, List.range_succ_eq_map, List.filterMap_cons_some (show (x :: L)[0]? = some x from rfl), List.filterMap_map]
    exact congrArg (x :: ·) ih
theorem cells_order (L : Rows) (es : Array (Int × Value)) (order : Array Nat) (r : es.toList = cells P w L) (pm : order.toList.Perm (List.range L.length)) :
    ∃ L2, (order.filterMap (es[·]?)).toList = cells P w L2 ∧ L2.Perm L ∧ (L2.map fun p => mh P w p.2) = order.toList.map fun i => (es.map (·.1)).getD i 0 := by
  have at_ : ∀ (i : Nat) (h : i < L.length), es[i]? = some (mh P w L[i].2, Value.ref L[i].1) := fun i h => cells_at r (List.getElem?_eq_getElem h)
  refine ⟨order.toList.filterMap fun i => L[i]?, ?_, ?_, ?_⟩
  · rw [Array.toList_filterMap]
    have all : ∀ i ∈ order.toList, i < L.length := fun i m => List.mem_range.mp (pm.mem_iff.mp m)
    revert all
    generalize order.toList = l
    intro all
    induction l with
    | nil => rfl
    | cons i l ih =>
      have hi := all i List.mem_cons_self
      rw [List.filterMap_cons_some (at_ i hi), List.filterMap_cons_some (List.getElem?_eq_getElem hi), ih fun j m => all j (List.mem_cons_of_mem _ m)] <;> rfl
  · have z := pm.filterMap (fun i => L[i]?)
    rw [pick_all] at z
    exact z
  · have all : ∀ i ∈ order.toList, i < L.length := fun i m => List.mem_range.mp (pm.mem_iff.mp m)
    revert all
    generalize order.toList = l
    intro all
    induction l with
    | nil => rfl
    | cons i l ih =>
      have hi := all i List.mem_cons_self
      rw [List.filterMap_cons_some (List.getElem?_eq_getElem hi), List.map_cons, List.map_cons, ih fun j m => all j (List.mem_cons_of_mem _ m)]
      congr 1
      have z : (es.map (·.1))[i]? = some (mh P w L[i].2) := by rw [Array.getElem?_map, at_ i hi] <;> rfl
      rw [Array.getD_eq_getD_getElem?, z] <;> rfl

variable {a : Addr} {L : Rows} {es : Array (Int × Value)} {ep : Nat} {t : SetTable}
/-- a full table is laid anew -/
theorem relay_mix {o : Obj} (ho : s.heap.get? a = some o) (ex : o.ExactSet) (hd : o.data = .set es ep t) (rows : es.toList = cells P w L) (T : Tab t (L.map fun p => mh P w p.2)) (fill : es.size ≤ t.mask)
    (nd : (L.map (·.2)).Nodup) (tup : ∀ p ∈ L, MixT P w s.heap p.2 p.1) (ld : w.params.followText "set-order" = true ∨ t.led = true) (few : L.length ≤ 1500) (pos : 1 ≤ L.length) {Q : Unit → Shared → Prop}
    (hQ : ∀ h' L2 es2 ep2 t2, Heap.SameBut a s.heap h' → MSet P w h' a L2 es2 ep2 t2 → L2.Perm L → Q () { s with heap := h' }) : wpAny (model P w) A (setRelay a (SetTable.grown L.length)) Q E s := by
  have n1 := cells_size rows
  have gr : SetTable.grown L.length = L.length * 4 := by
    unfold SetTable.grown
    rw [if_neg (by omega)]
  obtain ⟨q, q3, q13, sz, above⟩ := size_above (n := SetTable.grown L.length) (by rw [gr]; omega)
  have two : 2 ^ q ≤ 2 ^ 13 := Nat.pow_le_pow_right (by decide) q13
  have c13 : (2 : Nat) ^ 13 = 8192 := by decide
  have ps := T.size
  rw [List.length_map] at ps
  have fits : t.fits es.size = true := by
    unfold SetTable.fits SetTable.fill
    rw [T.clean]
    simp
    omega
  obtain ⟨t2, order, e, pm, T2, em, el, _⟩ := laid_anew t (hs := es.map (·.1)) (wanted := SetTable.grown L.length) (M := 2 ^ q - 1) (by rw [sz]) ⟨q, q3, q13, by omega⟩ (by rw [Array.size_map, n1]; omega)
  rw [Array.size_map, n1] at pm
  obtain ⟨L2, r2, p2, m2⟩ := cells_order L es order rows pm
  rw [← m2] at T2
  have n2 : (order.filterMap (es[·]?)).size = es.size := by
    rw [cells_size r2, p2.length_eq, n1]
  rw [setRelay_eq]
  refine wpAny_bind (wpAny_setState_of ho hd fits ?_)
  dsimp only
  refine wp_if_neg (by rw [sz, sizeLine_eq]; omega) ?_
  try refine wpAny_bind (wpAny_pure ?_)
  rw [e]
  dsimp only
  refine wpAny_bind (wp_if_neg (by rw [n2]; simp) ?_)
  try refine wpAny_bind (wpAny_pure ?_)
  refine wpAny_pure ?_
  dsimp only
  have sb : Heap.SameBut a s.heap (s.heap.update a (Obj.putSet (order.filterMap (es[·]?)) t2)) := Heap.SameBut.update ..
  refine wpAny_storeSet_of ho hd (hQ _ L2 (order.filterMap (es[·]?)) (ep + 1) t2 sb ?_ p2) (by rw [n2, n1, sizeLine_eq]; omega)
  constructor
  · exact ⟨_, store_at ho hd, ⟨ex.1, ex.2.1, ex.2.2⟩, rfl⟩
  · exact r2
  · exact T2
  · exact (p2.map (·.2)).nodup_iff.mpr nd
  · exact fun p m => mix_other (tup p (p2.mem_iff.mp m)) ho hd sb
  · rw [el]; exact ld
  · rw [p2.length_eq, em]; omega
  · rw [p2.length_eq]; exact few
/-- one tuple is put in -/
theorem add_mix (R : MSet P w s.heap a L es ep t) {x : Addr} {k : List Key} (hx : MixT P w s.heap k x) (hu : A.units < cLine) (few : L.length + 1 ≤ 1500) {Q : Bool → Shared → Prop}
    (hQ : ∀ b h' L2 es2 ep2 t2, Heap.SameBut a s.heap h' → MSet P w h' a L2 es2 ep2 t2 → (k ∈ L.map (·.2) → L2 = L) → (k ∉ L.map (·.2) → L2.Perm ((x, k) :: L)) → Q b { s with heap := h' }) :
    wpAny (model P w) A (setAddHashed a (.ref x) (mh P w k)) Q E s := by
  obtain ⟨o, ho, ex, hd⟩ := R.ob
  have n1 := cells_size R.rows
  have room := R.room
  unfold setAddHashed
  refine wpAny_holding ?_
  rw [show (100000 : Nat) = 99999 + 1 from rfl, setAddHashedIn_succ]
  refine wpAny_bind (wpAny_setState_of ho hd R.fits ?_)
  dsimp only
  refine wp_if_neg (by simp [byScan, Value.scannable]) ?_
  try refine wpAny_bind (wpAny_pure ?_)
  refine wpAny_bind (find_at R hx hu (fun m => ?_) fun K m nK low => ?_)
  · dsimp only
    exact wpAny_pure (hQ false s.heap L es ep t (Heap.SameBut.refl a s.heap) R (fun _ => rfl) fun z => absurd m z)
  · dsimp only
    refine wpAny_bind (wpAny_setState_of ho hd R.fits ?_)
    dsimp only
    obtain ⟨le, T1, fl⟩ := R.tab.one_more nK low
    have snd : (t.put (way t.mask (mh P w k) K)).2 = SetTable.below t.place (way t.mask (mh P w k) K) := rfl
    have msk : (t.put (way t.mask (mh P w k) K)).1.mask = t.mask := rfl
    have ledE : (t.put (way t.mask (mh P w k) K)).1.led = t.led := rfl
    rw [List.length_map] at le fl
    generalize t.put (way t.mask (mh P w k) K) = pt at T1 fl snd msk ledE ⊢
    obtain ⟨t1, p⟩ := pt
    dsimp only at T1 fl snd msk ledE ⊢
    rw [← snd] at le T1
    have perm : (L.take p ++ (x, k) :: L.drop p).Perm ((x, k) :: L) := put_perm L p (x, k)
    have len := perm.length_eq
    rw [List.length_cons] at len
    have hs : (L.take p ++ (x, k) :: L.drop p).map (fun p => mh P w p.2) = (L.map fun p => mh P w p.2).take p ++ mh P w k :: (L.map fun p => mh P w p.2).drop p := by
      rw [List.map_append, List.map_cons, List.map_take, List.map_drop]
    rw [← hs] at T1
    have rows1 : (SetTable.insertAt es p (mh P w k, Value.ref x)).toList = cells P w (L.take p ++ (x, k) :: L.drop p) := by
      rw [SetTable.toList_insertAt, cells_put, R.rows]
    have nd1 : ((L.take p ++ (x, k) :: L.drop p).map (·.2)).Nodup := (perm.map (·.2)).nodup_iff.mpr (by rw [List.map_cons]; exact List.nodup_cons.mpr ⟨m, R.nd⟩)
    generalize SetTable.insertAt es p (mh P w k, Value.ref x) = es1 at rows1 ⊢
    generalize L.take p ++ (x, k) :: L.drop p = L1 at perm len T1 rows1 nd1
    have n2 := cells_size rows1
    have rest : ∀ t2 : SetTable, t2.place = t1.place → t2.dummies = t1.dummies → t2.mask = t1.mask → t2.led = t1.led → wpAny (model P w) A (do
        storeSet a es1 t2
        if (!false && t2.tooFull) = true then setRelay a (SetTable.grown (es.size + 1))
        return true) Q E s := fun t2 e1 e2 e3 e4 => by
      have T2 : Tab t2 (L1.map fun p => mh P w p.2) := by
        refine ⟨by rw [e1]; exact T1.up, by rw [e2]; exact T1.clean, by rw [e1]; exact T1.size, by rw [e3]; exact T1.mask, by rw [e1, e3]; exact T1.le, ?_⟩
        rw [e1, e3]
        exact T1.found
      have fl2 : t2.fill = L.length + 1 := by rw [← fl]; unfold SetTable.fill; rw [e1, e2]
      have ld2 : w.params.followText "set-order" = true ∨ t2.led = true := by rw [e4, ledE]; exact R.led
      refine wpAny_bind (wpAny_storeSet_of ho hd ?_ (by rw [n2, len, sizeLine_eq]; omega))
      have sb : Heap.SameBut a s.heap (s.heap.update a (Obj.putSet es1 t2)) := Heap.SameBut.update ..
      have ho1 := store_at (es' := es1) (t' := t2) ho hd
      generalize s.heap.update a (Obj.putSet es1 t2) = h1 at sb ho1 ⊢
      have tup1 : ∀ q ∈ L1, MixT P w h1 q.2 q.1 := fun q hq => by
        rcases List.mem_cons.mp (perm.mem_iff.mp hq) with e | hq
        · rw [e]; exact mix_other hx ho hd sb
        · exact mix_other (R.tup q hq) ho hd sb
      by_cases full : t2.tooFull = true
      · have big := full
        unfold SetTable.tooFull at big
        rw [decide_eq_true_eq, fl2, e3, msk] at big
        rw [n1]
        have go : wpAny (model P w) A (setRelay a (SetTable.grown (L.length + 1))) (fun _ s' => wpAny (model P w) A (pure true) Q E s') E { s with heap := h1 } := by
          rw [← len]
          refine relay_mix (s := { s with heap := h1 }) ho1 ⟨ex.1, ex.2.1, ex.2.2⟩ rfl rows1 T2 (by rw [n2, len, e3, msk]; omega) nd1 tup1 ld2 (by omega) (by omega) ?_
          intro h2 L2 es2 ep2 t3 sb2 R2 p2
          exact wpAny_pure (hQ true h2 L2 es2 ep2 t3 (sb.trans sb2) R2 (fun z => absurd z m) fun _ => p2.trans perm)
        first
          | exact wpAny_bind (wp_if_pos (by simp [full]) go)
          | exact wp_if_pos (by simp [full]) (wpAny_bind go)
      · have small := full
        unfold SetTable.tooFull at small
        rw [decide_eq_true_eq, fl2, e3, msk] at small
        have fin : Q true { s with heap := h1 } := hQ true h1 L1 es1 (ep + 1) t2 sb ⟨⟨_, ho1, ⟨ex.1, ex.2.1, ex.2.2⟩, rfl⟩, rows1, T2, nd1, tup1, ld2, by rw [len, e3, msk]; omega, by omega⟩ (fun z => absurd z m) fun _ => perm
        first
          | exact wp_if_neg (by simp [full]) (wpAny_pure fin)
          | exact wpAny_bind (wp_if_neg (by simp [full]) (wpAny_pure (wpAny_pure fin)))
    have both : ∀ c : Bool, wpAny (model P w) A (do
        storeSet a es1 (if c = true then t1 else { t1 with plain := false })
        if (!false && (if c = true then t1 else { t1 with plain := false }).tooFull) = true then setRelay a (SetTable.grown (es.size + 1))
        return true) Q E s := fun c => by
      cases c
      · exact rest _ rfl rfl rfl rfl
      · exact rest _ rfl rfl rfl rfl
    by_cases pl : t1.plain = true
    · first
        | exact wpAny_bind (wp_if_pos pl (byVal_mix hx fun c => both c))
        | exact wp_if_pos pl (wpAny_bind (byVal_mix hx fun c => both c))
    · first
        | exact wpAny_bind (wp_if_neg pl (wpAny_pure (both true)))
        | exact wp_if_neg pl (wpAny_bind (wpAny_pure (both true)))
end
end Sx
set_option linter.all false
set_option maxRecDepth 100000
set_option maxHeartbeats 2000000
/-! {elt for target in iter if ..}, elt a tuple of ints and texts -/
namespace Sx
open PySem PySem.Spec PyProof.Rows L2

/-- the set at a; its tuples are things of their own -/
def MSet0 (P : Program) (w : World) (h : Heap) (a : Addr) (L : Rows) : Prop :=
  ∃ (es : Array (Int × Value)) (ep : Nat) (t : SetTable), (∃ o, h.get? a = some o ∧ o.ExactSet ∧ o.data = .set es ep t) ∧ es.toList = cells P w L ∧ Tab t (L.map fun p => mh P w p.2) ∧ (L.map (·.2)).Nodup ∧
    (w.params.followText "set-order" = true ∨ t.led = true) ∧ L.length * 5 < t.mask * 3 ∧ L.length ≤ 1500
def MSetO (P : Program) (w : World) (a : Addr) (L : Rows) : HO := .ext fun h => MSet0 P w h a L
/-- the rows' tuples are tracked -/
def TupsIn (H : Hp) (L : Rows) : Prop := ∀ p ∈ L, H p.1 = some (.tup (p.2.map kV))
section
variable {P : Program} {w : World} {H : Hp} {h : Heap} {a : Addr} {L : Rows}
theorem MSet.bare {es : Array (Int × Value)} {ep : Nat} {t : SetTable} (R : MSet P w h a L es ep t) : MSet0 P w h a L := ⟨es, ep, t, R.ob, R.rows, R.tab, R.nd, R.led, R.room, R.few⟩
theorem MSet0.full (R : MSet0 P w h a L) (ht : ∀ p ∈ L, MixT P w h p.2 p.1) : ∃ es ep t, MSet P w h a L es ep t := by
  obtain ⟨es, ep, t, h1, h2, h3, h4, h5, h6, h7⟩ := R
  exact ⟨es, ep, t, h1, h2, h3, h4, ht, h5, h6, h7⟩
theorem MSet0.ok (R : MSet0 P w h a L) : ObjOk P w H h a (MSetO P w a L) := by
  obtain ⟨es, ep, t, ⟨o, ho, r⟩, q⟩ := R
  refine ⟨⟨es, ep, t, ⟨o, ho, r⟩, q⟩, ⟨o, ho⟩, ?_⟩
  rintro h1 h2 ⟨es', ep', t', ⟨o', ho', r'⟩, q'⟩ k
  exact ⟨es', ep', t', ⟨o', k o' ho', r'⟩, q'⟩
theorem mset_fresh (ho : h.get? a = some { cls := .type "set", dict := none, data := .set #[] 0 (.fresh 0 0 (!w.params.followText "set-order")) }) : MSet0 P w h a [] := by
  refine ⟨#[], 0, .fresh 0 0 (!w.params.followText "set-order"), ⟨_, ho, ⟨rfl, rfl, rfl⟩, rfl⟩, rfl, ?_, List.nodup_nil, ?_, ?_, by decide⟩
  · constructor
    · exact List.Pairwise.nil
    · rfl
    · rfl
    · exact ⟨3, by decide, by decide, rfl⟩
    · exact fun x m => absurd m (by show x ∉ ([] : List Nat); simp)
    · exact fun i h j e => absurd e (by simp)
  · show _ ∨ (!w.params.followText "set-order") = true
    cases w.params.followText "set-order"
    · exact .inr rfl
    · exact .inl rfl
  · show 0 * 5 < 7 * 3
    decide
end
section
variable {X : Cx} {pins : List (Addr × Obj)} {σ : L2.St} {H : Hp} {s : Shared}
theorem tups_raw (I : Inv X pins σ H s) {L : Rows} (ht : TupsIn H L) : ∀ p ∈ L, MixT X.prog X.w s.heap p.2 p.1 := fun p m => key_of I.hok (ht p m)
theorem mset_get (I : Inv X pins σ H s) {a : Addr} {L : Rows} (ha : H a = some (MSetO X.prog X.w a L)) (ht : TupsIn H L) : ∃ es ep t, MSet X.prog X.w s.heap a L es ep t :=
  MSet0.full (I.hok a _ ha).1 (tups_raw I ht)
/-- S.add(tuple) -/
theorem add_tup {E : Value → Shared → Prop} {D x : Addr} {L : Rows} {k : List Key} {Q : Value → Shared → Prop} (hu : X.A.units + 64 < cLine) (I : Inv X pins σ H s) (hD : H D = some (MSetO X.prog X.w D L)) (ht : TupsIn H L) (hx : H x = some (.tup (k.map kV))) (few : L.length + 1 ≤ 1500)
    (h : ∀ s' L2, (k ∈ L.map (·.2) → L2 = L) → (k ∉ L.map (·.2) → L2.Perm ((x, k) :: L)) → Inv X pins σ (upd H D (MSetO X.prog X.w D L2)) s' → Q .none s') : wpAny (model X.prog X.w) X.A (call (.builtin "set.add") [.ref D, .ref x]) Q E s := by
  obtain ⟨es, ep, t, R⟩ := mset_get I hD ht
  have kx : MixT X.prog X.w s.heap k x := key_of I.hok hx
  obtain ⟨o, ho, ex, hd⟩ := R.ob
  have ty : s.TypeIs (.ref D) "set" := ⟨o, ho, ex.1⟩
  refine wpAny_call_entry F.slot_set_add ty F.entry_set_add ?_ (F.args_set_add_2 _ _)
  unfold Builtin.«set.add» Builtin.Frozenset.oneOther
  simp only [List.isEmpty_nil, bind_assoc]
  unfold Builtin.Frozenset.addrOf setAdd
  refine wpAny_bind (wpAny_pure ?_)
  try dsimp only
  refine wpAny_bind (wpAny_pure ?_)
  try dsimp only
  refine wpAny_bind (wpAny_holding (wpAny_bind (wpAny_pyHash_tuple (by simp only [Around.in1_units]; omega) kx ?_)))
  have kx2 : MixT X.prog X.w ({ s with toks := s.toks + (k.length + 1) } : Shared).heap k x := kx
  refine add_mix (s := { s with toks := s.toks + (k.length + 1) }) R kx2 (by simp only [Around.in1_units]; omega) few fun b h' L2 es2 ep2 t2 sb R2 c1 c2 => ?_
  show wpAny _ _ (ret Value.none) _ _ _
  obtain ⟨o2, ho2, _⟩ := R2.ob
  refine wpAny_pure ⟨_, rfl, h _ L2 c1 c2 (I.write (e := D) (t' := s.toks + (k.length + 1)) (by rw [hD]; trivial) (.inl rfl) (fun b u hb hu => (sb.2 b hb).trans hu) ⟨o2, ho2⟩ R2.bare.ok)⟩

/-- a new set D, filled turn by turn -/
def tSm (P : Program) (w : World) (wi : TI) (g : TG) (tt : TT) (te : TE) (vs : List Nat) : TE := fun σ H Q => wi σ H fun J H1 => ∀ D, H1 D = none → ∃ W : Nat → Nat → Hp → Prop, (∃ m, W 0 m (upd H1 D (MSetO P w D []))) ∧ ∀ i m H, W i m H →
  (J.stop i H ∧ Q (.ref D) H) ∨ (J.go i H ∧ ∃ Nx : Hp → Prop, (∀ H', Nx H' → ∃ m', m' < m ∧ W (i + 1) m' H') ∧ ∀ x H', J.yld i H x H' → g x (wipe σ vs) H' fun σ2 H2 => wipe σ2 vs = wipe σ vs ∧ tt σ2 H2 fun b H3 =>
    if b = true then te σ2 H3 fun y H4 => ∃ (x : Addr) (k : List Key) (L : Rows), y = .ref x ∧ H4 x = some (.tup (k.map kV)) ∧ H4 D = some (MSetO P w D L) ∧ TupsIn H4 L ∧ L.length + 1 ≤ 1500 ∧
      ∀ L2, (k ∈ L.map (·.2) → L2 = L) → (k ∉ L.map (·.2) → L2.Perm ((x, k) :: L)) → Nx (upd H4 D (MSetO P w D L2)) else Nx H3)
theorem sm_run {Q : VK} {elt tg iter : Expr} {ifs : List Expr} {scope : Scope} {own : List (PySem.Str × Nat)} {pos at_ : Pos} {wi : TI} {g : TG} {tt : TT} {te : TE} {use : Option (Value → Sem Unit)} {Qf : Value → Shared → Prop}
    (hu : X.A.units + 64 < cLine) (hc : X.calm = true) (hN : X.N.Nodup) (I : Inv X pins σ H s) (hi : PI X tg iter wi) (ok : BlkOk X.N X.env.scope scope own)
    (hg : ∀ s H C cl fp, PG (X.blk s H scope (compEnvC scope cl C X.env) fp) tg g) (ht : ∀ s H C cl fp, PTs (X.blk s H scope (compEnvC scope cl C X.env) fp) ifs tt)
    (he : ∀ s H C cl fp, PE (X.blk s H scope (compEnvC scope cl C X.env) fp) elt te) (hs : ∀ x, foldedSetIterable iter X.env x = pure x)
    (h : tSm X.prog X.w wi g tt te (own.map (·.2)) σ H Q)
    (hR : ∀ D C s' m H', Inv X pins σ H' s' → Q (.ref D) H' → s'.heap.Ns C m → FpOk X pins H' C → compPost (model X.prog X.w) X.A X.xe use Qf (.ref D) C (.ok .next) s') :
    wpAny (model X.prog X.w) X.A (comprehension (.SetComp elt [⟨tg, iter, ifs, 0⟩] scope pos) scope X.env at_ (newSet (.type "set")) false (eval iter X.env) use) Qf X.xe s := by
  have frees : ∀ y ∈ scope.names, y.2 = .free → ∃ c, X.env.cells.lookup y.1 = some c := fun y m e => (ok.free y m e).elim (fun k => I.ok.has _ (.inl k)) fun k => I.ok.has _ (.inr k)
  refine wpAny_comprehension_free (use := use) rfl hs (closure_ok frees) ok.kind (fun y m e => by rw [ok.uniq y m, e])
    (thn (hi.run pins s σ H _ I h) fun xv s1 hx => thn hx fun itv s2 h2 => ?_)
  obtain ⟨it, fp, tn, J, H2, rfl, I2, T, st2, f2, q⟩ := h2
  refine PpSet.newSet_ok (newEnv_comp ?_)
  generalize eD : s2.heap.objs.size = D
  obtain ⟨W, ⟨m0, w0⟩, turn⟩ := q D (I2.hok.fresh (Nat.le_of_eq eD))
  generalize e3 : ({ s2 with heap := s2.heap.push { cls := .type "set", dict := none, data := .set #[] 0 (.fresh 0 0 (!X.w.params.followText "set-order")) } } : Shared) = s3
  have p3 : s3.heap = s2.heap.push { cls := .type "set", dict := none, data := .set #[] 0 (.fresh 0 0 (!X.w.params.followText "set-order")) } := by rw [← e3]
  have I3 : Inv X pins σ (upd H2 D (MSetO X.prog X.w D [])) s3 := by
    rw [← e3]
    refine I2.laid (t' := s2.toks) (fun b o e => Heap.get?_push_of_some _ e) (Nat.le_of_eq eD) ?_
    rw [← eD]
    exact (mset_fresh (Heap.get?_push_size _ rfl)).ok
  have inOld : ∀ b ∈ fp, b < s2.heap.objs.size := fun b m => by
    obtain ⟨o, e, _⟩ := T.obj _ _ st2 b m
    exact Heap.lt_size e
  have f3 : ∀ b ∈ fp, FpOk X pins (upd H2 D (MSetO X.prog X.w D [])) b ∧ b < s3.heap.objs.size := fun b m => by
    have lt := inOld b m
    refine ⟨⟨?_, (f2 b m).2⟩, by rw [p3, Heap.size_push]; exact Nat.lt_succ_of_lt lt⟩
    rw [upd_ne (Nat.ne_of_lt (eD ▸ lt))]
    exact (f2 b m).1
  have st3 : tn 0 s3.heap := T.keep _ _ _ st2 fun b _ o e => by rw [p3]; exact Heap.get?_push_of_some _ e
  have I4 := block_start I3 ok hN f3
  have pg := hg s3 (upd H2 D (MSetO X.prog X.w D [])) s3.heap.objs.size (cellsFrom (s3.heap.objs.size + 1) scope.names (cloFrom X.env.cells scope.names [])) fp
  have pt := ht s3 (upd H2 D (MSetO X.prog X.w D [])) s3.heap.objs.size (cellsFrom (s3.heap.objs.size + 1) scope.names (cloFrom X.env.cells scope.names [])) fp
  have pe := he s3 (upd H2 D (MSetO X.prog X.w D [])) s3.heap.objs.size (cellsFrom (s3.heap.objs.size + 1) scope.names (cloFrom X.env.cells scope.names [])) fp
  show codeAny _ _ (.compStart (.SetComp elt [⟨tg, iter, ifs, 0⟩] scope pos) 0 (.ref it) (.ref D) (compEnvC scope (cellsFrom (s3.heap.objs.size + 1) scope.names (cloFrom X.env.cells scope.names [])) s3.heap.objs.size X.env)) (compPost (model X.prog X.w) X.A X.xe use Qf (.ref D) s3.heap.objs.size) { s3 with heap := pushCells (s3.heap.push { cls := .type "dict", data := .dict #[] }) scope.names }
  have none3 : ∀ b ∈ fp, (upd H2 D (MSetO X.prog X.w D [])) b = none := fun b m => (f3 b m).1.1
  generalize ece : compEnvC scope (cellsFrom (s3.heap.objs.size + 1) scope.names (cloFrom X.env.cells scope.names [])) s3.heap.objs.size X.env = ce at I4 pg pt pe ⊢
  have cl : ce.locals = s3.heap.objs.size := by rw [← ece]; rfl
  generalize upd H2 D (MSetO X.prog X.w D []) = H3 at I3 I4 pg pt pe w0 none3 f3
  generalize e4 : ({ s3 with heap := pushCells (s3.heap.push { cls := .type "dict", data := .dict #[] }) scope.names } : Shared) = s4 at I4 ⊢
  have st4 : tn 0 s4.heap := T.keep _ _ _ st3 fun b _ o e => by rw [← e4]; exact pushCells_keeps _ _ _ _ (Heap.get?_push_of_some _ e)
  have calmFp : ∀ {σ' : L2.St} {H' : Hp} {s' : Shared}, Inv (X.blk s3 H3 scope ce fp) [] σ' H' s' → (∀ b ∈ fp, H' b = none) → ∀ b ∈ fp, FpOk (X.blk s3 H3 scope ce fp) [] H' b := fun {σ' H' s'} I' n b m =>
    ⟨n b m, (I'.ok.exf b m).1, I'.ok.exfs b m, .inl m, fun x c e => (I'.ok.exf b m).2 x c e, fun p hp => absurd (show p ∈ ([] : List (Addr × Obj)) ++ [] from hp) (by simp)⟩
  have loop : codeAny (model X.prog X.w) X.A (.compLoop (.SetComp elt [⟨tg, iter, ifs, 0⟩] scope pos) 0 (.ref it) (.ref D) ce) (compPost (model X.prog X.w) X.A X.xe use Qf (.ref D) s3.heap.objs.size) s4 := by
    refine PpSet.compLoopS_any (fun n s' => ∃ i H', Inv (X.blk s3 H3 scope ce fp) [] (wipe σ (own.map (·.2))) H' s' ∧ tn i s'.heap ∧ (∀ b ∈ fp, H' b = none) ∧ W i n H') ?_ m0 ⟨0, H3, I4, st4, none3, w0⟩
    rintro n s5 ⟨i, H5, I5, st5, n5, w5⟩
    rcases turn i n H5 w5 with ⟨stop, fin⟩ | ⟨go, Nx, next, step⟩
    · refine thnF (T.done (X.blk s3 H3 scope ce fp) rfl rfl rfl hc i [] s5 _ H5 (fun _ _ => False) I5 (calmFp I5 n5) st5 stop) fun r s6 ⟨hr, I6⟩ => ?_
      subst hr
      have I7 : Inv X pins σ H5 s6 := I3.call' (ch := fp) I6.os I6.base I6.hok I6.bare fun b m => ⟨(f3 b m).1.2.2.2.1, (f3 b m).1.2.1, (f3 b m).1.2.2.2.2.1, (f3 b m).1.2.2.2.2.2⟩
      have nC : H5 s3.heap.objs.size = none := cl ▸ (show H5 ce.locals = none from I6.free)
      obtain ⟨m, hn, _⟩ := I6.loc
      exact hR D s3.heap.objs.size s6 m H5 I7 fin (cl ▸ (show s6.heap.Ns ce.locals m from hn)) (I3.fpOk (Nat.le_refl _) nC)
    · refine thnF (T.item (X.blk s3 H3 scope ce fp) rfl rfl rfl hc i [] s5 _ H5 (fun _ _ => False) I5 (calmFp I5 n5) st5 go) fun r s6 ⟨u, hr, h6⟩ => ?_
      subst hr
      refine thnF h6 fun _ s7 ⟨x, H7, I7, r7, y7, st7, n7⟩ => ?_
      have pinned := I7.pinned (calmFp I7 n7) (T.obj _ _ st7)
      refine thnF (pg.run _ s7 _ H7 x u _ pinned r7 (step x H7 y7)) fun _ s8 ⟨σ8, H8, I8, w8, q8⟩ => ?_
      refine thnF (pt.run _ s8 σ8 H8 _ I8 q8) fun b s9 ⟨H9, I9, q9⟩ => ?_
      have turnEnd : ∀ {s' : Shared} {H' : Hp}, Inv (X.blk s3 H3 scope ce fp) ([] ++ pinsAt fp s7.heap) σ8 H' s' → Nx H' → ∃ m, m < n ∧ ∃ i H', Inv (X.blk s3 H3 scope ce fp) [] (wipe σ (own.map (·.2))) H' s' ∧ tn i s'.heap ∧ (∀ b ∈ fp, H' b = none) ∧ W i m H' := fun {s' H'} I' nx => by
        obtain ⟨m', lt, w'⟩ := next H' nx
        have pin : ∀ b ∈ fp, ∀ o, s7.heap.get? b = some o → s'.heap.get? b = some o ∧ H' b = none := fun b m o e => by
          have z := I'.pin (b, o) (List.mem_append_right _ (List.mem_append_right _ (mem_pinsAt m e)))
          exact ⟨z.1, z.2.1⟩
        refine ⟨m', lt, i + 1, H', (I'.unpinned (pins := [])).weak (by rw [← w8, wipe_length]) (fun j v e => ?_), T.keep _ _ _ st7 fun b m o e => (pin b m o e).1, fun b m => ?_, w'⟩
        · rw [← w8] at e
          exact (wipe_some e).1
        · obtain ⟨o, e, _⟩ := T.obj _ _ st7 b m
          exact (pin b m o e).2
      cases b with
      | false =>
        simp only [Bool.false_eq_true, if_false] at q9 ⊢
        exact turnEnd I9 q9
      | true =>
        simp only [if_true] at q9 ⊢
        refine thnF (pe.run _ s9 σ8 H9 _ I9 q9) fun z s10 ⟨yv, H10, I10, r10, xa, k, L, ey, hx, hD, hT, few, nx⟩ => ?_
        subst ey
        cases (show z = Value.ref xa from r10)
        exact add_tup (X := X.blk s3 H3 scope ce fp) hu I10 hD hT hx few fun s11 L2 c1 c2 I11 => turnEnd I11 (nx L2 c1 c2)
  exact PpSet.codeAny_compStart_set loop (T.self X.A 0 _ _ _ st4 loop)
theorem pe_sm {elt tg iter : Expr} {ifs : List Expr} {scope : Scope} {own : List (PySem.Str × Nat)} {pos : Pos} {wi : TI} {g : TG} {tt : TT} {te : TE} (hu : X.A.units + 64 < cLine) (hc : X.calm = true) (hN : X.N.Nodup) (hi : PI X tg iter wi) (ok : BlkOk X.N X.env.scope scope own)
    (hg : ∀ s H C cl fp, PG (X.blk s H scope (compEnvC scope cl C X.env) fp) tg g) (ht : ∀ s H C cl fp, PTs (X.blk s H scope (compEnvC scope cl C X.env) fp) ifs tt)
    (he : ∀ s H C cl fp, PE (X.blk s H scope (compEnvC scope cl C X.env) fp) elt te) (hs : ∀ x, foldedSetIterable iter X.env x = pure x := by intro _; rfl) :
    PE X (.SetComp elt [⟨tg, iter, ifs, 0⟩] scope pos) (tSm X.prog X.w wi g tt te (own.map (·.2))) := by
  refine ⟨fun pins s σ H Q I h => ?_⟩
  rw [PpSet.eval_SetComp]
  refine sm_run hu hc hN I hi ok hg ht he hs h fun D C s' m H' I' q hn f => ⟨m, hn, fun h'' sb => ?_⟩
  obtain ⟨f0, f1, f2, f3, f4, f5⟩ := f
  exact ⟨.ref D, H', I'.turned (t' := s'.toks) (fun b o hb e => (sb.2 b hb).trans e) f0 f1 f3 f4 f5, rfl, q⟩
end
end Sx
set_option linter.all false
set_option maxRecDepth 100000
set_option maxHeartbeats 2000000
/-! the order of tuples of ints and texts; sorted lists of them -/
namespace Sx
open PySem PySem.Spec PyProof.Rows L2

/-! ### linear orders -/
structure Lin {α : Type} (lt : α → α → Bool) : Prop where
  irr : ∀ x, lt x x = false
  tr : ∀ x y z, lt x y = true → lt y z = true → lt x z = true
  tot : ∀ x y, x ≠ y → lt x y = true ∨ lt y x = true
section
variable {α β : Type} {lt : α → α → Bool}
theorem Lin.asym (O : Lin lt) {x y : α} (h : lt x y = true) : lt y x = false := by
  rcases e : lt y x with _ | _
  · rfl
  · have z := O.tr x y x h e
    rw [O.irr] at z
    cases z
theorem Lin.anti (O : Lin lt) {x y : α} (h1 : lt x y = false) (h2 : lt y x = false) : x = y := Classical.byContradiction fun ne => by
  rcases O.tot x y ne with z | z
  · rw [h1] at z; cases z
  · rw [h2] at z; cases z
theorem Lin.le_tr (O : Lin lt) {x y z : α} (h1 : lt y x = false) (h2 : lt z y = false) : lt z x = false := by
  rcases e : lt z x with _ | _
  · rfl
  · by_cases c : x = y
    · subst c; rw [e] at h2; cases h2
    · rcases O.tot x y c with q | q
      · have r := O.tr z x y e q
        rw [h2] at r; cases r
      · rw [h1] at q; cases q
theorem Lin.swo (O : Lin lt) (f : β → α) : SrtO.Swo fun x y => lt (f x) (f y) := ⟨fun _ _ h => O.asym h, fun _ _ _ h1 h2 => O.le_tr h1 h2⟩
/-- a rising list is known by its members -/
theorem Lin.uniq (O : Lin lt) : ∀ {l m : List α}, l.Pairwise (fun x y => lt y x = false) → m.Pairwise (fun x y => lt y x = false) → l.Perm m → l = m
  | [], m, _, _, p => (List.Perm.eq_nil p.symm).symm
  | x :: l, [], _, _, p => by cases List.Perm.eq_nil p
  | x :: l, y :: m, hl, hm, p => by
    have h1 := List.pairwise_cons.mp hl
    have h2 := List.pairwise_cons.mp hm
    have a : lt y x = false := by
      rcases List.mem_cons.mp (p.mem_iff.mpr List.mem_cons_self) with e | z
      · rw [e]; exact O.irr _
      · exact h1.1 y z
    have b : lt x y = false := by
      rcases List.mem_cons.mp (p.mem_iff.mp List.mem_cons_self) with e | z
      · rw [e]; exact O.irr _
      · exact h2.1 x z
    have e := O.anti b a
    subst e
    rw [O.uniq h1.2 h2.2 p.cons_inv]
variable [DecidableEq α]
/-- item by item, a beginning ahead of what goes on -/
def lexL (lt : α → α → Bool) : List α → List α → Bool
  | [], [] => false
  | [], _ :: _ => true
  | _ :: _, [] => false
  | a :: as, b :: bs => if a = b then lexL lt as bs else lt a b
theorem Lin.lex (O : Lin lt) : Lin (lexL lt) where
  irr := fun l => by
    induction l with
    | nil => rfl
    | cons a l ih => rw [lexL, if_pos rfl]; exact ih
  tr := fun l => by
    induction l with
    | nil =>
      intro m n h1 h2
      cases n with
      | nil => cases m <;> cases h2
      | cons => rfl
    | cons a l ih =>
      intro m n h1 h2
      cases m with
      | nil => cases h1
      | cons b m =>
        cases n with
        | nil => cases h2
        | cons c n =>
          rw [lexL] at h1 h2 ⊢
          by_cases ab : a = b
          · subst ab
            rw [if_pos rfl] at h1
            by_cases ac : a = c
            · rw [if_pos ac] at h2 ⊢
              exact ih m n h1 h2
            · rw [if_neg ac] at h2 ⊢
              exact h2
          · rw [if_neg ab] at h1
            by_cases bc : b = c
            · subst bc
              rw [if_neg ab]
              exact h1
            · rw [if_neg bc] at h2
              have ac := O.tr a b c h1 h2
              by_cases e : a = c
              · subst e; rw [O.irr] at ac; cases ac
              · rw [if_neg e]; exact ac
  tot := fun l => by
    induction l with
    | nil =>
      intro m ne
      cases m with
      | nil => exact absurd rfl ne
      | cons => exact .inl rfl
    | cons a l ih =>
      intro m ne
      cases m with
      | nil => exact .inr rfl
      | cons b m =>
        rw [lexL, lexL]
        by_cases ab : a = b
        · subst ab
          rw [if_pos rfl, if_pos rfl]
          exact ih m fun e => ne (by rw [e])
        · rw [if_neg ab, if_neg fun e => ab e.symm]
          exact O.tot a b ab
end
/-- ints ahead of texts -/
def ltKey : Key → Key → Bool
  | .inl a, .inl b => decide (a < b)
  | .inr x, .inr y => decide (x.cps.toList < y.cps.toList)
  | .inl _, .inr _ => true
  | .inr _, .inl _ => false
def ltText (x y : PySem.Str) : Bool := decide (x.cps.toList < y.cps.toList)
theorem lin_text : Lin ltText where
  irr := fun x => decide_eq_false (List.lt_irrefl _)
  tr := fun x y z h1 h2 => decide_eq_true (List.lt_trans (of_decide_eq_true h1) (of_decide_eq_true h2))
  tot := fun x y ne => by
    by_cases c : x.cps.toList < y.cps.toList
    · exact .inl (decide_eq_true c)
    · refine .inr (decide_eq_true (Classical.byContradiction fun d => ne ?_))
      have e := List.le_antisymm (List.not_lt.mp d) (List.not_lt.mp c)
      cases x
      cases y
      exact congrArg _ (Array.toList_inj.mp e)
theorem lin_key : Lin ltKey where
  irr := fun k => by
    cases k with
    | inl a => exact decide_eq_false (Int.lt_irrefl a)
    | inr x => exact lin_text.irr x
  tr := fun k l m h1 h2 => by
    cases k with
    | inl a =>
      cases m with
      | inr => rfl
      | inl c =>
        cases l with
        | inr => cases h2
        | inl b => exact decide_eq_true (Int.lt_trans (of_decide_eq_true h1) (of_decide_eq_true h2))
    | inr x =>
      cases l with
      | inl => cases h1
      | inr y =>
        cases m with
        | inl => cases h2
        | inr z => exact lin_text.tr x y z h1 h2
  tot := fun k l ne => by
    cases k with
    | inl a =>
      cases l with
      | inr => exact .inl rfl
      | inl b =>
        rcases Int.lt_trichotomy a b with c | c | c
        · exact .inl (decide_eq_true c)
        · exact absurd (by rw [c]) ne
        · exact .inr (decide_eq_true c)
    | inr x =>
      cases l with
      | inl => exact .inr rfl
      | inr y => exact lin_text.tot x y fun e => ne (by rw [e])
abbrev ltT : List Key → List Key → Bool := lexL ltKey
theorem lin_tup : Lin ltT := lin_key.lex
/-- a key list's shape: where ints stand -/
def shp (k : List Key) : List Bool := k.map Sum.isLeft

/-! ### the model's comparison -/
section
variable {P : Program} {w : World} {A : Around} {E : Value → Shared → Prop} {s : Shared}
theorem kat_items {b : Bool} : ∀ {ks ls : List Key} {us vs : List Value} {i : Nat}, ItemsAre (mixKind P w) ks us → ItemsAre (mixKind P w) ls vs → shp ks = shp ls → (b && i == 0) = true ∨ (b && i == 0) = false →
    PySem.W.KatLex P w A b false (fun r s' => s' = s ∧ r = ltT ks ls) (us.zip vs) i s := by
  intro ks
  induction ks with
  | nil =>
    intro ls us vs i h1 h2 e _
    cases h1
    cases ls with
    | nil => cases h2; exact PySem.W.kat_nil ⟨rfl, rfl⟩
    | cons => cases e
  | cons k ks ih =>
    intro ls us vs i h1 h2 e _
    cases ls with
    | nil => cases e
    | cons l ls =>
      cases h1 with
      | @cons _ u _ us k1 t1 =>
        cases h2 with
        | @cons _ v _ vs k2 t2 =>
          have e' : Sum.isLeft k :: shp ks = Sum.isLeft l :: shp ls := e
          injection e' with e1 e2
          refine PySem.W.kat_cons ((mixKind P w).eqBool k1 k2 ?_)
          refine PySem.W.kat_go (fun c => ?_) fun c => ?_
          · have kl : k = l := of_decide_eq_true c
            subst kl
            refine PySem.W.kat_yes ?_
            have q := ih (i := i + 1) t1 t2 e2 (by cases (b && i + 1 == 0) <;> simp)
            have z : ltT (k :: ks) (k :: ls) = ltT ks ls := if_pos rfl
            rw [z]
            exact q
          · have kl : ¬ k = l := of_decide_eq_false c
            have z : ltT (k :: ks) (l :: ls) = ltKey k l := if_neg kl
            rw [z]
            refine PySem.W.kat_no ?_
            rcases keyIs_shape k1 with ⟨i1, t, rfl, rfl⟩ | ⟨x, t, rfl, rfl⟩
            · rcases keyIs_shape k2 with ⟨i2, t', rfl, rfl⟩ | ⟨y, t', rfl, rfl⟩
              · cases (b && i == 0)
                · exact PySem.W.kat_one _ _ (PyProof.Rows.lt_int (show _ = _ ∧ _ = _ from ⟨rfl, rfl⟩))
                · exact oneLt_int ⟨rfl, rfl⟩
              · cases e1
            · rcases keyIs_shape k2 with ⟨i2, t', rfl, rfl⟩ | ⟨y, t', rfl, rfl⟩
              · cases e1
              · cases (b && i == 0)
                · exact PySem.W.kat_one _ _ (PySem.P.lt_str (show _ = _ ∧ _ = _ from ⟨rfl, rfl⟩))
                · exact oneLt_str ⟨rfl, rfl⟩
open Classical in
/-- the key that stands at v -/
noncomputable def keyAt (P : Program) (w : World) (h : Heap) (v : Value) : List Key := if c : ∃ k a, v = .ref a ∧ MixT P w h k a then c.choose else []
theorem keyAt_of {h : Heap} {k : List Key} {a : Addr} (hk : MixT P w h k a) : keyAt P w h (.ref a) = k := by
  unfold keyAt
  have c : ∃ k' b, Value.ref a = .ref b ∧ MixT P w h k' b := ⟨k, a, rfl, hk⟩
  rw [dif_pos c]
  obtain ⟨b, e, q⟩ := c.choose_spec
  cases e
  exact q.inj hk
/-- v is a tuple of this shape -/
def TupV (P : Program) (w : World) (h : Heap) (sh : List Bool) (v : Value) : Prop := ∃ k a, v = .ref a ∧ MixT P w h k a ∧ shp k = sh
theorem mix_cls {h h' : Heap} {a : Addr} {k : List Key} {L : Addr} (keep : ∀ b o, b ≠ L → h.get? b = some o → h'.get? b = some o) (lst : ∀ o, h.get? L = some o → o.cls ≠ .type "tuple") (hk : MixT P w h k a) : MixT P w h' k a := by
  obtain ⟨o, items, n, ho, hc, hd, hi⟩ := hk
  exact ⟨o, items, n, keep a o (fun e => lst o (by rw [← e]; exact ho) hc) ho, hc, hd, hi⟩
theorem tup_cmp {sh : List Bool} {b : Bool} {h0 : Heap} {vs : List Value} (h : ∀ v ∈ vs, ∃ k a, v = .ref a ∧ MixT P w h0 k a ∧ MixT P w s.heap k a ∧ shp k = sh) :
    SrtO.Cmp P w A s (tuples' b) (fun p => p.1 ∈ vs) (SrtO.lt2 fun v u => ltT (keyAt P w h0 v) (keyAt P w h0 u)) := by
  intro p q hp hq
  obtain ⟨k, x, ex, k0, kx, kS⟩ := h _ hp
  obtain ⟨l, y, ey, l0, ly, lS⟩ := h _ hq
  show wpAny (model P w) A (keyLt' (tuples' b) p.1 q.1) (fun r s' => s' = s ∧ r = ltT (keyAt P w h0 p.1) (keyAt P w h0 q.1)) (fun _ _ => False) s
  rw [ex, ey, keyAt_of k0, keyAt_of l0]
  obtain ⟨o, xs, n, ho, hc, hd, hi⟩ := kx
  obtain ⟨o', ys, n', ho', hc', hd', hi'⟩ := ly
  refine PySem.W.kat_lt ho hd ho' hd' ?_
  have len : k.length = l.length := by
    have z := congrArg List.length (kS.trans lS.symm)
    unfold shp at z
    rwa [List.length_map, List.length_map] at z
  have fin : decide (xs.size < ys.size) = false := by
    have z1 : k.length = xs.size := by rw [hi.length]; simp
    have z2 : l.length = ys.size := by rw [hi'.length]; simp
    exact decide_eq_false (by omega)
  rw [fin]
  exact kat_items hi hi' (kS.trans lS.symm) (by cases (b && 0 == 0) <;> simp)
theorem kat_heads {sh : List Bool} {c : Bool} {h : Heap} : ∀ vs : List Value, (∀ v ∈ vs, TupV P w h (c :: sh) v) → ∃ fs : List Value, PySem.W.KatTups h vs fs ∧ fs.length = vs.length ∧ ∀ f ∈ fs, (c = true ∧ ∃ i t, f = Value.int i t) ∨ (c = false ∧ ∃ x t, f = Value.str x t)
  | [], _ => ⟨[], PySem.W.KatTups.nil, rfl, fun _ m => absurd m List.not_mem_nil⟩
  | v :: vs, hv => by
    obtain ⟨fs, a1, a2, a3⟩ := kat_heads vs fun u m => hv u (List.mem_cons_of_mem _ m)
    obtain ⟨k, a, rfl, ⟨o, items, n, ho, hc, hd, hi⟩, e⟩ := hv _ List.mem_cons_self
    cases k with
    | nil => cases e
    | cons k ks =>
      have e' : Sum.isLeft k :: shp ks = c :: sh := e
      injection e' with e1 _
      generalize il : items.toList = il at hi
      cases hi with
      | @cons _ f _ us k1 t1 =>
        have h0 : items[0]? = some f := by rw [← Array.getElem?_toList, il] <;> rfl
        refine ⟨f :: fs, PySem.W.KatTups.cons ho hc hd h0 a1, by rw [List.length_cons, List.length_cons, a2], fun g m => ?_⟩
        rcases List.mem_cons.mp m with rfl | m
        · rcases keyIs_shape k1 with ⟨i, t, rfl, ef⟩ | ⟨x, t, rfl, ef⟩
          · exact .inl ⟨e1.symm, i, t, ef⟩
          · exact .inr ⟨e1.symm, x, t, ef⟩
        · exact a3 g m
theorem tups_sortable {sh : List Bool} {c : Bool} {a : Addr} {vs : List Value} (pos : 0 < vs.length) (hv : ∀ v ∈ vs, TupV P w s.heap (c :: sh) v) (ha : ∀ o, s.heap.get? a = some o → o.cls ≠ .type "tuple") :
    SrtO.SortableO P w A s a vs fun v u => ltT (keyAt P w s.heap v) (keyAt P w s.heap u) := by
  intro h' keep
  have hv' : ∀ v ∈ vs, TupV P w h' (c :: sh) v := fun v m => by
    obtain ⟨k, x, e, hk, es⟩ := hv v m
    exact ⟨k, x, e, mix_cls keep ha hk, es⟩
  obtain ⟨fs, f1, f2, f3⟩ := kat_heads vs hv'
  refine ⟨tuples' true, fun Q E hq => ?_, tup_cmp (sh := c :: sh) fun v m => ?_⟩
  · cases c with
    | true =>
      refine PySem.W.kat_kind (T := .type "int") f1 (by omega) (fun f m => ?_) (by rfl) ?_
      · rcases f3 f m with ⟨_, i, t, rfl⟩ | ⟨z, _⟩
        · exact PySem.W.Looks.now
        · cases z
      · rw [show (Value.type "int" != Value.type "tuple") = true from by decide +kernel]
        exact hq
    | false =>
      refine PySem.W.kat_kind (T := .type "str") f1 (by omega) (fun f m => ?_) (by rfl) ?_
      · rcases f3 f m with ⟨z, _⟩ | ⟨_, x, t, rfl⟩
        · cases z
        · exact PySem.W.Looks.now
      · rw [show (Value.type "str" != Value.type "tuple") = true from by decide +kernel]
        exact hq
  · obtain ⟨k, x, e, hk, es⟩ := hv v m
    exact ⟨k, x, e, hk, mix_cls keep ha hk, es⟩
end
end Sx
set_option linter.all false
set_option maxRecDepth 100000
set_option maxHeartbeats 2000000
/-! sorted of a list of tuples, of a set of tuples -/
namespace Sx
open PySem PySem.Spec PyProof.Rows L2
abbrev refsOf (R : Rows) : List V := R.map fun p => V.ref p.1
abbrev valsOf (R : Rows) : List Value := R.map fun p => Value.ref p.1
theorem vals_refs : ∀ R : Rows, Vals (refsOf R) (valsOf R)
  | [] => .nil
  | _ :: R => .cons rfl (vals_refs R)
theorem refs_vals : ∀ {R : Rows} {us : List Value}, Vals (refsOf R) us → us = valsOf R
  | [], _, .nil => rfl
  | _ :: R, _, .cons r t => by
    cases r
    rw [refs_vals t] <;> rfl
/-- rows picked by their values -/
theorem rows_back {R : Rows} {us : List Value} (h : ∀ u ∈ us, u ∈ valsOf R) : ∃ R2, us = valsOf R2 ∧ ∀ p ∈ R2, p ∈ R := by
  induction us with
  | nil => exact ⟨[], rfl, fun p m => absurd m List.not_mem_nil⟩
  | cons u us ih =>
    obtain ⟨R2, e, sub⟩ := ih fun v m => h v (List.mem_cons_of_mem _ m)
    obtain ⟨p, m, rfl⟩ := List.mem_map.mp (h u List.mem_cons_self)
    refine ⟨p :: R2, by show _ = Value.ref p.1 :: valsOf R2; rw [e], fun q hq => ?_⟩
    rcases List.mem_cons.mp hq with rfl | hq
    · exact m
    · exact sub q hq
/-- the same addresses in another order are the same rows -/
theorem rows_perm {R R2 : Rows} (inj : ∀ p ∈ R, ∀ q ∈ R, p.1 = q.1 → p = q) (sub : ∀ p ∈ R2, p ∈ R) (pm : (valsOf R2).Perm (valsOf R)) : R2.Perm R := by
  have z := pm
  clear pm
  induction R2 generalizing R with
  | nil =>
    have e : valsOf R = [] := List.Perm.eq_nil z.symm
    rw [List.map_eq_nil_iff.mp e]
  | cons p R2 ih =>
    obtain ⟨S, T, eR⟩ := List.append_of_mem (sub p List.mem_cons_self)
    have pe : R.Perm (p :: (S ++ T)) := by rw [eR]; exact List.perm_middle
    have old : ∀ r ∈ S ++ T, r ∈ R := fun r m => pe.mem_iff.mpr (List.mem_cons_of_mem _ m)
    have z2 : (valsOf R2).Perm (valsOf (S ++ T)) := (z.trans (pe.map fun p => Value.ref p.1)).cons_inv
    refine List.Perm.trans (List.Perm.cons p (ih (fun a ha b hb e => inj a (old a ha) b (old b hb) e) (fun q hq => ?_) z2)) pe.symm
    have hr : Value.ref q.1 ∈ valsOf (S ++ T) := z2.mem_iff.mp (List.mem_map.mpr ⟨q, hq, rfl⟩)
    obtain ⟨r, hr, e⟩ := List.mem_map.mp hr
    injection e with e
    rw [inj q (sub q (List.mem_cons_of_mem _ hq)) r (old r hr) e.symm]
    exact hr
theorem rising {P : Program} {w : World} {h : Heap} {R : Rows} (ht : ∀ p ∈ R, MixT P w h p.2 p.1) (hs : SrtO.Srtd (fun v u => ltT (keyAt P w h v) (keyAt P w h u)) (valsOf R)) : R.Pairwise fun x y => ltT y.2 x.2 = false := by
  refine List.Pairwise.imp_of_mem (fun {x y} hx hy z => ?_) (List.pairwise_map.mp hs)
  have z : ltT (keyAt P w h (.ref y.1)) (keyAt P w h (.ref x.1)) = false := z
  rw [keyAt_of (ht x hx), keyAt_of (ht y hy)] at z
  exact z
section
variable {X : Cx}
/-- sorted(xs), xs a list of tuples of one shape: a new list of the same, rising -/
def rSortM (K : PySem.W.Frag) : List V → Hp → VK → Prop := fun vs H Q => ∃ (a : Addr) (R : Rows) (c : Bool) (sh : List Bool), vs = [V.ref a] ∧ SqL K H a (refsOf R) ∧ TupsIn H R ∧ (∀ p ∈ R, shp p.2 = c :: sh) ∧
  ∀ (R2 : Rows) (p : Addr), R2.Perm R → R2.Pairwise (fun x y => ltT y.2 x.2 = false) → H p = none → Q (.ref p) (upd H p (.lst (refsOf R2)))
theorem tups_inj {H : Hp} {R : Rows} (ht : TupsIn H R) : ∀ p ∈ R, ∀ q ∈ R, p.1 = q.1 → p = q := fun p hp q hq e => by
  have a := ht p hp
  have b := ht q hq
  rw [e, b] at a
  injection a with a
  injection a with a
  have inj : ∀ k l : List Key, k.map kV = l.map kV → k = l := by
    intro k
    induction k with
    | nil => intro l e; cases l <;> first | rfl | cases e
    | cons k ks ih =>
      intro l e
      cases l with
      | nil => cases e
      | cons l ls =>
        injection e with e1 e2
        rw [ih ls e2]
        cases k <;> cases l <;> first | (injection e1 with e1; rw [e1]) | cases e1
  exact Prod.ext e (inj _ _ a.symm)
theorem cr_sortM : CallR X (.builtin "sorted") (rSortM X.K) := by
  intro pins s σ H vs us Q I r h
  obtain ⟨a, R, c, sh, rfl, hs, ht, hsh, q⟩ := h
  obtain ⟨its, rv, hl, hz⟩ := I.list hs
  rw [Vals.ref1 r]
  have ei := refs_vals rv
  subst ei
  have raw := tups_raw I ht
  have szR : (valsOf R).length ≤ sizeLine := by rw [← rv.length]; exact hz
  have ord := SrtO.sorted_ord (prog := X.prog) (w := X.w) (A := X.A) (E := X.xe) (s := s) (l := a) (vs := valsOf R) (ltv := fun v u => ltT (keyAt X.prog X.w s.heap v) (keyAt X.prog X.w s.heap u))
    (Q := EP X pins σ Q) (lin_tup.swo _) hl.isList szR
  refine ord (fun h2 h₁ a' ha' kk => ?_) fun out h1 h2 => ?_
  · have hv : ∀ v ∈ valsOf R, TupV X.prog X.w h₁ (c :: sh) v ∧ keyAt X.prog X.w h₁ v = keyAt X.prog X.w s.heap v := fun v m => by
      obtain ⟨p, mp, rfl⟩ := List.mem_map.mp m
      obtain ⟨o, items, n, ho, rest⟩ := raw p mp
      have z : MixT X.prog X.w h₁ p.2 p.1 := ⟨o, items, n, (kk _ o ho).2, rest⟩
      exact ⟨⟨p.2, p.1, rfl, z, hsh p mp⟩, by rw [keyAt_of z, keyAt_of (raw p mp)]⟩
    intro h' keep
    obtain ⟨κ, k1, k2⟩ := tups_sortable (P := X.prog) (w := X.w) (A := X.A.in1.in1) (s := { s with heap := h₁ }) (a := a') (vs := valsOf R) (sh := sh) (c := c) (by omega) (fun v m => (hv v m).1) (fun o e z => by
      rw [ha'] at e
      cases e
      exact absurd (Value.type.inj z) (by decide)) h' keep
    refine ⟨κ, k1, fun p q hp hq => ?_⟩
    have y := k2 p q hp hq
    refine wpAny_mono y (fun r s' ⟨e1, e2⟩ => ⟨e1, ?_⟩) fun _ _ f => f
    rw [e2]
    show ltT (keyAt X.prog X.w h₁ p.1) (keyAt X.prog X.w h₁ q.1) = ltT (keyAt X.prog X.w s.heap p.1) (keyAt X.prog X.w s.heap q.1)
    rw [(hv _ hp).2, (hv _ hq).2]
  · obtain ⟨ep, he'⟩ := PyProof.Rows.sortedAll_at s.heap (valsOf R) out.toArray
    obtain ⟨R2, rfl, sub⟩ := rows_back fun u m => h2.perm.mem_iff.mp m
    have pm := rows_perm (tups_inj ht) sub h2.perm
    have hlen : (refsOf R2).length ≤ sizeLine := by
      rw [List.length_map, pm.length_eq]
      rw [List.length_map] at szR
      exact szR
    exact ⟨.ref _, upd H (s.heap.objs.size + 1) (.lst (refsOf R2)), I.laid (t' := s.toks) (fun _ _ => PyProof.Rows.sortedAll_old) (Nat.le_succ _) ⟨hlen, valsOf R2, ep, vals_refs R2, he'⟩, rfl,
      q R2 _ pm (rising (fun p m => raw p (sub p m)) h1) (I.hok.fresh (Nat.le_succ _))⟩
end
end Sx
set_option linter.all false
set_option maxRecDepth 100000
set_option maxHeartbeats 2000000
/-! sorted of a set of tuples -/
namespace Sx
open PySem PySem.Spec PyProof.Rows L2
section
variable {P : Program} {w : World} {A : Around} {E : Value → Shared → Prop} {s : Shared}
theorem sorted_mset {a : Addr} {L : Rows} {es : Array (Int × Value)} {ep : Nat} {t : SetTable} {Q : Value → Shared → Prop} (R : MSet P w s.heap a L es ep t) (hh : A.handled = none) {c : Bool} {sh : List Bool} (hs : ∀ p ∈ L, shp p.2 = c :: sh)
    (hQ : ∀ s' p (L2 : Rows) (n : Nat), (∀ b o, s.heap.get? b = some o → s'.heap.get? b = some o) → s'.gens = s.gens → s'.os = s.os → s.heap.objs.size ≤ p →
      s'.heap.get? p = some (seqObj "list" (valsOf L2).toArray n) → L2.Perm L → L2.Pairwise (fun x y => ltT y.2 x.2 = false) → Q (.ref p) s') :
    wpAny (model P w) A (call (.builtin "sorted") [.ref a]) Q E s := by
  obtain ⟨o, ho, hex, hd⟩ := R.ob
  have n1 := cells_size R.rows
  have few := R.few
  refine Calls.call_function_entry kind_sorted plain_sorted entry_sorted (args_sorted1 _) ?_
  unfold Builtin.«sorted»
  refine wpAny_bind (m := checkCount "sorted" 1 1 _) (wpAny_pure ?_)
  refine wpAny_bind (collect_set (A := A.in1) hh ⟨o, ho, hex.1, hd⟩ R.fits (by unfold scanBound; omega) R.tab.up R.led fun s1 vs k1 hz g1 o1 pm => ?_)
  have esV : es.toList.map (·.2) = valsOf L := by
    rw [R.rows]
    unfold cells
    rw [List.map_map] <;> rfl
  rw [esV] at pm
  have inj : ∀ p ∈ L, ∀ q ∈ L, p.1 = q.1 → p = q := fun p hp q hq e => by
    have x := R.tup p hp
    rw [e] at x
    exact Prod.ext e (x.inj (R.tup q hq))
  have lv : vs.length = L.length := by rw [pm.length_eq, List.length_map]
  refine wpAny_bind (wpAny_newList ?_ (by rw [sizeLine_eq]; omega))
  have hoL : (s1.heap.push (seqObj "list" vs.toArray 0)).get? s1.heap.objs.size = some (seqObj "list" vs.toArray 0) := Heap.get?_push_size _ rfl
  have raw : ∀ p ∈ L, MixT P w (s1.heap.push (seqObj "list" vs.toArray 0)) p.2 p.1 := fun p m => by
    obtain ⟨ob, items, n, hob, rest⟩ := R.tup p m
    exact ⟨ob, items, n, Heap.get?_push_of_some _ (k1 _ _ hob), rest⟩
  have shape : ∀ v ∈ vs, TupV P w (s1.heap.push (seqObj "list" vs.toArray 0)) (c :: sh) v := fun v m => by
    obtain ⟨p, mp, rfl⟩ := List.mem_map.mp (pm.mem_iff.mp m)
    exact ⟨p.2, p.1, rfl, raw p mp, hs p mp⟩
  refine wpAny_bind (wpAny_holding (wpAny_call_entry PyProof.Rows.slot_list_sort ⟨_, hoL, rfl⟩ PyProof.Rows.entry_list_sort
    (SrtO.list_sort_ord (s := { s1 with heap := s1.heap.push (seqObj "list" vs.toArray 0) }) (ltv := fun v u => ltT (keyAt P w (s1.heap.push (seqObj "list" vs.toArray 0)) v) (keyAt P w (s1.heap.push (seqObj "list" vs.toArray 0)) u)) (lin_tup.swo _) hoL (by rw [sizeLine_eq]; omega)
      (fun h2 => tups_sortable (s := { s1 with heap := s1.heap.push (seqObj "list" vs.toArray 0) }) (by omega) shape fun ob e z => ?_) fun out h1 h2 => ⟨_, rfl, ?_⟩) (PyProof.Rows.args_list_sort _)))
  · have e2 : some ob = some (seqObj "list" vs.toArray 0) := (show (s1.heap.push (seqObj "list" vs.toArray 0)).get? s1.heap.objs.size = some ob from e).symm.trans hoL
    cases e2
    exact absurd (Value.type.inj z) (by decide)
  · obtain ⟨n, hn⟩ := PyProof.Rows.sortedHeap_at (vs := vs) (out := out.toArray) hoL
    obtain ⟨L2, rfl, sub⟩ := rows_back (R := L) fun u m => pm.mem_iff.mp (h2.perm.mem_iff.mp m)
    refine wpAny_pure ⟨_, rfl, hQ _ s1.heap.objs.size L2 n (fun b u e => ?_) g1 o1 hz hn (rows_perm inj sub (h2.perm.trans pm)) (rising (fun p m => raw p (sub p m)) h1)⟩
    have lt := Heap.lt_size (k1 b u e)
    show (sortedHeap (s1.heap.push (seqObj "list" vs.toArray 0)) s1.heap.objs.size vs _).get? b = some u
    rw [sortedHeap_old (Nat.ne_of_lt lt) (by rw [size_push']; exact Nat.lt_succ_of_lt lt)]
    exact Heap.get?_push_of_some _ (k1 b u e)
end
section
variable {X : Cx}
/-- sorted(S), S a set of tuples of one shape: a new list of its tuples, rising -/
def rSortMS (P : Program) (w : World) : List V → Hp → VK → Prop := fun vs H Q => ∃ (a : Addr) (L : Rows) (c : Bool) (sh : List Bool), vs = [V.ref a] ∧ H a = some (MSetO P w a L) ∧ TupsIn H L ∧ (∀ p ∈ L, shp p.2 = c :: sh) ∧
  ∀ (L2 : Rows) (p : Addr), L2.Perm L → (L2.map (·.2)).Nodup → L2.Pairwise (fun x y => ltT y.2 x.2 = false) → H p = none → Q (.ref p) (upd H p (.lst (refsOf L2)))
theorem cr_sortMS (hc : X.calm = true) : CallR X (.builtin "sorted") (rSortMS X.prog X.w) := by
  intro pins s σ H vs us Q I r h
  obtain ⟨a, L, c, sh, rfl, ha, ht, hs, q⟩ := h
  obtain ⟨es, ep, t, R⟩ := mset_get I ha ht
  rw [Vals.ref1 r]
  refine sorted_mset R (I.ok.hd hc) hs fun s' p L2 n k g o hp hg pm up => ?_
  have hn : H p = none := I.hok.fresh hp
  have few := R.few
  have hlen : (refsOf L2).length ≤ sizeLine := by rw [List.length_map, pm.length_eq, sizeLine_eq]; omega
  have J : Inv X pins σ (upd H p (.lst (refsOf L2))) { s with heap := s'.heap, gens := s'.gens, drawn := s'.drawn, toks := s'.toks } :=
    I.call (ch := []) (Un.laid k hp hn) (I.hok.laid k hp ⟨hlen, valsOf L2, n, vals_refs L2, hg⟩) (by rw [g]; exact I.bare) (fun _ z => nomatch z)
  have e : s' = { s with heap := s'.heap, gens := s'.gens, drawn := s'.drawn, toks := s'.toks } := by
    cases s'; cases s; cases o; rfl
  rw [e]
  exact ⟨.ref p, _, J, rfl, q L2 p pm ((pm.map (·.2)).nodup_iff.mpr R.nd) up hn⟩
end
end Sx
set_option linter.all false
set_option maxRecDepth 100000
set_option maxHeartbeats 2000000
/-! dicts with tuple keys: setdefault, the comprehension -/
namespace Sx
open PySem PySem.Spec PyProof.Rows L2
section
variable {X : Cx} {pins : List (Addr × Obj)} {σ : L2.St} {H : Hp} {s : Shared} {a b : Addr} {r : Value} {d : V} {k : List Key} {A : Around} {E : Value → Shared → Prop} {kvs : List (List Key × V)}
theorem dt_stored {h' : Heap} {t' : Nat} {xs : List (List Key × Addr × Value)} (I : Inv X pins σ H s) (e : H a = some (.dT kvs)) (eb : H b = some (.tup (k.map kV))) (fit : kvs.length < sizeLine) (no : (a == sysModules) = false) (rel : KT H kvs xs) (rd : RelV d r)
    (dd : h'.DictOfH (tupleKind (mixKind X.prog X.w)) a (storedH xs k b r)) (sb : Heap.SameBut a s.heap h') : Inv X pins σ (upd H a (.dT (putK kvs k d))) { s with heap := h', toks := t' } := by
  have len := length_putK kvs k d
  obtain ⟨q, es, ep, hq, h2, h3, h4, _, h5⟩ := dd
  refine d_write I (by rw [e]; exact True.intro) sb ⟨q, hq⟩ ⟨by omega, no, _, (rel.put k eb rd).keeps fun c ys ec => ?_, q, es, ep, hq, h2, h3, h4, h5⟩
  rw [upd_ne (ne_of ec e (fun z => nomatch z))]
  exact ec
theorem dt_setd {Q : Value → Shared → Prop} (hu : A.units + 1 < cLine) (I : Inv X pins σ H s) (e : H a = some (.dT kvs)) (eb : H b = some (.tup (k.map kV))) (rd : RelV d r) (fit : kvs.length < sizeLine)
    (h1 : ∀ v, valV kvs k = some v → ∀ w' s', Inv X pins σ H s' → RelV v w' → Q w' s') (h2 : valV kvs k = none → ∀ s', Inv X pins σ (upd H a (.dT (putK kvs k d))) s' → Q r s') :
    wpAny (model X.prog X.w) A (call (.builtin "dict.setdefault") [.ref a, .ref b, r]) Q E s := by
  obtain ⟨z, no, xs, rel, dd⟩ := dt_of I.hok e
  have lx : xs.length ≤ sizeLine := (Paired.length rel) ▸ z
  have v := rel.val k
  refine call_setdefault_heap (knd := tupleKind (mixKind X.prog X.w)) (hsz := lx) (tupleKind_room_in1 hu) (key_of I.hok eb) no dd (fun p hp => ?_) fun hn h' dd' sb => ?_
  · rw [hp] at v
    rcases q : valV kvs k with _ | v0
    · rw [q] at v; exact (show False from v).elim
    · rw [q] at v; exact h1 v0 q _ _ (I.tok _) v
  · rw [hn] at v
    rcases q : valV kvs k with _ | v0
    · exact h2 q _ (dt_stored I e eb fit no rel rd dd' sb)
    · rw [q] at v; exact (show False from v).elim
theorem dt_dictSet {Q : Unit → Shared → Prop} (hu : A.units + 1 < cLine) (I : Inv X pins σ H s) (e : H a = some (.dT kvs)) (eb : H b = some (.tup (k.map kV))) (rd : RelV d r) (fit : kvs.length < sizeLine)
    (h : ∀ s', Inv X pins σ (upd H a (.dT (putK kvs k d))) s' → Q () s') : wpAny (model X.prog X.w) A (dictSet a (.ref b) r) Q E s := by
  obtain ⟨z, no, xs, rel, dd⟩ := dt_of I.hok e
  have lx : xs.length ≤ sizeLine := (Paired.length rel) ▸ z
  exact wpAny_dictSet_heap (knd := tupleKind (mixKind X.prog X.w)) (hsz := lx) (show A.units < cLine by omega) (key_of I.hok eb) dd fun h' dd' sb => h _ (dt_stored I e eb fit no rel rd dd' sb)
end
/-- d.setdefault(k, z), d a dict with tuple keys -/
def tSetdT (td tk tz : TE) : TE := fun σ H Q => td σ H fun x H1 => ∃ a, x = .ref a ∧ IsD H1 a ∧ tk σ H1 fun y H2 => tz σ H2 fun z H3 => ∃ (kvs : List (List Key × V)) (k : List Key) (b : Addr), H3 a = some (.dT kvs) ∧ y = .ref b ∧ H3 b = some (.tup (k.map kV)) ∧ kvs.length < sizeLine ∧
  (∀ v, valV kvs k = some v → Q v H3) ∧ (valV kvs k = none → Q z (upd H3 a (.dT (putK kvs k z))))
section
variable {X : Cx} {o e f : Expr} {td tk tz : TE} {apos cpos : Pos}
theorem pe_setdT (hu : X.A.units + 1 < cLine) (ho : PE X o td) (he : PE X e tk) (hf : PE X f tz) (m : M2 X o "setdefault" apos e f cpos) : PE X (.Call (.Attribute o "setdefault" apos) [e, f] [] cpos) (tSetdT td tk tz) := by
  refine ⟨fun pins s σ H Q I h => ?_⟩
  refine wpAny_Call_method m.base m.few m.line PySem.F.plainAttrs_dict PySem.F.slot_dict_setdefault PySem.F.type_dict_setdefault (thn (ho.run pins s σ H _ I h) fun u s1 ⟨x, H1, I1, rx, a, ex, dd, q1⟩ => ?_)
  subst ex
  cases (show u = Value.ref a from rx)
  have tt := isD_at I1 dd
  refine ⟨tt.1, tt.2.1, ?_⟩
  rw [m.trees]
  refine Calls.callWith_builtin rfl (Calls.evalArgs_plain (Calls.spliced_cons (thn (he.run pins s1 σ H1 _ I1 q1) fun kv s2 ⟨y, H2, I2, ry, q2⟩ =>
    Calls.spliced_cons (thn (hf.run pins s2 σ H2 _ I2 q2) fun fv s3 ⟨z, H3, I3, rz, kvs, k, b, ea, ey, eb, fit, q3, q4⟩ => Calls.spliced_nil ?_))))
  subst ey
  cases (show kv = Value.ref b from ry)
  exact dt_setd hu I3 ea eb rz fit (fun v hv w' s4 I4 r4 => ⟨v, _, I4, r4, q3 v hv⟩) fun hn s4 I4 => ⟨z, _, I4, rz, q4 hn⟩
/-- {k: v for target in iter if ..}, keys tuples -/
def tDt (wi : TI) (g : TG) (tt : TT) (tk tv : TE) (vs : List Nat) : TE := fun σ H Q => wi σ H fun J H1 => ∀ D, H1 D = none → ∃ W : Nat → Nat → Hp → Prop, (∃ m, W 0 m (upd H1 D (.dT []))) ∧ ∀ i m H, W i m H →
  (J.stop i H ∧ Q (.ref D) H) ∨ (J.go i H ∧ ∃ Nx : Hp → Prop, (∀ H', Nx H' → ∃ m', m' < m ∧ W (i + 1) m' H') ∧ ∀ x H', J.yld i H x H' → g x (wipe σ vs) H' fun σ2 H2 => wipe σ2 vs = wipe σ vs ∧ tt σ2 H2 fun b H3 =>
    if b = true then tk σ2 H3 fun y H4 => tv σ2 H4 fun z H5 => ∃ (kvs : List (List Key × V)) (k : List Key) (p : Addr), y = .ref p ∧ H5 p = some (.tup (k.map kV)) ∧ H5 D = some (.dT kvs) ∧ kvs.length < sizeLine ∧ Nx (upd H5 D (.dT (putK kvs k z))) else Nx H3)
theorem dt_run {pins : List (Addr × Obj)} {s : Shared} {σ : L2.St} {H : Hp} {Q : VK} {kx vx tg iter : Expr} {ifs : List Expr} {scope : Scope} {own : List (PySem.Str × Nat)} {pos at_ : Pos} {wi : TI} {g : TG} {tt : TT} {tk tv : TE} {use : Option (Value → Sem Unit)} {Qf : Value → Shared → Prop}
    (hu : X.A.units + 64 < cLine) (hc : X.calm = true) (hN : X.N.Nodup) (I : Inv X pins σ H s) (hi : PI X tg iter wi) (ok : BlkOk X.N X.env.scope scope own)
    (hg : ∀ s H C cl fp, PG (X.blk s H scope (compEnvC scope cl C X.env) fp) tg g) (ht : ∀ s H C cl fp, PTs (X.blk s H scope (compEnvC scope cl C X.env) fp) ifs tt)
    (hk : ∀ s H C cl fp, PE (X.blk s H scope (compEnvC scope cl C X.env) fp) kx tk) (he : ∀ s H C cl fp, PE (X.blk s H scope (compEnvC scope cl C X.env) fp) vx tv) (hs : ∀ x, foldedSetIterable iter X.env x = pure x)
    (h : tDt wi g tt tk tv (own.map (·.2)) σ H Q)
    (hR : ∀ D C s' m H', Inv X pins σ H' s' → Q (.ref D) H' → s'.heap.Ns C m → FpOk X pins H' C → compPost (model X.prog X.w) X.A X.xe use Qf (.ref D) C (.ok .next) s') :
    wpAny (model X.prog X.w) X.A (comprehension (.DictComp kx vx [⟨tg, iter, ifs, 0⟩] scope pos) scope X.env at_ newDict false (eval iter X.env) use) Qf X.xe s := by
  have frees : ∀ y ∈ scope.names, y.2 = .free → ∃ c, X.env.cells.lookup y.1 = some c := fun y m e => (ok.free y m e).elim (fun k => I.ok.has _ (.inl k)) fun k => I.ok.has _ (.inr k)
  refine wpAny_comprehension_free (use := use) rfl hs (closure_ok frees) ok.kind (fun y m e => by rw [ok.uniq y m, e])
    (thn (hi.run pins s σ H _ I h) fun xv s1 hx => thn hx fun itv s2 h2 => ?_)
  obtain ⟨it, fp, tn, J, H2, rfl, I2, T, st2, f2, q⟩ := h2
  refine wpAny_newObj_type (newEnv_comp ?_)
  generalize eD : s2.heap.objs.size = D
  obtain ⟨W, ⟨m0, w0⟩, turn⟩ := q D (I2.hok.fresh (Nat.le_of_eq eD))
  generalize e3 : ({ s2 with heap := s2.heap.push { cls := .type "dict", data := .dict #[] } } : Shared) = s3
  have p3 : s3.heap = s2.heap.push { cls := .type "dict", data := .dict #[] } := by rw [← e3]
  have I3 : Inv X pins σ (upd H2 D (.dT [])) s3 := by
    rw [← e3]
    refine I2.laid (t' := s2.toks) (fun b o e => Heap.get?_push_of_some _ e) (Nat.le_of_eq eD) ?_
    rw [← eD]
    exact dt_empty s2.heap I2.big
  have inOld : ∀ b ∈ fp, b < s2.heap.objs.size := fun b m => by
    obtain ⟨o, e, _⟩ := T.obj _ _ st2 b m
    exact Heap.lt_size e
  have f3 : ∀ b ∈ fp, FpOk X pins (upd H2 D (.dT [])) b ∧ b < s3.heap.objs.size := fun b m => by
    have lt := inOld b m
    refine ⟨⟨?_, (f2 b m).2⟩, by rw [p3, Heap.size_push]; exact Nat.lt_succ_of_lt lt⟩
    rw [upd_ne (Nat.ne_of_lt (eD ▸ lt))]
    exact (f2 b m).1
  have st3 : tn 0 s3.heap := T.keep _ _ _ st2 fun b _ o e => by rw [p3]; exact Heap.get?_push_of_some _ e
  have I4 := block_start I3 ok hN f3
  have pg := hg s3 (upd H2 D (.dT [])) s3.heap.objs.size (cellsFrom (s3.heap.objs.size + 1) scope.names (cloFrom X.env.cells scope.names [])) fp
  have pt := ht s3 (upd H2 D (.dT [])) s3.heap.objs.size (cellsFrom (s3.heap.objs.size + 1) scope.names (cloFrom X.env.cells scope.names [])) fp
  have pk := hk s3 (upd H2 D (.dT [])) s3.heap.objs.size (cellsFrom (s3.heap.objs.size + 1) scope.names (cloFrom X.env.cells scope.names [])) fp
  have pe := he s3 (upd H2 D (.dT [])) s3.heap.objs.size (cellsFrom (s3.heap.objs.size + 1) scope.names (cloFrom X.env.cells scope.names [])) fp
  show codeAny _ _ (.compStart (.DictComp kx vx [⟨tg, iter, ifs, 0⟩] scope pos) 0 (.ref it) (.ref D) (compEnvC scope (cellsFrom (s3.heap.objs.size + 1) scope.names (cloFrom X.env.cells scope.names [])) s3.heap.objs.size X.env)) (compPost (model X.prog X.w) X.A X.xe use Qf (.ref D) s3.heap.objs.size) { s3 with heap := pushCells (s3.heap.push { cls := .type "dict", data := .dict #[] }) scope.names }
  have none3 : ∀ b ∈ fp, (upd H2 D (.dT [])) b = none := fun b m => (f3 b m).1.1
  generalize ece : compEnvC scope (cellsFrom (s3.heap.objs.size + 1) scope.names (cloFrom X.env.cells scope.names [])) s3.heap.objs.size X.env = ce at I4 pg pt pk pe ⊢
  have cl : ce.locals = s3.heap.objs.size := by rw [← ece]; rfl
  generalize upd H2 D (.dT []) = H3 at I3 I4 pg pt pk pe w0 none3 f3
  generalize e4 : ({ s3 with heap := pushCells (s3.heap.push { cls := .type "dict", data := .dict #[] }) scope.names } : Shared) = s4 at I4 ⊢
  have st4 : tn 0 s4.heap := T.keep _ _ _ st3 fun b _ o e => by rw [← e4]; exact pushCells_keeps _ _ _ _ (Heap.get?_push_of_some _ e)
  have calmFp : ∀ {σ' : L2.St} {H' : Hp} {s' : Shared}, Inv (X.blk s3 H3 scope ce fp) [] σ' H' s' → (∀ b ∈ fp, H' b = none) → ∀ b ∈ fp, FpOk (X.blk s3 H3 scope ce fp) [] H' b := fun {σ' H' s'} I' n b m =>
    ⟨n b m, (I'.ok.exf b m).1, I'.ok.exfs b m, .inl m, fun x c e => (I'.ok.exf b m).2 x c e, fun p hp => absurd (show p ∈ ([] : List (Addr × Obj)) ++ [] from hp) (by simp)⟩
  have loop : codeAny (model X.prog X.w) X.A (.compLoop (.DictComp kx vx [⟨tg, iter, ifs, 0⟩] scope pos) 0 (.ref it) (.ref D) ce) (compPost (model X.prog X.w) X.A X.xe use Qf (.ref D) s3.heap.objs.size) s4 := by
    refine compLoop_anyD (fun n s' => ∃ i H', Inv (X.blk s3 H3 scope ce fp) [] (wipe σ (own.map (·.2))) H' s' ∧ tn i s'.heap ∧ (∀ b ∈ fp, H' b = none) ∧ W i n H') ?_ m0 ⟨0, H3, I4, st4, none3, w0⟩
    rintro n s5 ⟨i, H5, I5, st5, n5, w5⟩
    rcases turn i n H5 w5 with ⟨stop, fin⟩ | ⟨go, Nx, next, step⟩
    · refine thnF (T.done (X.blk s3 H3 scope ce fp) rfl rfl rfl hc i [] s5 _ H5 (fun _ _ => False) I5 (calmFp I5 n5) st5 stop) fun r s6 ⟨hr, I6⟩ => ?_
      subst hr
      have I7 : Inv X pins σ H5 s6 := I3.call' (ch := fp) I6.os I6.base I6.hok I6.bare fun b m => ⟨(f3 b m).1.2.2.2.1, (f3 b m).1.2.1, (f3 b m).1.2.2.2.2.1, (f3 b m).1.2.2.2.2.2⟩
      have nC : H5 s3.heap.objs.size = none := cl ▸ (show H5 ce.locals = none from I6.free)
      obtain ⟨m, hn, _⟩ := I6.loc
      exact hR D s3.heap.objs.size s6 m H5 I7 fin (cl ▸ (show s6.heap.Ns ce.locals m from hn)) (I3.fpOk (Nat.le_refl _) nC)
    · refine thnF (T.item (X.blk s3 H3 scope ce fp) rfl rfl rfl hc i [] s5 _ H5 (fun _ _ => False) I5 (calmFp I5 n5) st5 go) fun r s6 ⟨u, hr, h6⟩ => ?_
      subst hr
      refine thnF h6 fun _ s7 ⟨x, H7, I7, r7, y7, st7, n7⟩ => ?_
      have pinned := I7.pinned (calmFp I7 n7) (T.obj _ _ st7)
      refine thnF (pg.run _ s7 _ H7 x u _ pinned r7 (step x H7 y7)) fun _ s8 ⟨σ8, H8, I8, w8, q8⟩ => ?_
      refine thnF (pt.run _ s8 σ8 H8 _ I8 q8) fun b s9 ⟨H9, I9, q9⟩ => ?_
      have turnEnd : ∀ {s' : Shared} {H' : Hp}, Inv (X.blk s3 H3 scope ce fp) ([] ++ pinsAt fp s7.heap) σ8 H' s' → Nx H' → ∃ m, m < n ∧ ∃ i H', Inv (X.blk s3 H3 scope ce fp) [] (wipe σ (own.map (·.2))) H' s' ∧ tn i s'.heap ∧ (∀ b ∈ fp, H' b = none) ∧ W i m H' := fun {s' H'} I' nx => by
        obtain ⟨m', lt, w'⟩ := next H' nx
        have pin : ∀ b ∈ fp, ∀ o, s7.heap.get? b = some o → s'.heap.get? b = some o ∧ H' b = none := fun b m o e => by
          have z := I'.pin (b, o) (List.mem_append_right _ (List.mem_append_right _ (mem_pinsAt m e)))
          exact ⟨z.1, z.2.1⟩
        refine ⟨m', lt, i + 1, H', (I'.unpinned (pins := [])).weak (by rw [← w8, wipe_length]) (fun j v e => ?_), T.keep _ _ _ st7 fun b m o e => (pin b m o e).1, fun b m => ?_, w'⟩
        · rw [← w8] at e
          exact (wipe_some e).1
        · obtain ⟨o, e, _⟩ := T.obj _ _ st7 b m
          exact (pin b m o e).2
      cases b with
      | false =>
        simp only [Bool.false_eq_true, if_false] at q9 ⊢
        exact turnEnd I9 q9
      | true =>
        simp only [if_true] at q9 ⊢
        refine thnF (pk.run _ s9 σ8 H9 _ I9 q9) fun z s10 ⟨yk, H10, I10, r10, q10⟩ => ?_
        refine thnF (pe.run _ s10 σ8 H10 _ I10 q10) fun z2 s11 ⟨yv, H11, I11, r11, kvs, k, p, ek, ep, hD11, fit, nx⟩ => ?_
        subst ek
        cases (show z = Value.ref p from r10)
        exact dt_dictSet (X := X.blk s3 H3 scope ce fp) (show X.A.units + 1 < cLine by omega) I11 hD11 ep r11 fit fun s12 I12 => turnEnd I12 nx
  exact codeAny_compStart_dict loop (T.self X.A 0 _ _ _ st4 loop)
theorem pe_dt {kx vx tg iter : Expr} {ifs : List Expr} {scope : Scope} {own : List (PySem.Str × Nat)} {pos : Pos} {wi : TI} {g : TG} {tt : TT} {tk tv : TE} (hu : X.A.units + 64 < cLine) (hc : X.calm = true) (hN : X.N.Nodup) (hi : PI X tg iter wi) (ok : BlkOk X.N X.env.scope scope own)
    (hg : ∀ s H C cl fp, PG (X.blk s H scope (compEnvC scope cl C X.env) fp) tg g) (ht : ∀ s H C cl fp, PTs (X.blk s H scope (compEnvC scope cl C X.env) fp) ifs tt)
    (hk : ∀ s H C cl fp, PE (X.blk s H scope (compEnvC scope cl C X.env) fp) kx tk) (he : ∀ s H C cl fp, PE (X.blk s H scope (compEnvC scope cl C X.env) fp) vx tv) (hs : ∀ x, foldedSetIterable iter X.env x = pure x := by intro _; rfl) :
    PE X (.DictComp kx vx [⟨tg, iter, ifs, 0⟩] scope pos) (tDt wi g tt tk tv (own.map (·.2))) := by
  refine ⟨fun pins s σ H Q I h => ?_⟩
  rw [arm_eval_DictComp]
  refine dt_run hu hc hN I hi ok hg ht hk he hs h fun D C s' m H' I' q hn f => ⟨m, hn, fun h'' sb => ?_⟩
  obtain ⟨f0, f1, f2, f3, f4, f5⟩ := f
  exact ⟨.ref D, H', I'.turned (t' := s'.toks) (fun b o hb e => (sb.2 b hb).trans e) f0 f1 f3 f4 f5, rfl, q⟩
end
end Sx
set_option linter.all false
set_option maxRecDepth 100000
set_option maxHeartbeats 2000000
/-! the one rising list of some things; sorted of texts, any number of them -/
namespace Sx
open PySem PySem.Spec PyProof.Rows L2
section
variable {α : Type}
def ins (lt : α → α → Bool) (x : α) : List α → List α
  | [] => [x]
  | y :: l => if lt y x = true then y :: ins lt x l else x :: y :: l
def srt (lt : α → α → Bool) : List α → List α
  | [] => []
  | x :: l => ins lt x (srt lt l)
theorem ins_perm (lt : α → α → Bool) (x : α) : ∀ l, (ins lt x l).Perm (x :: l)
  | [] => List.Perm.refl _
  | y :: l => by
    rw [ins]
    by_cases c : lt y x = true
    · rw [if_pos c]
      exact ((ins_perm lt x l).cons y).trans (List.Perm.swap x y l)
    · rw [if_neg c]
theorem srt_perm (lt : α → α → Bool) : ∀ l, (srt lt l).Perm l
  | [] => List.Perm.refl _
  | x :: l => (ins_perm lt x (srt lt l)).trans ((srt_perm lt l).cons x)
abbrev Up (lt : α → α → Bool) (l : List α) : Prop := l.Pairwise fun x y => lt y x = false
variable {lt : α → α → Bool}
theorem Lin.ins_up (O : Lin lt) (x : α) : ∀ {l}, Up lt l → Up lt (ins lt x l)
  | [], _ => List.pairwise_singleton _ _
  | y :: l, h => by
    obtain ⟨h1, h2⟩ := List.pairwise_cons.mp h
    rw [ins]
    by_cases c : lt y x = true
    · rw [if_pos c]
      refine List.pairwise_cons.mpr ⟨fun z m => ?_, O.ins_up x h2⟩
      rcases List.mem_cons.mp ((ins_perm lt x l).mem_iff.mp m) with e | m
      · rw [e]; exact O.asym c
      · exact h1 z m
    · rw [if_neg c]
      have c' : lt y x = false := Bool.eq_false_iff.mpr c
      refine List.pairwise_cons.mpr ⟨fun z m => ?_, h⟩
      rcases List.mem_cons.mp m with e | m
      · rw [e]; exact c'
      · exact O.le_tr c' (h1 z m)
theorem Lin.srt_up (O : Lin lt) : ∀ l, Up lt (srt lt l)
  | [] => List.Pairwise.nil
  | x :: l => O.ins_up x (O.srt_up l)
theorem Lin.is_srt (O : Lin lt) {l m : List α} (h : Up lt l) (p : l.Perm m) : l = srt lt m := O.uniq h (O.srt_up m) (p.trans (srt_perm lt m).symm)
variable [DecidableEq α]
/-- each once, as it is first met -/
def once : List α → List α
  | l => l.foldl (fun acc x => if x ∈ acc then acc else acc ++ [x]) []
def onceGo (acc l : List α) : List α := l.foldl (fun acc x => if x ∈ acc then acc else acc ++ [x]) acc
theorem onceGo_spec : ∀ (l acc : List α), acc.Nodup → (onceGo acc l).Nodup ∧ ∀ x, x ∈ onceGo acc l ↔ x ∈ acc ∨ x ∈ l
  | [], acc, h => ⟨h, fun x => by simp [onceGo]⟩
  | y :: l, acc, h => by
    by_cases c : y ∈ acc
    · have e : onceGo acc (y :: l) = onceGo acc l := by unfold onceGo; rw [List.foldl_cons, if_pos c]
      obtain ⟨a, b⟩ := onceGo_spec l acc h
      rw [e]
      refine ⟨a, fun x => (b x).trans ?_⟩
      rw [List.mem_cons]
      constructor
      · rintro (z | z)
        · exact .inl z
        · exact .inr (.inr z)
      · rintro (z | z | z)
        · exact .inl z
        · rw [z]; exact .inl c
        · exact .inr z
    · have e : onceGo acc (y :: l) = onceGo (acc ++ [y]) l := by unfold onceGo; rw [List.foldl_cons, if_neg c]
      have nd : (acc ++ [y]).Nodup := (List.perm_append_singleton y acc).nodup_iff.mpr (List.nodup_cons.mpr ⟨c, h⟩)
      obtain ⟨a, b⟩ := onceGo_spec l (acc ++ [y]) nd
      rw [e]
      refine ⟨a, fun x => (b x).trans ?_⟩
      rw [List.mem_append, List.mem_singleton, List.mem_cons, or_assoc]
theorem once_nodup (l : List α) : (once l).Nodup := (onceGo_spec l [] List.nodup_nil).1
theorem once_mem (l : List α) (x : α) : x ∈ once l ↔ x ∈ l := ((onceGo_spec l [] List.nodup_nil).2 x).trans (by simp)
theorem once_snoc (l : List α) (x : α) : once (l ++ [x]) = if x ∈ once l then once l else once l ++ [x] := by
  unfold once
  rw [List.foldl_append] <;> rfl
/-- the rising list of what is in l -/
def asc (lt : α → α → Bool) (l : List α) : List α := srt lt (once l)
theorem perm_once {l m : List α} (h : l.Nodup) (e : ∀ x, x ∈ l ↔ x ∈ m) : l.Perm (once m) := (List.perm_ext_iff_of_nodup h (once_nodup m)).mpr fun x => (e x).trans (once_mem m x).symm
theorem Lin.is_asc (O : Lin lt) {l m : List α} (h : l.Nodup) (u : Up lt l) (e : ∀ x, x ∈ l ↔ x ∈ m) : l = asc lt m := O.is_srt u (perm_once h e)
theorem asc_mem (lt : α → α → Bool) (l : List α) (x : α) : x ∈ asc lt l ↔ x ∈ l := ((srt_perm lt (once l)).mem_iff).trans (once_mem l x)
theorem asc_nodup (lt : α → α → Bool) (l : List α) : (asc lt l).Nodup := (srt_perm lt (once l)).nodup_iff.mpr (once_nodup l)
theorem Lin.asc_up (O : Lin lt) (l : List α) : Up lt (asc lt l) := O.srt_up _
theorem once_len (l : List α) : (once l).length ≤ l.length := by
  have z := nd_len (once l) l (once_nodup l) fun x m => (once_mem l x).mp m
  exact z
theorem asc_len (lt : α → α → Bool) (l : List α) : (asc lt l).length ≤ l.length := by
  unfold asc
  rw [(srt_perm lt (once l)).length_eq]
  exact once_len l
end

/-! ### sorted of texts -/
def sv : Value → PySem.Str
  | .str x _ => x
  | _ => ⟨#[]⟩
section
variable {P : Program} {w : World} {A : Around} {E : Value → Shared → Prop} {s : Shared}
theorem strs_of_vals : ∀ {xs : List PySem.Str} {us : List Value}, Vals (xs.map V.str) us → us.map sv = xs ∧ ∀ u ∈ us, ∃ x t, u = Value.str x t
  | [], _, .nil => ⟨rfl, fun u m => absurd m List.not_mem_nil⟩
  | x :: xs, _, .cons r t => by
    obtain ⟨tk, rfl⟩ := r
    obtain ⟨a, b⟩ := strs_of_vals t
    refine ⟨by rw [List.map_cons, a] <;> rfl, fun u m => ?_⟩
    rcases List.mem_cons.mp m with rfl | m
    · exact ⟨x, tk, rfl⟩
    · exact b u m
theorem vals_of_strs : ∀ {us : List Value}, (∀ u ∈ us, ∃ x t, u = Value.str x t) → Vals ((us.map sv).map V.str) us
  | [], _ => .nil
  | u :: us, h => by
    obtain ⟨x, t, rfl⟩ := h u List.mem_cons_self
    exact .cons ⟨t, rfl⟩ (vals_of_strs fun v m => h v (List.mem_cons_of_mem _ m))
theorem strs_are : ∀ {vs : List Value}, (∀ u ∈ vs, ∃ x t, u = Value.str x t) → StrsAre vs (vs.map sv)
  | [], _ => .nil
  | v :: vs, h => by
    obtain ⟨x, t, rfl⟩ := h v List.mem_cons_self
    exact .cons x t (strs_are fun u m => h u (List.mem_cons_of_mem _ m))
theorem text_sortable {a : Addr} {vs : List Value} (h : ∀ u ∈ vs, ∃ x t, u = Value.str x t) (h2 : 2 ≤ vs.length) : SrtO.SortableO P w A s a vs fun v u => ltText (sv v) (sv u) := by
  intro h' _
  refine ⟨oneType', fun Q E hq => ?_, ?_⟩
  · match vs, h, h2 with
    | v1 :: v2 :: rest, h, _ =>
      rw [keyKind_strs (strs_are h)]
      exact wpAny_pure hq
    | [], _, h2 => exact absurd h2 (by decide)
    | [v], _, h2 => exact absurd h2 (by simp)
  · intro p q hp hq
    obtain ⟨x, t, e⟩ := h _ hp
    obtain ⟨y, u, e'⟩ := h _ hq
    show wpAny (model P w) A (keyLt' oneType' p.1 q.1) (fun r s' => s' = _ ∧ r = ltText (sv p.1) (sv q.1)) (fun _ _ => False) _
    rw [e, e', keyLt'_oneType]
    exact oneLt_str ⟨rfl, rfl⟩
end
section
variable {X : Cx}
/-- sorted(xs), texts, any number of them -/
def rSortS (K : PySem.W.Frag) : List V → Hp → VK → Prop := fun vs H Q => ∃ (a : Addr) (xs : List PySem.Str), vs = [V.ref a] ∧ SqL K H a (xs.map V.str) ∧
  ∀ p : Addr, H p = none → Q (.ref p) (upd H p (.lst ((srt ltText xs).map V.str)))
theorem cr_sortS : CallR X (.builtin "sorted") (rSortS X.K) := by
  intro pins s σ H vs us Q I r h
  obtain ⟨a, xs, rfl, hs, q⟩ := h
  obtain ⟨its, rv, hl, hz⟩ := I.list hs
  rw [Vals.ref1 r]
  obtain ⟨e1, e2⟩ := strs_of_vals rv
  refine SrtO.sorted_ord (ltv := fun v u => ltText (sv v) (sv u)) (lin_text.swo sv) hl.isList (by rw [← rv.length]; exact hz) (fun h2 h₁ a' _ _ => text_sortable e2 h2) fun out h1 h2 => ?_
  have all : ∀ u ∈ out, ∃ x t, u = Value.str x t := fun u m => e2 u (h2.perm.mem_iff.mp m)
  have pm : (out.map sv).Perm xs := by
    have z := h2.perm.map sv
    rw [e1] at z
    exact z
  have up : Up ltText (out.map sv) := List.pairwise_map.mpr h1
  have ex : out.map sv = srt ltText xs := lin_text.is_srt up pm
  obtain ⟨ep, he'⟩ := PyProof.Rows.sortedAll_at s.heap its out.toArray
  have rel := vals_of_strs all
  rw [ex] at rel
  have hlen : ((srt ltText xs).map V.str).length ≤ sizeLine := by
    rw [List.length_map, (srt_perm ltText xs).length_eq]
    rw [List.length_map] at hz
    exact hz
  exact ⟨.ref _, upd H (s.heap.objs.size + 1) (.lst ((srt ltText xs).map V.str)), I.laid (t' := s.toks) (fun _ _ => PyProof.Rows.sortedAll_old) (Nat.le_succ _) ⟨hlen, out, ep, rel, he'⟩, rfl, q _ (I.hok.fresh (Nat.le_succ _))⟩
end
end Sx
set_option linter.all false
set_option maxRecDepth 100000
set_option maxHeartbeats 2000000
/-! name = {k: v for ..}, the name a local -/
namespace Sx
open PySem PySem.Spec PyProof.Rows L2
section
variable {X : Cx}
theorem ps_setDc {i : Nat} {y : PySem.Str} {py : Pos} {kx vx tg iter : Expr} {ifs : List Expr} {scope : Scope} {own : List (PySem.Str × Nat)} {pos spos : Pos} {wi : TI} {g : TG} {tt : TT} {tk tv : TE} (hc : X.calm = true) (hN : X.N.Nodup) (hy : X.N[i]? = some y) (local_ : X.env.scope.names.lookup y = some .local)
    (sw : swapsWith (.DictComp kx vx [⟨tg, iter, ifs, 0⟩] scope pos) (some (.Name y py)) spos.line X.env = pure true) (hi : PI X tg iter wi) (ok : BlkOk X.N X.env.scope scope own)
    (hg : ∀ s H C cl fp, PG (X.blk s H scope (compEnvC scope cl C X.env) fp) tg g) (ht : ∀ s H C cl fp, PTs (X.blk s H scope (compEnvC scope cl C X.env) fp) ifs tt)
    (hk : ∀ s H C cl fp, PE (X.blk s H scope (compEnvC scope cl C X.env) fp) kx tk) (he : ∀ s H C cl fp, PE (X.blk s H scope (compEnvC scope cl C X.env) fp) vx tv) (hs : ∀ x, foldedSetIterable iter X.env x = pure x := by intro _; rfl) :
    PS X (.Assign [.Name y py] (.DictComp kx vx [⟨tg, iter, ifs, 0⟩] scope pos) spos) (tAsg (tDc wi g tt tk tv (own.map (·.2))) (gName i)) := by
  refine ⟨fun pins s σ H D I h => ?_⟩
  rw [exec_Assign_Name_used _ _ _ _ sw]
  refine wpAny_bind (wpAny_standAt (wpAny_bind ?_))
  show wpAny _ X.A (do let _ ← comprehension (.DictComp kx vx [⟨tg, iter, ifs, 0⟩] scope pos) scope X.env (firstIterPos [⟨tg, iter, ifs, 0⟩] pos) newDict false (eval iter X.env) (some (assign (.Name y py) X.env))) _ _ s
  have h : tDc wi g tt tk tv (own.map (·.2)) σ H (fun x H1 => gName i x σ H1 D.nx) := h
  refine wpAny_bind (thn (dc_core (Qf := fun _ s' => SP X pins D .next s') hc hN I hi ok hg ht hk he hs h fun L C s' m H' I' q hn f => ?_) fun _ s' hq => wpAny_pure (wpAny_pure hq))
  show wpAny _ _ (assign (.Name y py) X.env (.ref L)) _ _ _
  refine wpAny_assign_Name (store_ok2 (v := V.ref L) I' hN hy (.inl local_) rfl (fun s2 I2 ⟨a, sb, ha⟩ => ?_) (.inr local_))
  obtain ⟨f0, f1, f2, f3, f4, f5⟩ := f
  have apart : C ≠ a := ha.elim (fun z => by rw [z]; exact f1) fun z e => f4 y a z e.symm
  exact ⟨m, hn.sameBut sb apart, fun h3 sb3 => ⟨_, H', I2.turned (t' := s2.toks) (fun b o hb e => (sb3.2 b hb).trans e) f0 f1 f3 f4 f5, q⟩⟩
theorem ps_setDt {i : Nat} {y : PySem.Str} {py : Pos} {kx vx tg iter : Expr} {ifs : List Expr} {scope : Scope} {own : List (PySem.Str × Nat)} {pos spos : Pos} {wi : TI} {g : TG} {tt : TT} {tk tv : TE} (hu : X.A.units + 64 < cLine) (hc : X.calm = true) (hN : X.N.Nodup) (hy : X.N[i]? = some y) (local_ : X.env.scope.names.lookup y = some .local)
    (sw : swapsWith (.DictComp kx vx [⟨tg, iter, ifs, 0⟩] scope pos) (some (.Name y py)) spos.line X.env = pure true) (hi : PI X tg iter wi) (ok : BlkOk X.N X.env.scope scope own)
    (hg : ∀ s H C cl fp, PG (X.blk s H scope (compEnvC scope cl C X.env) fp) tg g) (ht : ∀ s H C cl fp, PTs (X.blk s H scope (compEnvC scope cl C X.env) fp) ifs tt)
    (hk : ∀ s H C cl fp, PE (X.blk s H scope (compEnvC scope cl C X.env) fp) kx tk) (he : ∀ s H C cl fp, PE (X.blk s H scope (compEnvC scope cl C X.env) fp) vx tv) (hs : ∀ x, foldedSetIterable iter X.env x = pure x := by intro _; rfl) :
    PS X (.Assign [.Name y py] (.DictComp kx vx [⟨tg, iter, ifs, 0⟩] scope pos) spos) (tAsg (tDt wi g tt tk tv (own.map (·.2))) (gName i)) := by
  refine ⟨fun pins s σ H D I h => ?_⟩
  rw [exec_Assign_Name_used _ _ _ _ sw]
  refine wpAny_bind (wpAny_standAt (wpAny_bind ?_))
  show wpAny _ X.A (do let _ ← comprehension (.DictComp kx vx [⟨tg, iter, ifs, 0⟩] scope pos) scope X.env (firstIterPos [⟨tg, iter, ifs, 0⟩] pos) newDict false (eval iter X.env) (some (assign (.Name y py) X.env))) _ _ s
  have h : tDt wi g tt tk tv (own.map (·.2)) σ H (fun x H1 => gName i x σ H1 D.nx) := h
  refine wpAny_bind (thn (dt_run (Qf := fun _ s' => SP X pins D .next s') hu hc hN I hi ok hg ht hk he hs h fun L C s' m H' I' q hn f => ?_) fun _ s' hq => wpAny_pure (wpAny_pure hq))
  show wpAny _ _ (assign (.Name y py) X.env (.ref L)) _ _ _
  refine wpAny_assign_Name (store_ok2 (v := V.ref L) I' hN hy (.inl local_) rfl (fun s2 I2 ⟨a, sb, ha⟩ => ?_) (.inr local_))
  obtain ⟨f0, f1, f2, f3, f4, f5⟩ := f
  have apart : C ≠ a := ha.elim (fun z => by rw [z]; exact f1) fun z e => f4 y a z e.symm
  exact ⟨m, hn.sameBut sb apart, fun h3 sb3 => ⟨_, H', I2.turned (t' := s2.toks) (fun b o hb e => (sb3.2 b hb).trans e) f0 f1 f3 f4 f5, q⟩⟩
theorem sw_dict {kx vx : Expr} {gs : List Comprehension} {scope : Scope} {pos py : Pos} {y : PySem.Str} {l : Nat} {env : Env} (hk : env.scope.kind = .function) (hy : env.scope.names.lookup y = some .local) (hl : (py.line == pos.line) = true)
    (no : (scope.names.any fun (n, k) => n == y && (k == .local || k == .cell)) = false) : swapsWith (.DictComp kx vx gs scope pos) (some (.Name y py)) l env = pure true := by
  have ky : env.kindOf y = some .local := hy
  have kb : env.blockKind = .function := by unfold Env.blockKind; rw [hk] <;> rfl
  unfold swapsWith
  simp only [kb, ky, no, Expr.pos, hl]
  rfl
end
end Sx
set_option linter.all false
set_option maxRecDepth 100000
set_option maxHeartbeats 2000000
/-! the comprehensions over a walk -/
namespace Sx
open PySem PySem.Spec PyProof.Rows L2
section
variable {J : It} {n : Nat} {G : Hp → Prop} {Y : Nat → Hp → V → Hp → Prop}
theorem dt_it (wk : Walk J n G Y) {g : TG} {tt : TT} {tk tv : TE} {vs : List Nat} {σ : L2.St} {H1 : Hp} {D : Addr} {Qd : Hp → Prop} (Pv : Nat → Hp → Prop) (h0 : Pv 0 (upd H1 D (.dT []))) (hG : ∀ i H, i ≤ n → Pv i H → G H)
    (hs : ∀ i x H H', i < n → Pv i H → Y i H x H' → g x (wipe σ vs) H' fun σ2 H2 => wipe σ2 vs = wipe σ vs ∧ tt σ2 H2 fun b H3 =>
      if b = true then tk σ2 H3 fun y H4 => tv σ2 H4 fun z H5 => ∃ (kvs : List (List Key × V)) (k : List Key) (p : Addr), y = .ref p ∧ H5 p = some (.tup (k.map kV)) ∧ H5 D = some (.dT kvs) ∧ kvs.length < sizeLine ∧ Pv (i + 1) (upd H5 D (.dT (putK kvs k z))) else Pv (i + 1) H3)
    (hd : ∀ H, Pv n H → Qd H) :
    ∃ W : Nat → Nat → Hp → Prop, (∃ m, W 0 m (upd H1 D (.dT []))) ∧ ∀ i m H, W i m H →
      (J.stop i H ∧ Qd H) ∨ (J.go i H ∧ ∃ Nx : Hp → Prop, (∀ H', Nx H' → ∃ m', m' < m ∧ W (i + 1) m' H') ∧ ∀ x H', J.yld i H x H' → g x (wipe σ vs) H' fun σ2 H2 => wipe σ2 vs = wipe σ vs ∧ tt σ2 H2 fun b H3 =>
        if b = true then tk σ2 H3 fun y H4 => tv σ2 H4 fun z H5 => ∃ (kvs : List (List Key × V)) (k : List Key) (p : Addr), y = .ref p ∧ H5 p = some (.tup (k.map kV)) ∧ H5 D = some (.dT kvs) ∧ kvs.length < sizeLine ∧ Nx (upd H5 D (.dT (putK kvs k z))) else Nx H3) := by
  refine ⟨fun i m H => m = n - i ∧ i ≤ n ∧ Pv i H, ⟨n, rfl, Nat.zero_le _, h0⟩, ?_⟩
  rintro i m H ⟨rfl, le, pv⟩
  have gH := hG i H le pv
  rcases Nat.lt_or_ge i n with lt | ge
  · exact .inr ⟨wk.goes i H lt gH, Pv (i + 1), fun H' q => ⟨n - (i + 1), by omega, rfl, lt, q⟩, fun x H' y => hs i x H H' lt pv (wk.yields i H x H' lt gH y)⟩
  · have e : i = n := by omega
    subst e
    exact .inl ⟨wk.stops H gH, hd H pv⟩
theorem sm_it {P : Program} {w : World} (wk : Walk J n G Y) {g : TG} {tt : TT} {te : TE} {vs : List Nat} {σ : L2.St} {H1 : Hp} {D : Addr} {Qd : Hp → Prop} (Pv : Nat → Hp → Prop) (h0 : Pv 0 (upd H1 D (MSetO P w D []))) (hG : ∀ i H, i ≤ n → Pv i H → G H)
    (hs : ∀ i x H H', i < n → Pv i H → Y i H x H' → g x (wipe σ vs) H' fun σ2 H2 => wipe σ2 vs = wipe σ vs ∧ tt σ2 H2 fun b H3 =>
      if b = true then te σ2 H3 fun y H4 => ∃ (x : Addr) (k : List Key) (L : Rows), y = .ref x ∧ H4 x = some (.tup (k.map kV)) ∧ H4 D = some (MSetO P w D L) ∧ TupsIn H4 L ∧ L.length + 1 ≤ 1500 ∧
        ∀ L2, (k ∈ L.map (·.2) → L2 = L) → (k ∉ L.map (·.2) → L2.Perm ((x, k) :: L)) → Pv (i + 1) (upd H4 D (MSetO P w D L2)) else Pv (i + 1) H3)
    (hd : ∀ H, Pv n H → Qd H) :
    ∃ W : Nat → Nat → Hp → Prop, (∃ m, W 0 m (upd H1 D (MSetO P w D []))) ∧ ∀ i m H, W i m H →
      (J.stop i H ∧ Qd H) ∨ (J.go i H ∧ ∃ Nx : Hp → Prop, (∀ H', Nx H' → ∃ m', m' < m ∧ W (i + 1) m' H') ∧ ∀ x H', J.yld i H x H' → g x (wipe σ vs) H' fun σ2 H2 => wipe σ2 vs = wipe σ vs ∧ tt σ2 H2 fun b H3 =>
        if b = true then te σ2 H3 fun y H4 => ∃ (x : Addr) (k : List Key) (L : Rows), y = .ref x ∧ H4 x = some (.tup (k.map kV)) ∧ H4 D = some (MSetO P w D L) ∧ TupsIn H4 L ∧ L.length + 1 ≤ 1500 ∧
          ∀ L2, (k ∈ L.map (·.2) → L2 = L) → (k ∉ L.map (·.2) → L2.Perm ((x, k) :: L)) → Nx (upd H4 D (MSetO P w D L2)) else Nx H3) := by
  refine ⟨fun i m H => m = n - i ∧ i ≤ n ∧ Pv i H, ⟨n, rfl, Nat.zero_le _, h0⟩, ?_⟩
  rintro i m H ⟨rfl, le, pv⟩
  have gH := hG i H le pv
  rcases Nat.lt_or_ge i n with lt | ge
  · exact .inr ⟨wk.goes i H lt gH, Pv (i + 1), fun H' q => ⟨n - (i + 1), by omega, rfl, lt, q⟩, fun x H' y => hs i x H H' lt pv (wk.yields i H x H' lt gH y)⟩
  · have e : i = n := by omega
    subst e
    exact .inl ⟨wk.stops H gH, hd H pv⟩
end
theorem paired_left {α β : Type} {F : α → β → Prop} : ∀ {l : List α} {m : List β}, Paired F l m → ∀ a ∈ l, ∃ b ∈ m, F a b
  | _, _, .nil, a, h => absurd h List.not_mem_nil
  | _, _, .cons r t, a, h => by
    rcases List.mem_cons.mp h with rfl | h
    · exact ⟨_, List.mem_cons_self, r⟩
    · obtain ⟨b, m, q⟩ := paired_left t a h
      exact ⟨b, List.mem_cons_of_mem _ m, q⟩
theorem paired_at {α β : Type} {F : α → β → Prop} : ∀ {l : List α} {m : List β} {i : Nat} {a : α}, Paired F l m → l[i]? = some a → ∃ b, m[i]? = some b ∧ F a b
  | _, _, _, _, .nil, e => by simp at e
  | _, _, 0, _, .cons r t, e => by simp at e; subst e; exact ⟨_, rfl, r⟩
  | _, _, i + 1, a, .cons r t, e => by
    obtain ⟨b, e1, e2⟩ := paired_at (i := i) (a := a) t (by simpa using e)
    exact ⟨b, by simpa using e1, e2⟩
theorem val_mem {κ : Type} [DecidableEq κ] {k : κ} {v : V} : ∀ {kvs : List (κ × V)}, (kvs.map (·.1)).Nodup → (k, v) ∈ kvs → valV kvs k = some v
  | [], _, m => absurd m List.not_mem_nil
  | p :: ps, nd, m => by
    obtain ⟨a, b⟩ := List.nodup_cons.mp nd
    rcases List.mem_cons.mp m with e | m
    · rw [← e]; exact valV_pos rfl
    · rw [valV_neg fun e => a (show p.1 ∈ _ by rw [e]; exact List.mem_map.mpr ⟨_, m, rfl⟩)]
      exact val_mem b m
end Sx
set_option linter.all false
set_option maxRecDepth 100000
set_option maxHeartbeats 3200000
/-! set(ints), sorted(set of ints), more than 64 of them, too -/
namespace Sx
open PySem PySem.Spec PyProof.Rows L2
section
variable {P : Program} {w : World} {A : Around} {E : Value → Shared → Prop} {s : Shared}
abbrev bareSet (w : World) : Obj := { cls := .type "set", dict := none, data := .set #[] 0 (.fresh 0 0 (!w.params.followText "set-order")) }
theorem set_ints_list {l : Addr} {items : Array Value} (ns : List Int) {Q : Value → Shared → Prop} (hh : A.handled = none) (hl : s.heap.IsList l items) (hit : IntsAre items.toList ns) (hb : ns.length + 1 < scanBound)
    (h : ∀ (h' : Heap) (tk c : Nat), SetR w h' s.heap.objs.size (fun j => decide (j ∈ ns)) c → c ≤ ns.length → (∀ b o, s.heap.get? b = some o → h'.get? b = some o) → Q (.ref s.heap.objs.size) { s with heap := h', toks := tk }) :
    wpAny (model P w) A (call (.type "set") [.ref l]) Q E s := by
  have isz : items.size = ns.length := by
    have q := IntsAre.length hit
    rwa [Array.length_toList] at q
  obtain ⟨c, tl, hmro⟩ := F.called_set.mro
  have hmade := F.called_set.made
  have hsub := F.called_set.sub
  refine wpAny_call (codeAny_of_tree ?_)
  show wpAny _ _ (callAny (.type "set") _) _ _ _
  refine wpAny_pure ⟨Code.quiet_builtin _ (by decide +kernel), codeAny_builtin F.entry_type_call ?_⟩
  rw [Around.under_plain (weight_type_call_type "set" [.ref l] []) rfl]
  have h1 := F.called_set.notType
  have h2 := F.called_set.canCreate
  have hct := F.typeCall_set_1 (.ref l)
  repeat (any_goals (first | assumption | wp_step))
  refine codeAny_mono (code_set_led1 (.ref l) (E := E) (Q₁ := fun obj s₁ => obj = .ref s.heap.objs.size ∧ s₁ = { s with heap := s.heap.push (bareSet w) }) ⟨rfl, rfl⟩) fun r s₁ hr => ?_
  rcases r with e | fl
  · exact hr
  · cases fl with
    | ret obj =>
      obtain ⟨rfl, rfl⟩ := hr
      have at_ : (s.heap.push (bareSet w)).get? s.heap.objs.size = some (bareSet w) := Heap.get?_push_size _ rfl
      have hT : Shared.TypeIs { s with heap := s.heap.push (bareSet w) } (.ref s.heap.objs.size) "set" := ⟨_, at_, rfl⟩
      have hli := F.called_set.init.lookup
      have hbi := F.called_set.init.bind (.ref s.heap.objs.size)
      repeat (any_goals (first | assumption | wp_step))
      refine codeAny_mono (codeAny_call_builtin (R := wants (fun r s₂ => r = .none ∧ ∃ h' tk c, s₂ = { s with heap := h', toks := tk } ∧ SetR w h' s.heap.objs.size (fun j => decide (j ∈ ns)) c ∧ c ≤ ns.length ∧
          (∀ b o, s.heap.get? b = some o → h'.get? b = some o)) E) F.called_set.init.plain F.entry_set_init (check_set_init_1 hT ?_)) fun r₂ s₂ hr₂ => ?_
      · obtain ⟨ol, hol, hcl, nl, hdl⟩ := hl
        obtain ⟨ocls, odict, odata, oslots⟩ := ol
        simp only at hcl hdl
        subst hcl; subst hdl
        have hol' : (s.heap.push (bareSet w)).get? l = some { cls := .type "list", dict := odict, data := .seq items nl, slots := oslots } := Heap.get?_push_of_some _ hol
        have hsls := F.sub_list_set
        have hslf := F.sub_list_frozenset
        have hne : (Value.type "list" == Value.type "dict") = false := by decide
        have hl1 : (s.heap.push (bareSet w)).IsList l items := ⟨_, hol', rfl, nl, rfl⟩
        unfold Builtin.«set.__init__» noKeywords Builtin.Frozenset.updateFrom
        generalize hPI : pyIter = PI
        wp_walk
        subst hPI
        refine wpAny_pyIter_list hl1 ?_
        refine wpAny_bind (wpAny_runValue ?_)
        have lt : l < s.heap.objs.size := Heap.lt_size hol
        have hh3 : A.in1.in1.in1.handled = none := by simp [hh]
        have neI : l ≠ (s.heap.push (bareSet w)).objs.size := by
          rw [Heap.size_push]; exact Nat.ne_of_lt (Nat.lt_succ_of_lt lt)
        have out : s.heap.objs.size ∉ [(s.heap.push (bareSet w)).objs.size, l] := by
          rw [Heap.size_push]; simp only [List.mem_cons, List.mem_singleton, List.not_mem_nil, or_false, not_or]
          exact ⟨Nat.ne_of_lt (Nat.lt_succ_self _), Nat.ne_of_gt lt⟩
        have hval : ∀ (i : Nat) (v : Value), items[i]? = some v → ∃ k t, ns[i]? = some k ∧ v = .int k t := fun i v hv => by
          have hi : i < ns.length := by rw [← isz]; exact (Array.getElem?_eq_some_iff.mp hv).1
          obtain ⟨t, e⟩ := PyProof.Rows.IntsAre.int_at hit i v (by rw [Array.getElem?_toList]; exact hv)
          refine ⟨ns[i], t, List.getElem?_eq_getElem hi, ?_⟩
          rw [e, List.getD_eq_getElem?_getD, List.getElem?_eq_getElem hi] <;> rfl
        refine set_update_ints ((Walks.list hh3 _ l neI items).toS) s.heap.objs.size out ns isz hb hval (items.size - 0) 0 _ (by omega) (Nat.zero_le _) ⟨⟨_, Heap.get?_push_size _ rfl, rfl, rfl⟩, (hl1.push _)⟩ ?_ ?_
        · have got : ((s.heap.push (bareSet w)).push { cls := .type "list_iterator", data := .fields #[.ref l, .int 0 0] }).get? s.heap.objs.size = some (bareSet w) := Heap.get?_push_of_some _ at_
          exact ⟨0, Nat.le_refl 0, setR_new_at got⟩
        · intro s' c' hm hc' hS'
          obtain ⟨h', g2, d', tk', os'⟩ := s'
          cases (show g2 = s.gens from hm.gens)
          cases (show d' = s.drawn from hm.drawn)
          cases (show os' = s.os from hm.os)
          show wpAny _ _ _ _ _ _
          refine wpAny_pure ?_
          show wpAny _ _ (ret Value.none) _ _ _
          rw [isz] at hc'
          refine wpAny_pure ⟨rfl, h', tk', c', rfl, hS', hc', fun b o e => ?_⟩
          have b0 : b < s.heap.objs.size := Heap.lt_size e
          refine hm.heap b o ?_ (Heap.get?_push_of_some _ (Heap.get?_push_of_some _ e))
          rw [Heap.size_push]
          simp only [List.mem_cons, List.mem_singleton, List.not_mem_nil, or_false, not_or]
          exact ⟨Nat.ne_of_lt b0, Nat.ne_of_lt (Nat.lt_succ_of_lt b0)⟩
      · rcases r₂ with e | fl₂
        · exact hr₂
        · cases fl₂ with
          | ret r =>
            obtain ⟨rfl, h', tk, c', rfl, hS', hc', hk'⟩ := hr₂
            repeat (any_goals (first | assumption | wp_step))
            exact h _ _ _ hS' hc' hk'
          | _ => exact hr₂.elim
    | _ => exact hr.elim
theorem sorted_ints {a : Addr} {S : Int → Bool} {n : Nat} {Q : Value → Shared → Prop} (R : SetR w s.heap a S n) (hh : A.handled = none)
    (hQ : ∀ s' p (out : List Value) (c : Nat) (ns : List Int), (∀ b o, s.heap.get? b = some o → s'.heap.get? b = some o) → s'.gens = s.gens → s'.os = s.os → s.heap.objs.size ≤ p →
      s'.heap.get? p = some (seqObj "list" out.toArray c) → IntsAre out ns → ns.Pairwise (· < ·) → (∀ k, k ∈ ns ↔ S k = true) → ns.length = n → Q (.ref p) s') :
    wpAny (model P w) A (call (.builtin "sorted") [.ref a]) Q E s := by
  obtain ⟨o, es, ep, t, ho, hex, hd, g, nd, hm, hb, hf, hn, hr, hl⟩ := R
  refine Calls.call_function_entry kind_sorted plain_sorted entry_sorted (args_sorted1 _) ?_
  unfold Builtin.«sorted»
  refine wpAny_bind (m := checkCount "sorted" 1 1 _) (wpAny_pure ?_)
  refine wpAny_bind (collect_set (A := A.in1) hh ⟨o, ho, hex.1, hd⟩ hf hb hr hl fun s1 vs k1 hz g1 o1 pm => ?_)
  have lv : vs.length = n := by rw [pm.length_eq, List.length_map, Array.length_toList]; exact hn
  have hI : IntsAre vs (vs.map SrtO.iv) := SrtO.ints_iv fun v hv => by
    obtain ⟨e, he, q⟩ := List.mem_map.mp (pm.mem_iff.mp hv)
    obtain ⟨k, tk, h1, _⟩ := g e he
    exact ⟨k, tk, by rw [← q]; exact h1⟩
  have keys : es.toList.map (fun e => SrtO.iv e.2) = es.toList.map keyOf := List.map_congr_left fun e he => by
    obtain ⟨k, tk, h1, _⟩ := g e he
    have z : keyOf e = Builtin.Re.reRawOf e.2 := rfl
    rw [z, h1] <;> rfl
  have pk : (vs.map SrtO.iv).Perm (es.toList.map keyOf) := by
    have q := pm.map SrtO.iv
    rw [List.map_map] at q
    rw [← keys]
    exact q
  have zz : vs.length ≤ sizeLine := by rw [lv, ← hn, sizeLine_eq]; unfold scanBound at hb; omega
  refine wpAny_bind (wpAny_newList ?_ zz)
  have hoL : (s1.heap.push (seqObj "list" vs.toArray 0)).get? s1.heap.objs.size = some (seqObj "list" vs.toArray 0) := Heap.get?_push_size _ rfl
  refine wpAny_bind (wpAny_holding (wpAny_call_entry PyProof.Rows.slot_list_sort ⟨_, hoL, rfl⟩ PyProof.Rows.entry_list_sort
    (SrtO.list_sort_ord (s := { s1 with heap := s1.heap.push (seqObj "list" vs.toArray 0) }) SrtO.swo_int hoL zz (fun h2 => SrtO.ints_sortable hI h2) fun out h1 h2 => ⟨_, rfl, ?_⟩) (PyProof.Rows.args_list_sort _)))
  obtain ⟨a1, a2, a3⟩ := SrtO.ints_out hI h1 h2
  obtain ⟨c, hc⟩ := PyProof.Rows.sortedHeap_at (vs := vs) (out := out.toArray) hoL
  have pn : (out.map SrtO.iv).Perm (es.toList.map keyOf) := a2.trans pk
  refine wpAny_pure ⟨_, rfl, hQ _ s1.heap.objs.size out c _ (fun b u e => ?_) g1 o1 hz hc a1 (lt_of_le_nodup _ a3 (pn.nodup_iff.mpr nd)) (fun k => by rw [pn.mem_iff, ← hm k]) ?_⟩
  · have lt := Heap.lt_size (k1 b u e)
    show (sortedHeap (s1.heap.push (seqObj "list" vs.toArray 0)) s1.heap.objs.size vs _).get? b = some u
    rw [sortedHeap_old (Nat.ne_of_lt lt) (by rw [size_push']; exact Nat.lt_succ_of_lt lt)]
    exact Heap.get?_push_of_some _ (k1 b u e)
  · rw [pn.length_eq, List.length_map, Array.length_toList]; exact hn
end
section
variable {X : Cx}
/-- set(ints), of a list or a tuple -/
def rSetI (K : PySem.W.Frag) (w : World) : List V → Hp → VK → Prop := fun xs H Q => ∃ (l : Addr) (ns : List Int), xs = [V.ref l] ∧ (SqL K H l (ns.map V.int) ∨ SqT K H l (ns.map V.int)) ∧ ns.length < 4000 ∧
  ∀ (a : Addr) (n : Nat), n ≤ ns.length → H a = none → Q (.ref a) (upd H a (SetO w a (fun j => decide (j ∈ ns)) n))
theorem cr_setI (hc : X.calm = true) : CallR X (.type "set") (rSetI X.K X.w) := by
  intro pins s σ H xs us Q I r h
  obtain ⟨l, ns, rfl, hs, few, q⟩ := h
  rw [Vals.ref1 r]
  have hn : H s.heap.objs.size = none := I.hok.fresh (Nat.le_refl _)
  have fin : ∀ (h' : Heap) (tk c : Nat), SetR X.w h' s.heap.objs.size (fun j => decide (j ∈ ns)) c → c ≤ ns.length → (∀ b o, s.heap.get? b = some o → h'.get? b = some o) →
      EP X pins σ Q (.ref s.heap.objs.size) { s with heap := h', toks := tk } := fun h' tk c R le k =>
    ⟨.ref _, _, I.laid (t' := tk) k (Nat.le_refl _) (setO_new R), rfl, q _ c le hn⟩
  rcases hs with hs | hs
  · obtain ⟨its, rv, hl, hz⟩ := I.list hs
    exact set_ints_list ns (I.ok.hd hc) hl.isList (by simpa using rv.ints) (by unfold scanBound; omega) fin
  · obtain ⟨its, rv, hl, hz⟩ := I.tuple hs
    exact call_set_tupI ns (I.ok.hd hc) hl (by simpa using rv.ints) (by unfold scanBound; omega) fin
/-- sorted(set of ints) -/
def rSortI (w : World) : List V → Hp → VK → Prop := fun vs H Q => ∃ (a : Addr) (S : Int → Bool) (n : Nat), vs = [V.ref a] ∧ H a = some (SetO w a S n) ∧ n ≤ 4096 ∧
  ∀ (ns : List Int) (p : Addr), ns.Pairwise (· < ·) → (∀ k : Int, k ∈ ns ↔ S k = true) → ns.length = n → H p = none → Q (.ref p) (upd H p (.lst (ns.map V.int)))
theorem cr_sortI (hc : X.calm = true) : CallR X (.builtin "sorted") (rSortI X.w) := by
  intro pins s σ H vs us Q I r h
  obtain ⟨a, S, n, rfl, ha, few, q⟩ := h
  rw [Vals.ref1 r]
  refine sorted_ints (setO_get I ha) (I.ok.hd hc) fun s' p out c ns k g o hp hg hi hs hm hl => ?_
  have hlen : (ns.map V.int).length ≤ sizeLine := by rw [List.length_map, hl, sizeLine_eq]; omega
  have hn : H p = none := I.hok.fresh hp
  have J : Inv X pins σ (upd H p (.lst (ns.map V.int))) { s with heap := s'.heap, gens := s'.gens, drawn := s'.drawn, toks := s'.toks } :=
    I.call (ch := []) (Un.laid k hp hn) (I.hok.laid k hp ⟨hlen, out, c, vals_of_ints hi, hg⟩) (by rw [g]; exact I.bare) (fun _ z => nomatch z)
  have e : s' = { s with heap := s'.heap, gens := s'.gens, drawn := s'.drawn, toks := s'.toks } := by
    cases s'; cases s; cases o; rfl
  rw [e]
  exact ⟨.ref p, _, J, rfl, q ns p hs hm hl hn⟩
end
end Sx
set_option Elab.async false
set_option linter.all false
set_option maxRecDepth 100000
set_option maxHeartbeats 4000000
/-! o.m(k = v, ..), x == y by an own __eq__ with both answers -/
namespace Sx
open PySem PySem.Spec PyProof.Rows L2
def tMethK (C : Addr) (m : PySem.Str) (n : Nat) (sp : Sp) (gV : List V → List V → List V) (E : XK) (ta : TE) (tk : TA) : TE := fun σ H Q => ta σ H fun x H1 => ∃ a dx fs, x = .ref a ∧ H1 a = some (.ins C dx fs) ∧ fs.lookup m = none ∧
  tk σ H1 fun zs H2 => zs.length = n ∧ sp (gV [.ref a] zs) H2 Q E
section
variable {X : Cx} {CX : CXT} {k : Nat} {C f : Addr} {fd : FuncData} {ps ks : List PySem.Str} {m : PySem.Str} {sp : Sp} {E : XK} {o : Expr} {ta : TE} {tk : TA} {apos pos : Pos} {kws : List Keyword} {g : List Value → List Value → List Value} {gV : List V → List V → List V}
theorem pe_methK {pl : Sem Bool} (he : PE X o ta) (c : Cls X.K C) (hm : Meth X.K C m f) (F : FnOk X.prog X.w X.K X.mg X.base CX k f fd ps sp) (hr : Room k X.A) (hb : KBn X.K fd ps 1 ks g gV) (hx : Passes CX X E) (hkw : PK X kws tk)
    (hall : (backToKw pos (keywordEach kws X.env)).all (·.1.isSome) = true := by rfl) (hks : (backToKw pos (keywordEach kws X.env)).filterMap (·.1) = ks := by rfl)
    (hpl : ((backTo pos (starEach [] X.env)).any (·.1) || (backToKw pos (keywordEach kws X.env)).any (·.1.isNone)) = false := by rfl)
    (ht : eval (.Call (.Attribute o m apos) [] kws pos) X.env = (do
      let ov ← eval o X.env
      standAt apos.atName
      let (f, first) ← holding [ov] (getMethod ov m pl)
      callWith pos f first (backTo pos (starEach [] X.env)) (backToKw pos (keywordEach kws X.env))) := by rfl) :
    PE X (.Call (.Attribute o m apos) [] kws pos) (tMethK C m ks.length sp gV E ta tk) := by
  refine ⟨fun pins s σ H Q I h => ?_⟩
  refine PySem.W.methodCall_KW (pl := pl) (thn (he.run pins s σ H _ I h) fun u s1 ⟨x, H1, I1, rx, a, dx, fs, ex, ea, l, q⟩ => ?_) ht
  subst ex
  obtain rfl : u = Value.ref a := rx
  refine getmeth_ok I1 ea c hm l ?_
  refine PySem.W.callWith_KW0 (first := [.ref a]) (h₀ := X.base) I.ok.mod.kin hm.kp hall (thn (hkw.run pos pins s1 σ H1 _ I1 q) fun ws s2 ⟨zs, H2, I2, rz, l2, q2⟩ => ⟨I2.kIn, ?_⟩) hpl
  rw [hks]
  exact run_fnN (us := [.ref a]) (vs := [.ref a]) F hr hb hx I2 (.cons rfl .nil) rz rfl l2 q2
end
def rEqI (C : Addr) (sp : Sp) (E : XK) : R2 := fun x y H Q => ∃ a b dx dy fs gs, x = .ref a ∧ y = .ref b ∧ H a = some (.ins C dx fs) ∧ H b = some (.ins C dy gs) ∧ sp [.ref a, .ref b] H Q E
theorem op_eqI {X : Cx} {CX : CXT} {n : Nat} {C f : Addr} {fd : FuncData} {ps : List PySem.Str} {sp : Sp} {E : XK} (F : FnOk X.prog X.w X.K X.mg X.base CX n f fd ps sp)
    (hs : PySem.W.findIn X.K (.ref C) "__eq__" = some (some (.ref f))) (hf : PySem.W.isFn X.K (.ref f) = true) (hb : Binds X.K fd ps []) (hx : Passes CX X E) (hr : Room n X.A) (hbl : ∀ vs H (Q : VK) E, sp vs H Q E → sp vs H (fun v H' => (∃ r, v = .bl r) ∧ Q v H') E) : OpR X (compareOp .Eq) (rEqI C sp E) := by
  intro pins s σ H x y v u Q I rx ry hq
  obtain ⟨a, b, dx, dy, fs, gs, rfl, rfl, ha, hb', hsp0⟩ := hq
  have hsp := hbl _ _ _ _ hsp0
  cases rx
  cases ry
  show wpAny (model X.prog X.w) X.A (richCompare .Eq (.ref a) (.ref b)) (EP X pins σ Q) X.xe s
  obtain ⟨mA, J, _⟩ := ins_get I.hok ha
  obtain ⟨mB, J', _⟩ := ins_get I.hok hb'
  obtain ⟨od, J, _⟩ := J.look
  obtain ⟨od', J', _⟩ := J'.look
  obtain ⟨m, hF⟩ := I.fr
  refine PySem.W.cmp_K (op := .Eq) (tb := .ref C) hr.units0 hF I.ok.mod.kin J J'.type (by simp [PySem.W.notFirst]) hs hf ?_
  have hl := F.len _ _ _ _ hsp
  have r2 : Vals [V.ref a, V.ref b] [Value.ref a, Value.ref b] := .cons rfl (.cons rfl .nil)
  refine wpAny_call (codeAny_mono (F.run X.A X.stack s H ⟨[.ref a, .ref b], []⟩ [.ref a, .ref b] [.ref a, .ref b] _ E hr I.env0 (by
    have := hb s [.ref a, .ref b] I.kIn (by simpa using hl)
    simpa using this) r2 hsp) fun r s' hq => ?_)
  cases r with
  | error e => exact hx pins σ H s e s' I hq
  | ok fl =>
    cases fl with
    | ret w =>
      obtain ⟨z, H', I', rz, ⟨r, ez⟩, q⟩ := I.after hq
      subst ez
      cases rz
      exact ⟨.bl r, H', I', rfl, q⟩
    | next => exact False.elim hq
    | brk => exact False.elim hq
    | cont => exact False.elim hq
end Sx
set_option Elab.async false
set_option linter.all false
set_option maxRecDepth 100000
set_option maxHeartbeats 4000000
/-! written dicts of the module: whole numbers as keys, d[k]; texts as keys, d.get(x) -/
namespace Sx
open PySem PySem.Spec PyProof PyProof.Rows L2
structure KDI (K : PySem.W.Frag) (a : Addr) (es : Array DictEntry) (n : Nat) : Prop where
  at_ : K.lookup a = some ⟨.type "dict", none, .dict es n, #[]⟩
  keys : ∀ e ∈ es.toList, ∃ (k : Int) (t : Tok), e.key = .int k t ∧ e.hash = hashInt k
def rIxI (K : PySem.W.Frag) : R2 := fun x y H Q => ∃ (p : Addr) (k : Int) (es : Array DictEntry) (n : Nat) (u : Value) (v : V), x = .ref p ∧ y = .int k ∧ KDI K p es n ∧ findBy Value.isInt es k = some u ∧ RelV v u ∧ Q v H
section
variable {X : Cx}
theorem kdi_map {K : PySem.W.Frag} {h : Heap} {prog : Program} {w : World} {a : Addr} {es : Array DictEntry} {n : Nat} (D : KDI K a es n) (X : K.In h) : h.MapOf (intKind prog w) a (fun k => findBy Value.isInt es k) :=
  ⟨_, es, n, X _ _ D.at_, ⟨rfl, rfl, rfl⟩, rfl, fun e he => by
    obtain ⟨x, t, e1, e2⟩ := D.keys e (Array.mem_toList_iff.mpr he)
    exact ⟨x, by rw [e1]; exact intKind_is prog w x t, e2⟩, fun _ => rfl⟩
theorem ix_kdi : IxR X (rIxI X.K) := by
  intro value slice pins s σ H x y v u Q I rx ry h hs
  obtain ⟨p, k, es, n, u0, v0, rfl, rfl, D, e, r, q⟩ := h
  obtain rfl : v = Value.ref p := rx
  obtain ⟨t, rfl⟩ := ry
  have hm := kdi_map (prog := X.prog) (w := X.w) D I.kIn
  exact tail_any hm.typeIs slot_dict_getitem.lookup (wpAny_getItem_of (intKind_is X.prog X.w k t) hm e ⟨v0, H, I.tok _, r, q⟩) hs
end
def tKGet (K : PySem.W.Frag) (w : World) (td ty : TE) : TE := fun σ H Q => td σ H fun x H1 => ∃ (d : Addr) (es : Array DictEntry) (n : Nat), x = .ref d ∧ KDict K w d es n ∧ ty σ H1 fun y H2 => ∃ (z : PySem.Str) (r : Option Value) (v : V), y = .str z ∧ PySem.W.nsIn K d z = some r ∧ RelV v (r.getD .none) ∧ Q v H2
section
variable {X : Cx} {o e : Expr} {apos cpos : Pos} {td ty : TE}
theorem pe_kget (ho : PE X o td) (he : PE X e ty) (m : M1 X o "get" apos e cpos) : PE X (.Call (.Attribute o "get" apos) [e] [] cpos) (tKGet X.K X.w td ty) := by
  refine ⟨fun pins s σ H Q I h => ?_⟩
  refine wpAny_Call_method m.base m.few m.line PySem.F.plainAttrs_dict PySem.F.slot_dict_get PySem.F.type_dict_get (thn (ho.run pins s σ H _ I h) fun u s1 ⟨x, H1, I1, rx, d, es, n, ex, D, q1⟩ => ?_)
  subst ex
  obtain rfl : u = Value.ref d := rx
  refine ⟨kd_type D I1, fun b q => ?_, ?_⟩
  · cases q
    exact ⟨_, I1.kIn _ _ D.at_, rfl⟩
  rw [m.trees]
  refine Calls.callWith_builtin rfl (Calls.evalArgs_plain (Calls.spliced_cons (thn (he.run pins s1 σ H1 _ I1 q1) fun iv s2 ⟨y, H2, I2, ry, z, r, v, ey, e, rv, q2⟩ => Calls.spliced_nil ?_)))
  subst ey
  obtain ⟨t, rfl⟩ := ry
  have hm := PySem.W.mapOf_K (prog := X.prog) (w := X.w) I2.kIn D.at_ D.lit
  refine call_meetsIn PySem.F.slot_dict_get hm.typeIs PySem.F.entry_dict_get (PySem.F.args_dict_get_2 _ _) (meets_dict_get (PySem.strKind X.prog X.w) d (PySem.strKind_is X.prog X.w z t) D.low) ⟨_, hm, ?_⟩
  rw [PySem.W.find_K D.at_ e]
  exact ⟨v, H2, I2.tok _, rv, q2⟩
end
end Sx
set_option Elab.async false
set_option maxRecDepth 100000
set_option maxHeartbeats 4000000
namespace Mk
open PySem L2 Pk
def top (i : Nat) : Stmt := PySem.Challenge.pw_pilerecall_k03_machine_notes_whole.main.body.getD i (.Pass ⟨0, 0, 0, 0⟩)
abbrev sInteger : Stmt := top 9
abbrev sBetween : Stmt := top 10
abbrev sSequence : Stmt := top 11
abbrev sRow : Stmt := top 12
abbrev sLetters : Stmt := top 13
abbrev sAlphabet : Stmt := top 14
abbrev sMark : Stmt := top 15
abbrev sSymbol : Stmt := top 16
abbrev sSign : Stmt := top 17
abbrev sTop : Stmt := top 18
abbrev sMove : Stmt := top 19
abbrev sDeed : Stmt := top 20
abbrev sState : Stmt := top 21
abbrev sRule : Stmt := top 22
/-- the built-in names -/
structure TM (mg : PySem.Str → Option Value) : Prop where
  isi : mg "isinstance" = none
  int : mg "int" = none
  bool : mg "bool" = none
  str : mg "str" = none
  tuple : mg "tuple" = none
  list : mg "list" = none
  len : mg "len" = none
  range : mg "range" = none
  all : mg "all" = none
  sorted : mg "sorted" = none
  set : mg "set" = none
  abs : mg "abs" = none
/-- a list or a tuple, by a bit -/
def SqB (b : Bool) (K : PySem.W.Frag) (H : Hp) (a : Addr) (xs : List V) : Prop := match b with
  | true => SqL K H a xs
  | false => SqT K H a xs
theorem SqB.any {b : Bool} {K : PySem.W.Frag} {H : Hp} {a : Addr} {xs : List V} (h : SqB b K H a xs) : SqL K H a xs ∨ SqT K H a xs := by
  cases b
  · exact .inr h
  · exact .inl h
theorem SqB.mono {b : Bool} {K : PySem.W.Frag} {H H' : Hp} {a : Addr} {xs : List V} (e : Same H H') (h : SqB b K H a xs) : SqB b K H' a xs := by
  cases b
  · exact Same.tup e h
  · exact e.seq h
def sqTy (b : Bool) : String := if b = true then "list" else "tuple"
theorem tyx_sq {b : Bool} {K : PySem.W.Frag} {H : Hp} {a : Addr} {xs : List V} (h : SqB b K H a xs) : TyX K H (.ref a) (.type (sqTy b)) := by
  cases b with
  | false =>
    rcases (show SqT K H a xs from h) with (h | ⟨o, h⟩) | ⟨o, its, n, h, hc, _⟩
    · exact .base (.tup h)
    · exact .fTuple h
    · exact .kTuple h hc
  | true =>
    rcases (show SqL K H a xs from h) with (h | ⟨o, h⟩) | ⟨o, its, n, h, hc, _⟩
    · exact .base (.lst h)
    · exact .base (.frz h)
    · exact .kList h hc
section
variable {P : Program} {w : World} {K : PySem.W.Frag} {mg : PySem.Str → Option Value} {base : Heap}
/-- the def x stands, is reached by its name, and keeps sp -/
def Got (P : Program) (w : World) (K : PySem.W.Frag) (mg : PySem.Str → Option Value) (base : Heap) (x : PySem.Str) (k : Nat) (ps : List PySem.Str) (sp : Sp) : Prop :=
  ∃ f fd, FnOk P w K mg base CX0 k f fd ps sp ∧ PySem.W.keepIn K (.ref f) = true ∧ Binds K fd ps [] ∧ mg x = some (.ref f)
theorem pe_got {X : Cx} {x : PySem.Str} {k : Nat} {ps : List PySem.Str} {sp : Sp} {p pos : Pos} {e : Expr} {es : List Expr} {t : TA} (h : Got X.prog X.w X.K X.mg X.base x k ps sp) (hr : Room k X.A) (hg : Gl X x) (ha : PA X (e :: es) t)
    (hdb : (x == ("__debug__" : PySem.Str)) = false := by decide) (he : starEach (e :: es) X.env = (false, eval e X.env) :: starEach es X.env := by rfl) (hpl : (backTo pos (starEach es X.env)).any (·.1) = false := by rfl) :
    PE X (.Call (.Name x p) (e :: es) [] pos) (tCall sp [] E0 t) := by
  obtain ⟨f, fd, G, kp, b, g⟩ := h
  exact pe_call G hr hg g kp b .nil pass0 ha hdb he hpl
/-! is_integer, is_between -/
def spInteger : Sp := fun vs H Q _ => ∃ n : Int, vs = [.int n] ∧ Q (.bl true) H
theorem scInteger : FnScope ["value"] ["value"] (defScope sInteger) := ⟨rfl, rfl, rfl, by decide +kernel, rfl, by decide +kernel, by decide +kernel⟩
theorem ok_integer {f : Addr} {fd : FuncData} (F : Fun K "is_integer" "is_integer" sInteger f fd) (T : TM mg) : FnOk P w K mg base CX0 1 f fd ["value"] spInteger := by
  refine F.ok scInteger (fun vs H Q E h => ?_) (fun cdv A outer s H vs Q E hr h => ?_)
  · obtain ⟨n, rfl, _⟩ := h
    rfl
  · obtain ⟨n, rfl, k⟩ := h
    refine ⟨_, pss_one (ps_ret (pe_and (pe_callB call_isi (by rfl) T.isi (by decide +kernel) (pa_cons (pv 0) (pa_cons (pe_bltn (v := .ty "int") (by rfl) T.int PyProof.Rows.Boot.int rfl) pa_nil)))
      (pe_one (pe_not (pe_callB call_isi (by rfl) T.isi (by decide +kernel) (pa_cons (pv 0) (pa_cons (pe_bltn (v := .ty "bool") (by rfl) T.bool PyProof.Rows.Boot.bool rfl) pa_nil))))))), ?_⟩
    refine ⟨_, rfl, _, _, _, _, true, rfl, .ty _, .base (.int _), kit_ty (by decide +kernel), _, rfl, ?_⟩
    refine iteT ?_
    exact ⟨_, rfl, _, _, _, _, false, rfl, .ty _, .base (.int _), kit_ty (by decide +kernel), _, rfl, k⟩
def spBetween : Sp := fun vs H Q _ => ∃ n lo hi : Int, vs = [.int n, .int lo, .int hi] ∧ Q (.bl (decide (lo ≤ n) && decide (n ≤ hi))) H
theorem scBetween : FnScope ["value", "least", "most"] ["value", "least", "most"] (defScope sBetween) := ⟨rfl, rfl, rfl, by decide +kernel, rfl, by decide +kernel, by decide +kernel⟩
theorem ok_between {f : Addr} {fd : FuncData} (F : Fun K "is_between" "is_between" sBetween f fd) (G : Got P w K mg base "is_integer" 1 ["value"] spInteger) : FnOk P w K mg base CX0 2 f fd ["value", "least", "most"] spBetween := by
  refine F.ok scBetween (fun vs H Q E h => ?_) (fun cdv A outer s H vs Q E hr h => ?_)
  · obtain ⟨n, lo, hi, rfl, _⟩ := h
    rfl
  · obtain ⟨n, lo, hi, rfl, k⟩ := h
    refine ⟨_, pss_one (ps_ret (pe_and (pe_got G hr (by rfl) (pa_cons (pv 0) pa_nil)) (pe_one (pe_chain op_le op_le (pv 1) (pv 0) (pv 2))))), ?_⟩
    refine ⟨_, rfl, n, rfl, _, rfl, ?_⟩
    refine iteT ?_
    refine ⟨_, rfl, _, rfl, _, _, rfl, rfl, _, rfl, ?_⟩
    refine ite2 (fun c => ?_) (fun c => ?_)
    · refine ⟨_, rfl, _, _, rfl, rfl, ?_⟩
      rw [c] at k
      exact k
    · rw [Bool.eq_false_iff.mpr c] at k
      exact k
/-! is_sequence, is_row -/
def spSequence (K : PySem.W.Frag) : Sp := fun vs H Q _ => ∃ (a : Addr) (b : Bool) (xs : List V), vs = [.ref a] ∧ SqB b K H a xs ∧ ∀ H', Same H H' → Q (.bl true) H'
theorem scSequence : FnScope ["value"] ["value"] (defScope sSequence) := ⟨rfl, rfl, rfl, by decide +kernel, rfl, by decide +kernel, by decide +kernel⟩
theorem kit_seq {K : PySem.W.Frag} (b : Bool) : PySem.W.kitAny K (.type (sqTy b)) [.type "list", .type "tuple"] = some true := by
  cases b
  · exact kitAny_cons (b := false) (kit_ty (by decide +kernel)) (fun _ => kitAny_cons (b := true) (kit_ty (by decide +kernel)) (fun z => nomatch z) fun _ => rfl) fun _ => rfl
  · exact kitAny_cons (b := true) (kit_ty (by decide +kernel)) (fun z => nomatch z) fun _ => rfl
theorem ok_sequence {f : Addr} {fd : FuncData} (F : Fun K "is_sequence" "is_sequence" sSequence f fd) (T : TM mg) : FnOk P w K mg base CX0 1 f fd ["value"] (spSequence K) := by
  refine F.ok scSequence (fun vs H Q E h => ?_) (fun cdv A outer s H vs Q E hr h => ?_)
  · obtain ⟨a, b, xs, rfl, _⟩ := h
    rfl
  · obtain ⟨a, b, xs, rfl, hS, k⟩ := h
    refine ⟨_, pss_one (ps_ret (pe_callB call_isiT (by rfl) T.isi (by decide +kernel) (pa_cons (pv 0) (pa_cons (pe_tup (pa_cons (pe_bltn (v := .ty "list") (by rfl) T.list PyProof.Rows.Boot.list rfl) (pa_cons (pe_bltn (v := .ty "tuple") (by rfl) T.tuple PyProof.Rows.Boot.tuple rfl) pa_nil))) pa_nil)))), ?_⟩
    refine ⟨_, rfl, by decide, fun p hp => ?_⟩
    exact ⟨_, p, _, _, _, true, rfl, upd_same, .cons (.ty _) (.cons (.ty _) .nil), tyx_sq (hS.mono (same_new hp)), kit_seq b, k _ (same_new hp)⟩
def spRow (K : PySem.W.Frag) : Sp := fun vs H Q _ => ∃ (a : Addr) (b : Bool) (xs : List V) (n : Int), vs = [.ref a, .int n] ∧ SqB b K H a xs ∧ ∀ H', Same H H' → Q (.bl (decide ((xs.length : Int) = n))) H'
theorem scRow : FnScope ["value", "length"] ["value", "length"] (defScope sRow) := ⟨rfl, rfl, rfl, by decide +kernel, rfl, by decide +kernel, by decide +kernel⟩
theorem ok_row {f : Addr} {fd : FuncData} (F : Fun K "is_row" "is_row" sRow f fd) (T : TM mg) (G : Got P w K mg base "is_sequence" 1 ["value"] (spSequence K)) : FnOk P w K mg base CX0 2 f fd ["value", "length"] (spRow K) := by
  refine F.ok scRow (fun vs H Q E h => ?_) (fun cdv A outer s H vs Q E hr h => ?_)
  · obtain ⟨a, b, xs, n, rfl, _⟩ := h
    rfl
  · obtain ⟨a, b, xs, n, rfl, hS, k⟩ := h
    refine ⟨_, pss_one (ps_ret (pe_and (pe_got G hr (by rfl) (pa_cons (pv 0) pa_nil)) (pe_one (pe_cmpR op_eq (pe_callB call_len_seq (by rfl) T.len PySem.boot_len (pa_cons (pv 0) pa_nil)) (pv 1) (nomark _))))), ?_⟩
    refine ⟨_, rfl, a, b, xs, rfl, hS, fun H1 s1 => ⟨_, rfl, ?_⟩⟩
    refine iteT ?_
    refine ⟨_, rfl, a, xs, rfl, (hS.mono s1).any, _, rfl, rfl, ?_⟩
    have e : decide (V.int (xs.length : Int) = V.int n) = decide ((xs.length : Int) = n) := by simp
    rw [e]
    exact k H1 s1
end
end Mk
set_option Elab.async false
set_option maxRecDepth 100000
set_option maxHeartbeats 4000000
namespace Mk
open PySem L2 Pk
section
variable {P : Program} {w : World} {K : PySem.W.Frag} {mg : PySem.Str → Option Value} {base : Heap}
/-! are_letters -/
def lowC (c : Nat) : Bool := decide (97 ≤ c) && decide (c ≤ 122)
def lowB (x : PySem.Str) : Bool := x.cps.toList.all lowC
def spLetters : Sp := fun vs H Q _ => ∃ (x : PySem.Str) (m : Int), vs = [.str x, .int m] ∧ x.length ≤ 1000 ∧ ∀ H', Same H H' → Q (.bl (decide ((x.length : Int) ≤ m) && lowB x)) H'
theorem scLetters : FnScope ["value", "most", "letter"] ["value", "most"] (defScope sLetters) := ⟨rfl, rfl, rfl, by decide +kernel, rfl, by decide +kernel, by decide +kernel⟩
theorem lt_one (a b : Nat) : decide (([a] : List Nat) < [b]) = decide (a < b) := by
  rw [Bool.eq_iff_iff, decide_eq_true_eq, decide_eq_true_eq]
  constructor
  · intro h
    cases h with
    | rel h => exact h
    | cons h => cases h
  · intro h
    exact List.Lex.rel h
theorem ge_sign (c lo : Nat) (z : PySem.Str) (hz : z.cps.toList = [lo]) : (!decide ((⟨#[c]⟩ : PySem.Str).cps.toList < z.cps.toList)) = decide (lo ≤ c) := by
  rw [hz]
  show (!decide (([c] : List Nat) < [lo])) = _
  rw [lt_one]
  by_cases h : lo ≤ c
  · rw [decide_eq_true h, decide_eq_false (by omega)] <;> rfl
  · rw [decide_eq_false h, decide_eq_true (by omega)] <;> rfl
theorem le_sign (c hi : Nat) (z : PySem.Str) (hz : z.cps.toList = [hi]) : (!decide (z.cps.toList < (⟨#[c]⟩ : PySem.Str).cps.toList)) = decide (c ≤ hi) := by
  rw [hz]
  show (!decide (([hi] : List Nat) < [c])) = _
  rw [lt_one]
  by_cases h : c ≤ hi
  · rw [decide_eq_true h, decide_eq_false (by omega)] <;> rfl
  · rw [decide_eq_false h, decide_eq_true (by omega)] <;> rfl
theorem str_len (x : PySem.Str) : x.length = x.cps.size := rfl
theorem take_at {α : Type} {l : List α} {i : Nat} {c : α} (h : l[i]? = some c) : l.take (i + 1) = l.take i ++ [c] := by
  rw [List.take_add_one, h] <;> rfl
theorem ok_letters {f : Addr} {fd : FuncData} (F : Fun K "are_letters" "are_letters" sLetters f fd) (T : TM mg) : FnOk P w K mg base CX0 1 f fd ["value", "most"] spLetters := by
  refine F.ok scLetters (fun vs H Q E h => ?_) (fun cdv A outer s H vs Q E hr h => ?_)
  · obtain ⟨x, m, rfl, _⟩ := h
    rfl
  · obtain ⟨x, m, rfl, hl, k⟩ := h
    refine ⟨_, pss_cons (ps_if (PW.pt (pw_or (pt_not (pt_val (pe_callB call_isi (by rfl) T.isi (by decide +kernel) (pa_cons (pv 0) (pa_cons (pe_bltn (v := .ty "str") (by rfl) T.str PyProof.Rows.Boot.str rfl) pa_nil)))))
        (pw_or1 (pt_cmpR op_gt (pe_callB call_len_str (by rfl) T.len PySem.boot_len (pa_cons (pv 0) pa_nil)) (pv 1) (nomark _))))) (pss_one (ps_ret pe_bl)) pss_nil)
      (pss_one (ps_ret (pe_callB (cr_all rfl) (by rfl) T.all (by decide +kernel) (pa_cons (pe_lc (own := [("letter", 2)]) (g := gName 2) (tt := tYes) (by rfl) scLetters.nd (pi_str (pv 0))
        (blkOk_by (own := [("letter", 2)]) (N := ["value", "most", "letter"]) (sc := defScope sLetters) (by decide +kernel))
        (fun _ _ _ _ _ => pg_name (i := 2) scLetters.nd rfl (Or.inl rfl)) (fun _ _ _ _ _ => pts_nil) (fun _ _ _ _ _ => pe_chain op_le_str op_le_str pe_str (pv 2) pe_str)) pa_nil)))), ?_⟩
    have sz : x.length ≤ sizeLine := Nat.le_trans hl (by decide)
    refine ⟨_, rfl, _, _, _, _, true, rfl, .ty _, .base (.str _), kit_ty (by decide +kernel), _, rfl, ?_⟩
    refine iteF ?_
    refine ⟨_, rfl, x, rfl, sz, _, rfl, _, _, rfl, rfl, _, rfl, ?_⟩
    refine ite2 (fun c => ?_) (fun c => ?_)
    · have c' := of_decide_eq_true c
      have e : decide ((x.length : Int) ≤ m) = false := decide_eq_false (by omega)
      have q := k H (fun _ _ z => z)
      rw [e] at q
      exact q
    · have c' : ¬ ((x.length : Int) > m) := fun z => c (decide_eq_true z)
      have e : decide ((x.length : Int) ≤ m) = true := decide_eq_true (by omega)
      refine ⟨_, rfl, x, rfl, fun D hD => lc_it walk_str (fun i H' => Same H H' ∧ H' D = some (.lst (((x.cps.toList.take i).map lowC).map V.bl)))
        ⟨same_new hD, by rw [upd_same]; rfl⟩ (fun _ _ _ _ => trivial) ?_ ?_⟩
      · rintro i y H1 H2 hi ⟨s1, hD1⟩ ⟨rfl, c0, hc0, rfl⟩
        have hc1 : x.cps.toList[i]? = some c0 := by rw [Array.getElem?_toList]; exact hc0
        refine ⟨rfl, ?_⟩
        have acc : ∀ b : Bool, b = lowC c0 → ∃ ac, H2 D = some (.lst ac) ∧ ac.length < sizeLine ∧ Same H (upd H2 D (.lst (ac ++ [V.bl b]))) ∧ (upd H2 D (.lst (ac ++ [V.bl b]))) D = some (.lst (((x.cps.toList.take (i + 1)).map lowC).map V.bl)) := by
          rintro b rfl
          refine ⟨_, hD1, ?_, same_mut s1 hD, ?_⟩
          · rw [List.length_map, List.length_map, List.length_take, Array.length_toList]
            have q : x.cps.size ≤ 1000 := hl
            exact Nat.lt_of_le_of_lt (Nat.le_trans (Nat.min_le_right _ _) q) (by decide)
          · rw [upd_same, take_at hc1, List.map_append, List.map_append]
            rfl
        refine ⟨_, rfl, _, _, rfl, rfl, _, rfl, ?_⟩
        rw [ge_sign c0 97 _ (by decide +kernel)]
        refine ite2 (fun a => ?_) (fun a => ?_)
        · refine ⟨_, _, rfl, rfl, ?_⟩
          rw [le_sign c0 122 _ (by decide +kernel)]
          exact acc _ (by unfold lowC; rw [a] <;> rfl)
        · exact acc _ (by unfold lowC; rw [Bool.eq_false_iff.mpr a] <;> rfl)
      · rintro H1 ⟨s1, hD1⟩
        refine ⟨D, _, rfl, SqL.of hD1, ?_⟩
        have q := k H1 s1
        rw [e] at q
        have full : x.cps.toList.take x.cps.size = x.cps.toList := List.take_of_length_le (by rw [Array.length_toList]; exact Nat.le_refl _)
        rw [full, List.all_map]
        exact q
end
end Mk
set_option Elab.async false
set_option maxRecDepth 100000
set_option maxHeartbeats 4000000
namespace Mk
open PySem L2 Pk
abbrev rLeS : R2 := fun x y H Q => ∃ i j, x = V.str i ∧ y = V.str j ∧ Q (V.bl !decide (j.cps.toList < i.cps.toList)) H
theorem ch_sign {σ : L2.St} {H : Hp} {i c lo hi : Nat} {zl zh : PySem.Str} {Q : VK} (hl : zl.cps.toList = [lo]) (hh : zh.cps.toList = [hi]) (e : σ[i]? = some (some (.str ⟨#[c]⟩))) (q : Q (.bl (decide (lo ≤ c) && decide (c ≤ hi))) H) :
    tChain rLeS rLeS (tC (.str zl)) (tVar i) (tC (.str zh)) σ H Q := by
  refine ⟨_, e, _, _, rfl, rfl, _, rfl, ?_⟩
  rw [ge_sign c lo _ hl]
  refine ite2 (fun a => ?_) (fun a => ?_)
  · refine ⟨_, _, rfl, rfl, ?_⟩
    rw [le_sign c hi _ hh]
    rw [a] at q
    exact q
  · rw [Bool.eq_false_iff.mpr a] at q
    exact q
/-- x or y, of which x gives a bool -/
theorem or_bool {ta tb : TE} {σ : L2.St} {H : Hp} {Q : VK} {a : Bool} (h : ∀ Q' : VK, Q' (.bl a) H → ta σ H Q') (g : a = false → tb σ H Q) (q : a = true → Q (.bl true) H) : tOrV ta tb σ H Q := by
  refine h _ ⟨a, rfl, ?_⟩
  cases a
  · exact iteF (g rfl)
  · exact iteT (q rfl)
section
variable {P : Program} {w : World} {K : PySem.W.Frag} {mg : PySem.Str → Option Value} {base : Heap}
/-! is_symbol_mark -/
def markC (c : Nat) : Bool := (decide (97 ≤ c) && decide (c ≤ 122)) || ((decide (65 ≤ c) && decide (c ≤ 90)) || (decide (48 ≤ c) && decide (c ≤ 57)))
def spMark : Sp := fun vs H Q _ => ∃ c : Nat, vs = [.str ⟨#[c]⟩] ∧ Q (.bl (markC c)) H
theorem scMark : FnScope ["mark"] ["mark"] (defScope sMark) := ⟨rfl, rfl, rfl, by decide +kernel, rfl, by decide +kernel, by decide +kernel⟩
theorem ok_mark {f : Addr} {fd : FuncData} (F : Fun K "is_symbol_mark" "is_symbol_mark" sMark f fd) : FnOk P w K mg base CX0 1 f fd ["mark"] spMark := by
  refine F.ok scMark (fun vs H Q E h => ?_) (fun cdv A outer s H vs Q E hr h => ?_)
  · obtain ⟨c, rfl, _⟩ := h
    rfl
  · obtain ⟨c, rfl, k⟩ := h
    refine ⟨_, pss_one (ps_ret (pe_or (pe_chain op_le_str op_le_str pe_str (pv 0) pe_str) (pe_or (pe_chain op_le_str op_le_str pe_str (pv 0) pe_str) (pe_one (pe_chain op_le_str op_le_str pe_str (pv 0) pe_str))))), ?_⟩
    unfold markC at k
    have a0 : ∀ {zl zh : PySem.Str} {lo hi : Nat}, zl.cps.toList = [lo] → zh.cps.toList = [hi] → ∀ {H : Hp} {Q' : VK}, Q' (.bl (decide (lo ≤ c) && decide (c ≤ hi))) H → tChain rLeS rLeS (tC (.str zl)) (tVar 0) (tC (.str zh)) (L2.start ["mark"] [.str ⟨#[c]⟩]) H Q' :=
      by
        intro zl zh lo hi hl hh H Q' q
        exact ch_sign hl hh rfl q
    refine or_bool (a := decide (97 ≤ c) && decide (c ≤ 122)) (fun Q' q => a0 (by decide +kernel) (by decide +kernel) q) (fun e => ?_) (fun e => ?_)
    · rw [e, Bool.false_or] at k
      refine or_bool (a := decide (65 ≤ c) && decide (c ≤ 90)) (fun Q' q => a0 (by decide +kernel) (by decide +kernel) q) (fun e => ?_) (fun e => ?_)
      · rw [e, Bool.false_or] at k
        exact a0 (by decide +kernel) (by decide +kernel) k
      · rw [e, Bool.true_or] at k
        exact k
    · rw [e, Bool.true_or] at k
      exact k
/-! is_symbol -/
def symB (x : PySem.Str) : Bool := (decide (1 ≤ x.length) && decide (x.length ≤ 8)) && x.cps.toList.all markC
def spSymbol : Sp := fun vs H Q _ => ∃ x : PySem.Str, vs = [.str x] ∧ x.length ≤ 1000 ∧ ∀ H', Same H H' → Q (.bl (symB x)) H'
theorem scSymbol : FnScope ["value", "mark"] ["value"] (defScope sSymbol) := ⟨rfl, rfl, rfl, by decide +kernel, rfl, by decide +kernel, by decide +kernel⟩
theorem ok_symbol {f : Addr} {fd : FuncData} (F : Fun K "is_symbol" "is_symbol" sSymbol f fd) (T : TM mg) (G : Got P w K mg base "is_symbol_mark" 1 ["mark"] spMark) : FnOk P w K mg base CX0 2 f fd ["value"] spSymbol := by
  refine F.ok scSymbol (fun vs H Q E h => ?_) (fun cdv A outer s H vs Q E hr h => ?_)
  · obtain ⟨x, rfl, _⟩ := h
    rfl
  · obtain ⟨x, rfl, hl, k⟩ := h
    refine ⟨_, pss_cons (ps_if (PW.pt (pw_or (pt_not (pt_val (pe_callB call_isi (by rfl) T.isi (by decide +kernel) (pa_cons (pv 0) (pa_cons (pe_bltn (v := .ty "str") (by rfl) T.str PyProof.Rows.Boot.str rfl) pa_nil)))))
        (pw_or1 (pt_not (pt_chain op_le op_le pe_int (pe_callB call_len_str (by rfl) T.len PySem.boot_len (pa_cons (pv 0) pa_nil)) pe_int))))) (pss_one (ps_ret pe_bl)) pss_nil)
      (pss_one (ps_ret (pe_callB (cr_all rfl) (by rfl) T.all (by decide +kernel) (pa_cons (pe_lc (own := [("mark", 1)]) (g := gName 1) (tt := tYes) (by rfl) scSymbol.nd (pi_str (pv 0))
        (blkOk_by (own := [("mark", 1)]) (N := ["value", "mark"]) (sc := defScope sSymbol) (by decide +kernel))
        (fun _ _ _ _ _ => pg_name (i := 1) scSymbol.nd rfl (Or.inl rfl)) (fun _ _ _ _ _ => pts_nil) (fun _ _ _ _ _ => pe_got G hr (by rfl) (pa_cons (pv 1) pa_nil))) pa_nil)))), ?_⟩
    have sz : x.length ≤ sizeLine := Nat.le_trans hl (by decide)
    refine ⟨_, rfl, _, _, _, _, true, rfl, .ty _, .base (.str _), kit_ty (by decide +kernel), _, rfl, ?_⟩
    refine iteF ?_
    unfold symB at k
    refine ⟨_, rfl, x, rfl, sz, _, _, rfl, rfl, _, rfl, ?_⟩
    have stop : (decide (1 ≤ x.length) && decide (x.length ≤ 8)) = false → Q (.bl false) H := fun e => by
      have q := k H (fun _ _ z => z)
      rw [e] at q
      exact q
    refine ite2 (fun c1 => ?_) (fun c1 => ?_)
    · have c1' : (1 : Int) ≤ (x.length : Int) := of_decide_eq_true c1
      refine ⟨_, _, rfl, rfl, _, rfl, ?_⟩
      refine ite2 (fun c2 => ?_) (fun c2 => ?_)
      · have c2' : ¬ ((x.length : Int) ≤ 8) := by simpa using c2
        exact stop (by rw [decide_eq_false (p := x.length ≤ 8) (by omega), Bool.and_false])
      · have c2' : (x.length : Int) ≤ 8 := by simpa using c2
        have e : (decide (1 ≤ x.length) && decide (x.length ≤ 8)) = true := by rw [decide_eq_true (by omega), decide_eq_true (by omega)] <;> rfl
        refine ⟨_, rfl, x, rfl, fun D hD => lc_it walk_str (fun i H' => Same H H' ∧ H' D = some (.lst (((x.cps.toList.take i).map markC).map V.bl)))
          ⟨same_new hD, by rw [upd_same]; rfl⟩ (fun _ _ _ _ => trivial) ?_ ?_⟩
        · rintro i y H1 H2 hi ⟨s1, hD1⟩ ⟨rfl, c0, hc0, rfl⟩
          have hc1 : x.cps.toList[i]? = some c0 := by rw [Array.getElem?_toList]; exact hc0
          refine ⟨rfl, ?_⟩
          refine ⟨_, rfl, c0, rfl, _, hD1, ?_, same_mut s1 hD, ?_⟩
          · rw [List.length_map, List.length_map, List.length_take, Array.length_toList]
            have q : x.cps.size ≤ 1000 := hl
            exact Nat.lt_of_le_of_lt (Nat.le_trans (Nat.min_le_right _ _) q) (by decide)
          · rw [upd_same, take_at hc1, List.map_append, List.map_append]
            rfl
        · rintro H1 ⟨s1, hD1⟩
          refine ⟨D, _, rfl, SqL.of hD1, ?_⟩
          have q := k H1 s1
          rw [e] at q
          have full : x.cps.toList.take x.cps.size = x.cps.toList := List.take_of_length_le (by rw [Array.length_toList]; exact Nat.le_refl _)
          rw [full, List.all_map]
          exact q
    · have c1' : ¬ ((1 : Int) ≤ (x.length : Int)) := fun z => c1 (decide_eq_true z)
      refine ⟨_, rfl, ?_⟩
      exact iteT (stop (by rw [decide_eq_false (p := 1 ≤ x.length) (by omega), Bool.false_and]))
end
end Mk
set_option Elab.async false
set_option maxRecDepth 100000
set_option maxHeartbeats 4000000
namespace Mk
open PySem L2 Pk
section
variable {P : Program} {w : World} {K : PySem.W.Frag} {mg : PySem.Str → Option Value} {base : Heap}
/-! is_alphabet -/
structure Alpha (x : PySem.Str) : Prop where
  low : lowB x = true
  pos : 1 ≤ x.length
  most : x.length ≤ 26
  up : ∀ (i c d : Nat), x.cps.toList[i]? = some c → x.cps.toList[i + 1]? = some d → c < d
def spAlphabet : Sp := fun vs H Q _ => ∃ x : PySem.Str, vs = [.str x] ∧ Alpha x ∧ ∀ H', Same H H' → Q (.bl true) H'
theorem scAlphabet : FnScope ["value", "at"] ["value"] (defScope sAlphabet) := ⟨rfl, rfl, rfl, by decide +kernel, rfl, by decide +kernel, by decide +kernel⟩
theorem dec_str (x y : PySem.Str) : decide (V.str x = V.str y) = decide (x = y) := by simp
theorem same_tr {H H' H'' : Hp} (a : Same H H') (b : Same H' H'') : Same H H'' := a.trans b
theorem ok_alphabet {f : Addr} {fd : FuncData} (F : Fun K "is_alphabet" "is_alphabet" sAlphabet f fd) (T : TM mg) (G : Got P w K mg base "are_letters" 1 ["value", "most"] spLetters) : FnOk P w K mg base CX0 2 f fd ["value"] spAlphabet := by
  refine F.ok scAlphabet (fun vs H Q E h => ?_) (fun cdv A outer s H vs Q E hr h => ?_)
  · obtain ⟨x, rfl, _⟩ := h
    rfl
  · obtain ⟨x, rfl, a, k⟩ := h
    have most := a.most
    have pos := a.pos
    refine ⟨_, pss_cons (ps_if (PW.pt (pw_or (pt_not (pt_val (pe_got G hr (by rfl) (pa_cons (pv 0) (pa_cons pe_int pa_nil)))))
        (pw_or1 (pt_cmpR op_eq (pv 0) pe_str (nomark _))))) (pss_one (ps_ret pe_bl)) pss_nil)
      (pss_one (ps_ret (pe_callB (cr_all rfl) (by rfl) T.all (by decide +kernel) (pa_cons (pe_lc (own := [("at", 1)]) (g := gName 1) (tt := tYes) (by rfl) scAlphabet.nd
        (pi_range1 (by rfl) T.range (pa_cons (pe_op op_sub (pe_callB call_len_str (by rfl) T.len PySem.boot_len (pa_cons (pv 0) pa_nil)) pe_int) pa_nil))
        (blkOk_by (own := [("at", 1)]) (N := ["value", "at"]) (sc := defScope sAlphabet) (by decide +kernel))
        (fun _ _ _ _ _ => pg_name (i := 1) scAlphabet.nd rfl (Or.inl rfl)) (fun _ _ _ _ _ => pts_nil)
        (fun _ _ _ _ _ => pe_cmpR op_lt_str (pe_ix ix_str (pv 0) (pv 1) fun _ _ => rfl) (pe_ix ix_str (pv 0) (pe_op op_add (pv 1) pe_int) fun _ _ => rfl) (nomark _))) pa_nil)))), ?_⟩
    have sz : x.length ≤ sizeLine := Nat.le_trans most (by decide)
    refine ⟨_, rfl, x, 26, rfl, Nat.le_trans most (by decide), fun H1 s1 => ⟨_, rfl, ?_⟩⟩
    rw [a.low, decide_eq_true (p := (x.length : Int) ≤ 26) (by omega)]
    refine iteF ?_
    refine ⟨_, rfl, rfl, _, rfl, ?_⟩
    have ne : ¬ x = (PySem.Str.ofString "") := fun e => by
      rw [e] at pos
      exact absurd pos (by decide +kernel)
    rw [dec_str, decide_eq_false ne]
    refine iteF ?_
    have sz2 : x.cps.size = x.length := rfl
    refine ⟨_, rfl, x, rfl, sz, _, _, rfl, rfl, _, rfl, by omega, by omega, fun D hD => lc_range (lo := 0) (n := ((x.length : Int) - 1).toNat) (fun i H' => Same H H' ∧ H' D = some (.lst ((List.replicate i true).map V.bl)))
        ⟨same_tr s1 (same_new hD), by rw [upd_same]; rfl⟩ ?_ ?_⟩
    · rintro i H2 hi ⟨s2, hD2⟩
      have h1 : i < x.cps.toList.length := by rw [Array.length_toList]; omega
      have h2 : i + 1 < x.cps.toList.length := by rw [Array.length_toList]; omega
      have e1 : x.cps.toList[i]? = some x.cps.toList[i] := List.getElem?_eq_getElem h1
      have e2 : x.cps.toList[i + 1]? = some x.cps.toList[i + 1] := List.getElem?_eq_getElem h2
      have lt := a.up i _ _ e1 e2
      refine ⟨rfl, ?_⟩
      refine ⟨_, rfl, _, rfl, x, _, _, rfl, rfl, sz, (by rw [Int.zero_add]; exact atI_nat e1), _, rfl, _, rfl, _, _, rfl, rfl, x, _, _, rfl, rfl, sz, (by rw [Int.zero_add]; exact atI_nat (j := i + 1) e2), _, _, rfl, rfl, _, hD2, ?_, same_mut s2 (s1.free hD), ?_⟩
      · rw [List.length_map, List.length_replicate]
        exact Nat.lt_of_lt_of_le (show i < 26 by omega) (by decide)
      · rw [upd_same, List.replicate_succ', List.map_append]
        show some (HO.lst (_ ++ [V.bl (decide (([x.cps.toList[i]] : List Nat) < [x.cps.toList[i + 1]]))])) = _
        rw [lt_one, decide_eq_true lt]
        rfl
    · rintro H2 ⟨s2, hD2⟩
      refine ⟨D, _, rfl, SqL.of hD2, ?_⟩
      rw [show (List.replicate ((x.length : Int) - 1).toNat true).all id = true by simp]
      exact k H2 s2
/-! is_sign -/
def Sgn (letters s : PySem.Str) : Prop := ∃ c : Nat, s = ⟨#[c]⟩ ∧ (c = 60 ∨ c = 62 ∨ c ∈ letters.cps.toList)
def spSign : Sp := fun vs H Q _ => ∃ l s : PySem.Str, vs = [.str l, .str s] ∧ Sgn l s ∧ Q (.bl true) H
theorem scSign : FnScope ["letters", "value"] ["letters", "value"] (defScope sSign) := ⟨rfl, rfl, rfl, by decide +kernel, rfl, by decide +kernel, by decide +kernel⟩
theorem ok_sign {f : Addr} {fd : FuncData} (F : Fun K "is_sign" "is_sign" sSign f fd) (T : TM mg) : FnOk P w K mg base CX0 1 f fd ["letters", "value"] spSign := by
  refine F.ok scSign (fun vs H Q E h => ?_) (fun cdv A outer s H vs Q E hr h => ?_)
  · obtain ⟨l, s, rfl, _⟩ := h
    rfl
  · obtain ⟨l, _, rfl, ⟨c, rfl, hc⟩, k⟩ := h
    refine ⟨_, pss_one (ps_ret (pe_and (pe_callB call_isi (by rfl) T.isi (by decide +kernel) (pa_cons (pv 1) (pa_cons (pe_bltn (v := .ty "str") (by rfl) T.str PyProof.Rows.Boot.str rfl) pa_nil)))
      (pe_and (pe_cmpR op_eq (pe_callB call_len_str (by rfl) T.len PySem.boot_len (pa_cons (pv 1) pa_nil)) pe_int (nomark _))
      (pe_one (pe_or (pe_cmpR op_in_sign (pv 1) pe_str rfl) (pe_one (pe_cmpR op_in_sign (pv 1) (pv 0) rfl))))))), ?_⟩
    refine ⟨_, rfl, _, _, _, _, true, rfl, .ty _, .base (.str _), kit_ty (by decide +kernel), _, rfl, ?_⟩
    refine iteT ?_
    refine ⟨_, rfl, _, rfl, (show 1 ≤ sizeLine by decide), rfl, _, rfl, ?_⟩
    refine iteT ?_
    refine or_bool (a := decide (c ∈ (PySem.Str.ofString "<>").cps.toList)) (fun Q' q => ⟨_, rfl, c, _, rfl, rfl, q⟩) (fun e => ?_) fun _ => k
    refine ⟨_, rfl, _, rfl, c, l, rfl, rfl, ?_⟩
    have e' : c ∉ ([60, 62] : List Nat) := of_decide_eq_false e
    have m : c ∈ l.cps.toList := by
      rcases hc with z | z | z
      · exact absurd (by rw [z]; decide) e'
      · exact absurd (by rw [z]; decide) e'
      · exact z
    rw [decide_eq_true m]
    exact k
end
end Mk
set_option Elab.async false
set_option maxRecDepth 100000
set_option maxHeartbeats 4000000
namespace Mk
open PySem L2 Pk
/-- x and y, of which x gives a bool -/
theorem and_bool {ta tb : TE} {σ : L2.St} {H : Hp} {Q : VK} {a : Bool} (h : ∀ Q' : VK, Q' (.bl a) H → ta σ H Q') (g : a = true → tb σ H Q) (q : a = false → Q (.bl false) H) : tAndV ta tb σ H Q := by
  refine h _ ⟨a, rfl, ?_⟩
  cases a
  · exact iteF (q rfl)
  · exact iteT (g rfl)
theorem skip_if {tA : TT} {ta u : TS} {D : Ends} {σ : L2.St} {H : Hp} (h : ∀ R : Bool → Hp → Prop, (∀ H1, Same H H1 → R false H1) → tA σ H R) (g : ∀ H1, Same H H1 → u D σ H1) : tSeq (tIfS tA ta tNext) u D σ H :=
  h _ fun H1 s1 => iteF (g H1 s1)
section
variable {P : Program} {w : World} {K : PySem.W.Frag} {mg : PySem.Str → Option Value} {base : Heap}
abbrev nil0 : PySem.Str := PySem.Str.ofString ""
/-! is_top -/
def Top (x : PySem.Str) : Prop := symB x = true ∨ x = nil0
theorem top_len {x : PySem.Str} (h : Top x) : x.length ≤ 8 := by
  rcases h with h | h
  · unfold symB at h
    rw [Bool.and_eq_true, Bool.and_eq_true, decide_eq_true_eq, decide_eq_true_eq] at h
    exact h.1.2
  · rw [h]
    decide +kernel
def spTop : Sp := fun vs H Q _ => ∃ x : PySem.Str, vs = [.str x] ∧ Top x ∧ ∀ H', Same H H' → Q (.bl true) H'
theorem scTop : FnScope ["value"] ["value"] (defScope sTop) := ⟨rfl, rfl, rfl, by decide +kernel, rfl, by decide +kernel, by decide +kernel⟩
theorem ok_top {f : Addr} {fd : FuncData} (F : Fun K "is_top" "is_top" sTop f fd) (T : TM mg) (G : Got P w K mg base "is_symbol" 2 ["value"] spSymbol) : FnOk P w K mg base CX0 3 f fd ["value"] spTop := by
  refine F.ok scTop (fun vs H Q E h => ?_) (fun cdv A outer s H vs Q E hr h => ?_)
  · obtain ⟨x, rfl, _⟩ := h
    rfl
  · obtain ⟨x, rfl, ht, k⟩ := h
    refine ⟨_, pss_one (ps_ret (pe_or (pe_got G hr (by rfl) (pa_cons (pv 0) pa_nil)) (pe_one (pe_and (pe_callB call_isi (by rfl) T.isi (by decide +kernel) (pa_cons (pv 0) (pa_cons (pe_bltn (v := .ty "str") (by rfl) T.str PyProof.Rows.Boot.str rfl) pa_nil)))
      (pe_one (pe_cmpR op_eq (pv 0) pe_str (nomark _))))))), ?_⟩
    refine ⟨_, rfl, x, rfl, Nat.le_trans (top_len ht) (by decide), fun H1 s1 => ⟨_, rfl, ?_⟩⟩
    rcases ht with e | e
    · rw [e]
      exact iteT (k H1 s1)
    · refine ite2 (fun _ => k H1 s1) fun _ => ?_
      refine ⟨_, rfl, _, _, _, _, true, rfl, .ty _, .base (.str _), kit_ty (by decide +kernel), _, rfl, ?_⟩
      refine iteT ?_
      refine ⟨_, rfl, rfl, ?_⟩
      rw [dec_str, e, decide_eq_true rfl]
      exact k H1 s1
/-! is_move -/
abbrev lt0 : PySem.Str := PySem.Str.ofString "<"
abbrev gt0 : PySem.Str := PySem.Str.ofString ">"
structure Mv (s : PySem.Str) (v : Int) : Prop where
  lo : -1 ≤ v
  hi : v ≤ 1
  l : s = lt0 → v ≠ -1
  r : s = gt0 → v ≠ 1
def spMove : Sp := fun vs H Q _ => ∃ (s : PySem.Str) (v : Int), vs = [.str s, .int v] ∧ Mv s v ∧ Q (.bl true) H
theorem scMove : FnScope ["sign", "value"] ["sign", "value"] (defScope sMove) := ⟨rfl, rfl, rfl, by decide +kernel, rfl, by decide +kernel, by decide +kernel⟩
theorem dec_intV (x y : Int) : decide (V.int x = V.int y) = decide (x = y) := by simp
theorem ok_move {f : Addr} {fd : FuncData} (F : Fun K "is_move" "is_move" sMove f fd) (G : Got P w K mg base "is_between" 2 ["value", "least", "most"] spBetween) : FnOk P w K mg base CX0 3 f fd ["sign", "value"] spMove := by
  refine F.ok scMove (fun vs H Q E h => ?_) (fun cdv A outer s H vs Q E hr h => ?_)
  · obtain ⟨x, v, rfl, _⟩ := h
    rfl
  · obtain ⟨x, v, rfl, m, k⟩ := h
    refine ⟨_, pss_cons (ps_if (pt_not (pt_val (pe_got G hr (by rfl) (pa_cons (pv 1) (pa_cons (pe_un un_neg pe_int) (pa_cons pe_int pa_nil)))))) (pss_one (ps_ret pe_bl)) pss_nil)
      (pss_one (ps_ret (pe_not (pe_or (pe_and (pe_cmpR op_eq (pv 0) pe_str (nomark _)) (pe_one (pe_cmpR op_eq (pv 1) (pe_un un_neg pe_int) (nomark _))))
        (pe_one (pe_and (pe_cmpR op_eq (pv 0) pe_str (nomark _)) (pe_one (pe_cmpR op_eq (pv 1) pe_int (nomark _))))))))), ?_⟩
    refine ⟨_, rfl, _, rfl, v, -1, 1, rfl, _, rfl, ?_⟩
    rw [decide_eq_true m.lo, decide_eq_true m.hi]
    refine iteF ?_
    have fin : ∀ b : Bool, b = false → ∃ c, V.bl b = V.bl c ∧ Q (.bl (!c)) H := fun b e => by
      rw [e]
      exact ⟨false, rfl, k⟩
    dsimp only [tNext, tRet, tNotV]
    refine or_bool (a := decide (x = lt0) && decide (v = -1)) (fun Q' q => ?_) (fun e => ?_) (fun e => ?_)
    · refine and_bool (a := decide (x = lt0)) (fun Q2 q2 => ⟨_, rfl, rfl, by rw [dec_str]; exact q2⟩) (fun e => ?_) (fun e => ?_)
      · refine ⟨_, rfl, _, rfl, rfl, ?_⟩
        rw [dec_intV]
        rw [e] at q
        exact q
      · rw [e] at q
        exact q
    · refine and_bool (a := decide (x = gt0)) (fun Q2 q2 => ⟨_, rfl, rfl, by rw [dec_str]; exact q2⟩) (fun e => ?_) (fun e => ?_)
      · refine ⟨_, rfl, rfl, ?_⟩
        rw [dec_intV, decide_eq_false (m.r (of_decide_eq_true e))]
        exact fin _ rfl
      · exact fin _ rfl
    · rw [Bool.and_eq_true, decide_eq_true_eq, decide_eq_true_eq] at e
      exact absurd e.2 (m.l e.1)
/-! is_deed -/
abbrev keep0 : PySem.Str := PySem.Str.ofString "keep"
abbrev pop0 : PySem.Str := PySem.Str.ofString "pop"
abbrev push0 : PySem.Str := PySem.Str.ofString "push"
abbrev swap0 : PySem.Str := PySem.Str.ofString "swap"
structure Deed (t d s : PySem.Str) : Prop where
  one : d = keep0 ∨ d = pop0 ∨ d = push0 ∨ d = swap0
  low : t = nil0 → d = keep0 ∨ d = push0
  sym : d = push0 ∨ d = swap0 → symB s = true
  no : d = keep0 ∨ d = pop0 → s = nil0
/-- the module's tuple DEEDS -/
def Deeds (K : PySem.W.Frag) (mg : PySem.Str → Option Value) : Prop := ∃ a, mg "DEEDS" = some (.ref a) ∧ ∀ H : Hp, SqT K H a [.str keep0, .str pop0, .str push0, .str swap0]
def spDeed : Sp := fun vs H Q _ => ∃ t d s : PySem.Str, vs = [.str t, .str d, .str s] ∧ Deed t d s ∧ ∀ H', Same H H' → Q (.bl true) H'
theorem scDeed : FnScope ["top", "deed", "symbol"] ["top", "deed", "symbol"] (defScope sDeed) := ⟨rfl, rfl, rfl, by decide +kernel, rfl, by decide +kernel, by decide +kernel⟩
theorem ok_deed {f : Addr} {fd : FuncData} (F : Fun K "is_deed" "is_deed" sDeed f fd) (T : TM mg) (D : Deeds K mg) (G : Got P w K mg base "is_symbol" 2 ["value"] spSymbol) : FnOk P w K mg base CX0 3 f fd ["top", "deed", "symbol"] spDeed := by
  refine F.ok scDeed (fun vs H Q E h => ?_) (fun cdv A outer s H vs Q E hr h => ?_)
  · obtain ⟨t, d, x, rfl, _⟩ := h
    rfl
  · obtain ⟨t, d, x, rfl, m, k⟩ := h
    obtain ⟨aD, gD, hD⟩ := D
    refine ⟨_, pss_cons (ps_if (PW.pt (pw_or (pt_not (pt_val (pe_callB call_isi (by rfl) T.isi (by decide +kernel) (pa_cons (pv 1) (pa_cons (pe_bltn (v := .ty "str") (by rfl) T.str PyProof.Rows.Boot.str rfl) pa_nil)))))
        (pw_or1 (pt_cmpR op_notIn_seq (pv 1) (pe_glob (v := .ref aD) (by rfl) gD rfl) rfl)))) (pss_one (ps_ret pe_bl)) pss_nil)
      (pss_cons (ps_if (PW.pt (pw_and (pt_cmpR op_eq (pv 0) pe_str (nomark _)) (pw_and1 (pt_cmpR op_notIn_seq (pv 1) (pe_tup (pa_cons pe_str (pa_cons pe_str pa_nil))) rfl)))) (pss_one (ps_ret pe_bl)) pss_nil)
      (pss_cons (ps_if (pt_cmpR op_in_seq (pv 1) (pe_tup (pa_cons pe_str (pa_cons pe_str pa_nil))) rfl) (pss_one (ps_ret (pe_got G hr (by rfl) (pa_cons (pv 2) pa_nil)))) pss_nil)
      (pss_one (ps_ret (pe_and (pe_callB call_isi (by rfl) T.isi (by decide +kernel) (pa_cons (pv 2) (pa_cons (pe_bltn (v := .ty "str") (by rfl) T.str PyProof.Rows.Boot.str rfl) pa_nil)))
        (pe_one (pe_cmpR op_eq (pv 2) pe_str (nomark _)))))))), ?_⟩
    refine ⟨_, rfl, _, _, _, _, true, rfl, .ty _, .base (.str _), kit_ty (by decide +kernel), _, rfl, ?_⟩
    refine iteF ?_
    have rest : ∀ H1 : Hp, Same H H1 → (∀ H2, Same H1 H2 → Q (.bl true) H2) := fun H1 s1 H2 s2 => k H2 (s1.trans s2)
    have inD : inV (.str d) [.str keep0, .str pop0, .str push0, .str swap0] = true := by
      rcases m.one with e | e | e | e <;> rw [e] <;> decide +kernel
    refine ⟨_, rfl, aD, _, rfl, .inr (hD H), rfl, rfl, _, rfl, ?_⟩
    rw [inD]
    refine iteF ?_
    have two : ∀ {a b : PySem.Str} {p : Addr} {H1 : Hp}, SqT K (upd H1 p (.tup [.str a, .str b])) p [.str a, .str b] := .inl (.inl upd_same)
    dsimp only [tNext]
    refine skip_if (fun R r => ?_) (fun H1 s1 => ?_)
    · refine ⟨_, rfl, rfl, _, rfl, ?_⟩
      refine ite2 (fun e => ?_) (fun _ => r H (fun _ _ z => z))
      rw [dec_str, decide_eq_true_eq] at e
      refine ⟨_, rfl, by decide, fun p hp => ⟨p, _, rfl, .inr two, rfl, rfl, _, rfl, ?_⟩⟩
      have z : inV (.str d) [.str keep0, .str push0] = true := by
        rcases m.low e with e | e <;> rw [e] <;> decide +kernel
      rw [z]
      exact r _ (same_new hp)
    · by_cases e : d = push0 ∨ d = swap0
      · have z : inV (.str d) [.str push0, .str swap0] = true := by
          rcases e with e | e <;> rw [e] <;> decide +kernel
        refine ⟨_, rfl, by decide, fun p hp => ⟨p, _, rfl, .inr two, rfl, rfl, _, rfl, ?_⟩⟩
        rw [z]
        refine iteT ?_
        have y := m.sym e
        refine ⟨_, rfl, x, rfl, Nat.le_trans (top_len (.inl y)) (by decide), fun H2 s2 => ?_⟩
        rw [y]
        exact k H2 ((s1.trans (same_new hp)).trans s2)
      · have e2 : d = keep0 ∨ d = pop0 := by
          rcases m.one with z | z | z | z
          · exact .inl z
          · exact .inr z
          · exact absurd (.inl z) e
          · exact absurd (.inr z) e
        have z : inV (.str d) [.str push0, .str swap0] = false := by
          rcases e2 with e | e <;> rw [e] <;> decide +kernel
        refine ⟨_, rfl, by decide, fun p hp => ⟨p, _, rfl, .inr two, rfl, rfl, _, rfl, ?_⟩⟩
        rw [z]
        refine iteF ?_
        refine ⟨_, rfl, _, _, _, _, true, rfl, .ty _, .base (.str _), kit_ty (by decide +kernel), _, rfl, ?_⟩
        refine iteT ?_
        refine ⟨_, rfl, rfl, ?_⟩
        rw [dec_str, m.no e2, decide_eq_true rfl]
        exact k _ (s1.trans (same_new hp))
end
end Mk
set_option Elab.async false
set_option maxRecDepth 100000
set_option maxHeartbeats 4000000
namespace Mk
open PySem L2 Pk
def gSq (b : Bool) (K : PySem.W.Frag) (n : Nat) (t : TGs) : TG := match b with
  | true => gLst K n t
  | false => gTup K n t
theorem pg_sq {X : Cx} {pos : Pos} {es : List Expr} {k : Nat} {t : TGs} {n : Nat} (b : Bool) (hc : X.calm = true) (h : PGs X es t)
    (hn : (assignEach es X.env).length = n := by rfl) (hst : (assignEach es X.env).findIdx? (·.1) = none := by rfl) : PG X (.Tuple es k pos) (gSq b X.K n t) := by
  cases b
  · exact pg_tup hc h hn hst
  · exact pg_lst hc h hn hst
theorem gsq_of {b : Bool} {K : PySem.W.Frag} {n : Nat} {t : TGs} {v : V} {σ : L2.St} {H : Hp} {Q} (h : ∃ a xs, v = .ref a ∧ SqB b K H a xs ∧ xs.length = n ∧ t xs σ H Q) : gSq b K n t v σ H Q := by
  cases b
  · exact h
  · exact h
/-- a rule -/
structure Rl where
  st : Int
  sg : PySem.Str
  tp : PySem.Str
  af : Int
  mv : Int
  de : PySem.Str
  sy : PySem.Str
  sa : PySem.Str
  deriving DecidableEq
def Rl.vs (r : Rl) : List V := [.int r.st, .str r.sg, .str r.tp, .int r.af, .int r.mv, .str r.de, .str r.sy, .str r.sa]
structure RlOk (l : PySem.Str) (n : Int) (r : Rl) : Prop where
  st : 0 ≤ r.st ∧ r.st ≤ n - 1
  sg : Sgn l r.sg
  tp : Top r.tp
  af : 0 ≤ r.af ∧ r.af ≤ n - 1
  mv : Mv r.sg r.mv
  de : Deed r.tp r.de r.sy
  sa : lowB r.sa = true ∧ r.sa.length ≤ 3
section
variable {P : Program} {w : World} {K : PySem.W.Frag} {mg : PySem.Str → Option Value} {base : Heap}
/-! is_state -/
def spState : Sp := fun vs H Q _ => ∃ n v : Int, vs = [.int n, .int v] ∧ Q (.bl (decide (0 ≤ v) && decide (v ≤ n - 1))) H
theorem scState : FnScope ["states", "value"] ["states", "value"] (defScope sState) := ⟨rfl, rfl, rfl, by decide +kernel, rfl, by decide +kernel, by decide +kernel⟩
theorem ok_state {f : Addr} {fd : FuncData} (F : Fun K "is_state" "is_state" sState f fd) (G : Got P w K mg base "is_between" 2 ["value", "least", "most"] spBetween) : FnOk P w K mg base CX0 3 f fd ["states", "value"] spState := by
  refine F.ok scState (fun vs H Q E h => ?_) (fun cdv A outer s H vs Q E hr h => ?_)
  · obtain ⟨n, v, rfl, _⟩ := h
    rfl
  · obtain ⟨n, v, rfl, k⟩ := h
    refine ⟨_, pss_one (ps_ret (pe_got G hr (by rfl) (pa_cons (pv 1) (pa_cons pe_int (pa_cons (pe_op op_sub (pv 0) pe_int) pa_nil))))), ?_⟩
    exact ⟨_, rfl, _, rfl, _, _, rfl, rfl, v, 0, n - 1, rfl, k⟩
/-! is_rule -/
structure RuleDefs (P : Program) (w : World) (K : PySem.W.Frag) (mg : PySem.Str → Option Value) (base : Heap) : Prop where
  row : Got P w K mg base "is_row" 2 ["value", "length"] (spRow K)
  state : Got P w K mg base "is_state" 3 ["states", "value"] spState
  sign : Got P w K mg base "is_sign" 1 ["letters", "value"] spSign
  top : Got P w K mg base "is_top" 3 ["value"] spTop
  move : Got P w K mg base "is_move" 3 ["sign", "value"] spMove
  deed : Got P w K mg base "is_deed" 3 ["top", "deed", "symbol"] spDeed
  letters : Got P w K mg base "are_letters" 1 ["value", "most"] spLetters
def spRule (K : PySem.W.Frag) : Sp := fun vs H Q _ => ∃ (l : PySem.Str) (n : Int) (a : Addr) (b : Bool) (r : Rl), vs = [.str l, .int n, .ref a] ∧ SqB b K H a r.vs ∧ RlOk l n r ∧ ∀ H', Same H H' → Q (.bl true) H'
abbrev nRule : List PySem.Str := ["letters", "states", "value", "state", "sign", "top", "after", "move", "deed", "symbol", "said"]
theorem scRule : FnScope nRule ["letters", "states", "value"] (defScope sRule) := ⟨rfl, rfl, rfl, by decide +kernel, rfl, by decide +kernel, by decide +kernel⟩
theorem ok_rule {f : Addr} {fd : FuncData} (F : Fun K "is_rule" "is_rule" sRule f fd) (G : RuleDefs P w K mg base) : FnOk P w K mg base CX0 4 f fd ["letters", "states", "value"] (spRule K) := by
  refine F.ok scRule (fun vs H Q E h => ?_) (fun cdv A outer s H vs Q E hr h => ?_)
  · obtain ⟨l, n, a, b, r, rfl, _⟩ := h
    rfl
  · obtain ⟨l, n, a, b, r, rfl, hS, ok, k⟩ := h
    have h2 := hr.mono (show 2 ≤ 3 by decide)
    have h1 := hr.mono (show 1 ≤ 3 by decide)
    refine ⟨_, pss_cons (ps_if (pt_not (pt_val (pe_got G.row h2 (by rfl) (pa_cons (pv 2) (pa_cons pe_int pa_nil))))) (pss_one (ps_ret pe_bl)) pss_nil)
      (pss_cons (ps_asg (pv 2) (pg_sq b (by rfl) (pgs_cons (pg_name (i := 3) scRule.nd rfl (Or.inl rfl)) (pgs_cons (pg_name (i := 4) scRule.nd rfl (Or.inl rfl)) (pgs_cons (pg_name (i := 5) scRule.nd rfl (Or.inl rfl))
        (pgs_cons (pg_name (i := 6) scRule.nd rfl (Or.inl rfl)) (pgs_cons (pg_name (i := 7) scRule.nd rfl (Or.inl rfl)) (pgs_cons (pg_name (i := 8) scRule.nd rfl (Or.inl rfl)) (pgs_cons (pg_name (i := 9) scRule.nd rfl (Or.inl rfl)) (pgs_cons (pg_name (i := 10) scRule.nd rfl (Or.inl rfl)) pgs_nil))))))))))
      (pss_cons (ps_if (pt_not (PW.pt (pw_and (pt_val (pe_got G.state hr (by rfl) (pa_cons (pv 1) (pa_cons (pv 3) pa_nil)))) (pw_and (pt_val (pe_got G.sign h1 (by rfl) (pa_cons (pv 0) (pa_cons (pv 4) pa_nil)))) (pw_and1 (pt_val (pe_got G.top hr (by rfl) (pa_cons (pv 5) pa_nil))))))) ) (pss_one (ps_ret pe_bl)) pss_nil)
      (pss_cons (ps_if (pt_not (PW.pt (pw_and (pt_val (pe_got G.state hr (by rfl) (pa_cons (pv 1) (pa_cons (pv 6) pa_nil)))) (pw_and1 (pt_val (pe_got G.move hr (by rfl) (pa_cons (pv 4) (pa_cons (pv 7) pa_nil))))))) ) (pss_one (ps_ret pe_bl)) pss_nil)
      (pss_one (ps_ret (pe_and (pe_got G.deed hr (by rfl) (pa_cons (pv 5) (pa_cons (pv 8) (pa_cons (pv 9) pa_nil)))) (pe_one (pe_got G.letters h1 (by rfl) (pa_cons (pv 10) (pa_cons pe_int pa_nil)))))))))), ?_⟩
    refine ⟨_, rfl, a, b, r.vs, 8, rfl, hS, fun H1 s1 => ⟨_, rfl, ?_⟩⟩
    rw [show decide (((r.vs.length : Nat) : Int) = 8) = true from rfl]
    refine iteF ?_
    refine ⟨_, rfl, gsq_of ⟨a, r.vs, rfl, hS.mono s1, rfl, _, _, rfl, _, _, rfl, _, _, rfl, _, _, rfl, _, _, rfl, _, _, rfl, _, _, rfl, _, _, rfl, rfl, ?_⟩⟩
    refine ⟨_, rfl, _, rfl, n, r.st, rfl, _, rfl, ?_⟩
    rw [decide_eq_true ok.st.1, decide_eq_true ok.st.2]
    refine iteT ?_
    refine ⟨_, rfl, _, rfl, l, r.sg, rfl, ok.sg, _, rfl, ?_⟩
    refine iteT ?_
    refine ⟨_, rfl, r.tp, rfl, ok.tp, fun H2 s2 => ⟨_, rfl, ?_⟩⟩
    refine iteF ?_
    refine ⟨_, rfl, _, rfl, n, r.af, rfl, _, rfl, ?_⟩
    rw [decide_eq_true ok.af.1, decide_eq_true ok.af.2]
    refine iteT ?_
    refine ⟨_, rfl, _, rfl, r.sg, r.mv, rfl, ok.mv, _, rfl, ?_⟩
    refine iteF ?_
    refine ⟨_, rfl, _, rfl, _, rfl, r.tp, r.de, r.sy, rfl, ok.de, fun H3 s3 => ⟨_, rfl, ?_⟩⟩
    refine iteT ?_
    refine ⟨_, rfl, r.sa, 3, rfl, Nat.le_trans ok.sa.2 (by decide), fun H4 s4 => ?_⟩
    rw [ok.sa.1, decide_eq_true (p := (r.sa.length : Int) ≤ 3) (by have := ok.sa.2; omega)]
    exact k H4 (((s1.trans s2).trans s3).trans s4)
end
end Mk
set_option Elab.async false
set_option maxRecDepth 100000
set_option maxHeartbeats 4000000
namespace Mk
open PySem L2 Pk
def iSq (b : Bool) (K : PySem.W.Frag) (tl : TE) : TI := match b with
  | true => iList K tl
  | false => iTup K tl
theorem pi_sq {X : Cx} {tg l : Expr} {tl : TE} (b : Bool) (hl : PE X l tl) : PI X tg l (iSq b X.K tl) := by
  cases b
  · exact pi_tup hl
  · exact pi_list hl
def ItB (b : Bool) (K : PySem.W.Frag) (a : Addr) := match b with
  | true => Itl K a
  | false => Itt K a
theorem isq_of {b : Bool} {K : PySem.W.Frag} {tl : TE} {σ : L2.St} {H : Hp} {R} (h : tl σ H fun x H1 => ∃ a, x = .ref a ∧ (∃ xs, SqB b K H1 a xs) ∧ R (ItB b K a) H1) : iSq b K tl σ H R := by
  cases b
  · exact h
  · exact h
/-- a walk over a list or a tuple that stays -/
theorem walk_sq {b : Bool} {K : PySem.W.Frag} {a : Addr} {xs : List V} : Walk (ItB b K a) xs.length (fun H => SqB b K H a xs) (YAt xs) := by
  cases b
  · exact walk_tup
  · exact walk_list
theorem ix_sq {b : Bool} {K : PySem.W.Frag} {H : Hp} {a : Addr} {xs : List V} {i : Int} {v : V} {Q : VK} (h : SqB b K H a xs) (e : atI xs i = some v) (q : Q v H) : rIx K (.ref a) (.int i) H Q := by
  cases b
  · exact .inr (.inl ⟨a, xs, i, v, rfl, rfl, h, e, q⟩)
  · exact .inl ⟨a, xs, i, v, rfl, rfl, h, e, q⟩
abbrev sCheck : Stmt := top 34
/-- rules as they are handed in -/
abbrev Hand := List (Addr × Bool × Rl)
structure HandOk (K : PySem.W.Frag) (H : Hp) (l : PySem.Str) (n : Int) (R : Hand) : Prop where
  at_ : ∀ p ∈ R, SqB p.2.1 K H p.1 p.2.2.vs
  ok : ∀ p ∈ R, RlOk l n p.2.2
  most : R.length ≤ 20000
theorem HandOk.mono {K : PySem.W.Frag} {H H' : Hp} {l : PySem.Str} {n : Int} {R : Hand} (h : HandOk K H l n R) (e : Same H H') : HandOk K H' l n R := ⟨fun p m => (h.at_ p m).mono e, h.ok, h.most⟩
section
variable {P : Program} {w : World} {K : PySem.W.Frag} {mg : PySem.Str → Option Value} {base : Heap}
structure ChkDefs (P : Program) (w : World) (K : PySem.W.Frag) (mg : PySem.Str → Option Value) (base : Heap) : Prop where
  alphabet : Got P w K mg base "is_alphabet" 2 ["value"] spAlphabet
  between : Got P w K mg base "is_between" 2 ["value", "least", "most"] spBetween
  sequence : Got P w K mg base "is_sequence" 1 ["value"] (spSequence K)
  rule : Got P w K mg base "is_rule" 4 ["letters", "states", "value"] (spRule K)
  state : Got P w K mg base "is_state" 3 ["states", "value"] spState
  ms : ∃ t, mg "MOST_STATES" = some (.int 2000 t)
  mr : ∃ t, mg "MOST_RULES" = some (.int 20000 t)
def refsH (R : Hand) : List V := R.map fun p => .ref p.1
structure ArgsOk (K : PySem.W.Frag) (H : Hp) (l : PySem.Str) (n : Int) (aR aY : Addr) (bR bY : Bool) (R : Hand) (ys : List Int) : Prop where
  alpha : Alpha l
  num : 1 ≤ n ∧ n ≤ 2000
  rs : SqB bR K H aR (refsH R)
  hand : HandOk K H l n R
  yes : SqB bY K H aY (ys.map V.int)
  in_ : ∀ y ∈ ys, 0 ≤ y ∧ y ≤ n - 1
  few : ys.length ≤ 100000
def spCheck (K : PySem.W.Frag) : Sp := fun vs H Q _ => ∃ (l : PySem.Str) (n : Int) (aR aY : Addr) (bR bY : Bool) (R : Hand) (ys : List Int), vs = [.str l, .int n, .ref aR, .ref aY] ∧ ArgsOk K H l n aR aY bR bY R ys ∧ ∀ H', Same H H' → Q .non H'
abbrev nCheck : List PySem.Str := ["letters", "states", "rules", "yes", "index", "state"]
theorem scCheck : FnScope nCheck ["letters", "states", "rules", "yes"] (defScope sCheck) := ⟨rfl, rfl, rfl, by decide +kernel, rfl, by decide +kernel, by decide +kernel⟩
theorem ok_check {f : Addr} {fd : FuncData} (F : Fun K "check_arguments" "check_arguments" sCheck f fd) (T : TM mg) (G : ChkDefs P w K mg base) : FnOk P w K mg base CX0 5 f fd ["letters", "states", "rules", "yes"] (spCheck K) := by
  refine F.ok scCheck (fun vs H Q E h => ?_) (fun cdv A outer s H vs Q E hr h => ?_)
  · obtain ⟨l, n, aR, aY, bR, bY, R, ys, rfl, _⟩ := h
    rfl
  · obtain ⟨l, n, aR, aY, bR, bY, R, ys, rfl, a, k⟩ := h
    obtain ⟨t1, gS⟩ := G.ms
    obtain ⟨t2, gR⟩ := G.mr
    have h1 := hr.mono (show 1 ≤ 4 by decide)
    have h2 := hr.mono (show 2 ≤ 4 by decide)
    have h3 := hr.mono (show 3 ≤ 4 by decide)
    have most := a.hand.most
    refine ⟨_, pss_cons (ps_if (pt_not (pt_val (pe_got G.alphabet h2 (by rfl) (pa_cons (pv 0) pa_nil)))) pss_never pss_nil)
      (pss_cons (ps_if (pt_not (pt_val (pe_got G.between h2 (by rfl) (pa_cons (pv 1) (pa_cons pe_int (pa_cons (pe_glob (v := .int 2000) (by rfl) gS ⟨t1, rfl⟩) pa_nil)))))) pss_never pss_nil)
      (pss_cons (ps_if (PW.pt (pw_or (pt_not (pt_val (pe_got G.sequence h1 (by rfl) (pa_cons (pv 2) pa_nil)))) (pw_or1 (pt_cmpR op_gt (pe_callB call_len_seq (by rfl) T.len PySem.boot_len (pa_cons (pv 2) pa_nil)) (pe_glob (v := .int 20000) (by rfl) gR ⟨t2, rfl⟩) (nomark _))))) pss_never pss_nil)
      (pss_cons (ps_for PassesOwn.never rfl (pi_range1 (by rfl) T.range (pa_cons (pe_callB call_len_seq (by rfl) T.len PySem.boot_len (pa_cons (pv 2) pa_nil)) pa_nil)) (pg_name (i := 4) scCheck.nd rfl (Or.inl rfl))
        (pss_one (ps_if (pt_not (pt_val (pe_got G.rule hr (by rfl) (pa_cons (pv 0) (pa_cons (pv 1) (pa_cons (pe_ix ix_seq (pv 2) (pv 4) fun _ _ => rfl) pa_nil)))))) pss_never pss_nil)))
      (pss_one (ps_if (PW.pt (pw_or (pt_not (pt_val (pe_got G.sequence h1 (by rfl) (pa_cons (pv 3) pa_nil)))) (pw_or1 (pt_not (pt_val (pe_callB (cr_all rfl) (by rfl) T.all (by decide +kernel) (pa_cons (pe_lc (own := [("state", 5)]) (g := gName 5) (tt := tYes) (by rfl) scCheck.nd (pi_sq bY (pv 3))
        (blkOk_by (own := [("state", 5)]) (N := nCheck) (sc := defScope sCheck) (by decide +kernel))
        (fun _ _ _ _ _ => pg_name (i := 5) scCheck.nd rfl (Or.inl rfl)) (fun _ _ _ _ _ => pts_nil) (fun _ _ _ _ _ => pe_got G.state h3 (by rfl) (pa_cons (pv 1) (pa_cons (pv 5) pa_nil)))) pa_nil))))))) pss_never pss_nil))))), ?_⟩
    refine ⟨_, rfl, l, rfl, a.alpha, fun H1 s1 => ⟨_, rfl, ?_⟩⟩
    refine iteF ?_
    refine ⟨_, rfl, n, 1, 2000, rfl, _, rfl, ?_⟩
    rw [decide_eq_true a.num.1, decide_eq_true a.num.2]
    refine iteF ?_
    refine ⟨_, rfl, aR, bR, _, rfl, a.rs.mono s1, fun H2 s2 => ⟨_, rfl, ?_⟩⟩
    refine iteF ?_
    have s12 := s1.trans s2
    have lR : (refsH R).length = R.length := List.length_map ..
    refine ⟨_, rfl, aR, _, rfl, (a.rs.mono s12).any, _, _, rfl, rfl, _, rfl, ?_⟩
    rw [decide_eq_false (p := ((refsH R).length : Int) > 20000) (by rw [lR]; omega)]
    refine iteF ?_
    refine ⟨_, rfl, aR, _, rfl, (a.rs.mono s12).any, _, rfl, by omega, by omega, for_range (lo := 0) (n := (((refsH R).length : Nat) : Int).toNat) (fun i σ H' => Same H H' ∧ ∃ v : Option V, σ = [some (.str l), some (.int n), some (.ref aR), some (.ref aY), v, none])
      ⟨s12, none, rfl⟩ ?_ ?_⟩
    · rintro i σ H3 hi ⟨s3, v, rfl⟩
      have hi' : i < R.length := by omega
      have hx : (refsH R)[i]? = some (.ref R[i].1) := by unfold refsH; rw [List.getElem?_map, List.getElem?_eq_getElem hi'] <;> rfl
      have m : R[i] ∈ R := List.getElem_mem hi'
      refine ⟨_, rfl, _, rfl, _, rfl, _, rfl, ix_sq (a.rs.mono s3) (by rw [Int.zero_add]; exact atI_nat hx) ?_⟩
      refine ⟨l, n, _, _, R[i].2.2, rfl, (a.hand.at_ _ m).mono s3, a.hand.ok _ m, fun H4 s4 => ⟨_, rfl, ?_⟩⟩
      refine iteF ?_
      exact ⟨s3.trans s4, _, rfl⟩
    · rintro σ H3 ⟨s3, v, rfl⟩
      refine ⟨_, rfl, aY, bY, _, rfl, a.yes.mono s3, fun H4 s4 => ⟨_, rfl, ?_⟩⟩
      refine iteF ?_
      have s34 := s3.trans s4
      refine isq_of ⟨_, rfl, aY, rfl, ⟨_, a.yes.mono s34⟩, fun D hD => lc_it (walk_sq (b := bY) (K := K) (a := aY) (xs := ys.map V.int)) (fun i H' => Same H H' ∧ H' D = some (.lst ((List.replicate i true).map V.bl)))
        ⟨s34.trans (same_new hD), by rw [upd_same]; rfl⟩ (fun i H' _ h => a.yes.mono h.1) ?_ ?_⟩
      · rintro i y H5 H6 hi ⟨s5, hD5⟩ ⟨rfl, ey⟩
        obtain ⟨z, ez, rfl⟩ := mapInt ey
        have iz := a.in_ z (List.mem_of_getElem? ez)
        rw [List.length_map] at hi
        refine ⟨rfl, ?_⟩
        refine ⟨_, rfl, _, rfl, n, z, rfl, _, hD5, ?_, same_mut s5 (s34.free hD), ?_⟩
        · rw [List.length_map, List.length_replicate]
          exact Nat.lt_of_lt_of_le (Nat.lt_of_lt_of_le hi a.few) (by decide)
        · rw [upd_same, List.replicate_succ', List.map_append, decide_eq_true iz.1, decide_eq_true iz.2]
          rfl
      · rintro H5 ⟨s5, hD5⟩
        refine ⟨D, _, rfl, SqL.of hD5, _, rfl, ?_⟩
        rw [show (List.replicate (ys.map V.int).length true).all id = true by simp]
        refine iteF ?_
        exact k H5 s5
end
end Mk
set_option Elab.async false
set_option maxRecDepth 100000
set_option maxHeartbeats 4000000
namespace Mk
open PySem L2 Pk
abbrev sSymbols : Stmt := top 35
abbrev sActs : Stmt := top 36
abbrev sGuess : Stmt := top 37
/-- the rules as they are kept: tuples -/
abbrev Kept := List (Addr × Rl)
def refsK (R : Kept) : List V := R.map fun p => .ref p.1
def KeptAt (H : Hp) (R : Kept) : Prop := ∀ p ∈ R, H p.1 = some (.tup p.2.vs)
theorem KeptAt.mono {H H' : Hp} {R : Kept} (h : KeptAt H R) (e : Same H H') : KeptAt H' R := fun p m => e _ _ (h p m)
/-- k is put to the others, once -/
def addK {κ : Type} [DecidableEq κ] (l : List κ) (k : κ) : List κ := if k ∈ l then l else l ++ [k]
theorem put_keys {κ : Type} [DecidableEq κ] (kvs : List (κ × V)) (k : κ) (v : V) : (putK kvs k v).map (·.1) = addK (kvs.map (·.1)) k := by
  unfold putK addK
  by_cases c : (kvs.any fun kv => decide (kv.1 = k)) = true
  · have m : k ∈ kvs.map (·.1) := by
      obtain ⟨p, hp, e⟩ := List.any_eq_true.mp c
      exact List.mem_map.mpr ⟨p, hp, of_decide_eq_true e⟩
    rw [if_pos c, if_pos m, List.map_map]
    refine List.map_congr_left fun p _ => ?_
    show (if p.1 = k then (p.1, v) else p).1 = p.1
    split <;> rfl
  · have m : k ∉ kvs.map (·.1) := fun h => by
      obtain ⟨p, hp, e⟩ := List.mem_map.mp h
      exact c (List.any_eq_true.mpr ⟨p, hp, decide_eq_true e⟩)
    rw [if_neg c, if_neg m, List.map_append] <;> rfl
theorem once_add {κ : Type} [DecidableEq κ] (l : List κ) (x : κ) : Sx.once (l ++ [x]) = addK (Sx.once l) x := Sx.once_snoc l x
theorem add_map {α β : Type} [DecidableEq α] [DecidableEq β] {f : α → β} (inj : ∀ x y, f x = f y → x = y) (l : List α) (x : α) : addK (l.map f) (f x) = (addK l x).map f := by
  unfold addK
  by_cases c : x ∈ l
  · rw [if_pos c, if_pos (List.mem_map.mpr ⟨x, c, rfl⟩)]
  · have m : f x ∉ l.map f := fun h => by
      obtain ⟨y, m, e⟩ := List.mem_map.mp h
      exact c (inj y x e ▸ m)
    rw [if_neg c, if_neg m, List.map_append] <;> rfl
abbrev kT (x : PySem.Str) : Key := Sum.inr x
theorem kT_inj (x y : PySem.Str) (e : kT x = kT y) : x = y := Sum.inr.inj e
/-- the symbols of rules, rising -/
def symsOf (rs : List Rl) : List PySem.Str := Sx.srt Sx.ltText ((Sx.once (rs.map Rl.tp ++ rs.map Rl.sy)).filter fun x => decide (x ≠ nil0))
section
variable {P : Program} {w : World} {K : PySem.W.Frag} {mg : PySem.Str → Option Value} {base : Heap}
def spSymbols (K : PySem.W.Frag) : Sp := fun vs H Q _ => ∃ (a : Addr) (R : Kept), vs = [.ref a] ∧ SqT K H a (refsK R) ∧ KeptAt H R ∧ R.length ≤ 20000 ∧
  ∀ (H' : Hp) (p : Addr), Same H H' → H p = none → H' p = some (.tup ((symsOf (R.map (·.2))).map V.str)) → Q (.ref p) H'
abbrev nSymbols : List PySem.Str := ["rules", "rule", "found", "symbol"]
theorem scSymbols : FnScope nSymbols ["rules"] (defScope sSymbols) := ⟨rfl, rfl, rfl, by decide +kernel, rfl, by decide +kernel, by decide +kernel⟩
theorem ok_symbols {f : Addr} {fd : FuncData} (F : Fun K "symbols_of" "symbols_of" sSymbols f fd) (T : TM mg) : FnOk P w K mg base CX0 1 f fd ["rules"] (spSymbols K) := by
  refine F.ok scSymbols (fun vs H Q E h => ?_) (fun cdv A outer s H vs Q E hr h => ?_)
  · obtain ⟨a, R, rfl, _⟩ := h
    rfl
  · obtain ⟨a, R, rfl, hS, hK, most, k⟩ := h
    have hu := hu_of hr
    refine ⟨_, pss_cons (Sx.ps_setDc (i := 2) (own := [("rule", 1)]) (g := gName 1) (tt := tYes) (by rfl) scSymbols.nd rfl rfl (Sx.sw_dict rfl rfl rfl (by decide +kernel)) (pi_tup (pv 0))
        (blkOk_by (own := [("rule", 1)]) (N := nSymbols) (sc := defScope sSymbols) (by decide +kernel))
        (fun _ _ _ _ _ => pg_name (i := 1) scSymbols.nd rfl (Or.inl rfl)) (fun _ _ _ _ _ => pts_nil) (fun _ _ _ _ _ => pe_ix (r := rIxT K) ix_tup (pv 1) pe_int fun _ _ => rfl) (fun _ _ _ _ _ => pe_bl))
      (pss_cons (ps_for PassesOwn.never rfl (pi_tup (pv 0)) (pg_name (i := 1) scSymbols.nd rfl (Or.inl rfl))
        (pss_one (ps_dput hu (pv 2) (pe_ix ix_tup (pv 1) pe_int fun _ _ => rfl) pe_bl rfl)))
      (pss_one (ps_ret (pe_callTy call_tuple_of (by rfl) T.tuple PyProof.Rows.Boot.tuple (pa_cons (pe_callB Sx.cr_sortS (by rfl) T.sorted (by decide +kernel) (pa_cons (pe_lock (pe_lc (own := [("symbol", 3)]) (g := gName 3) (by rfl) scSymbols.nd (pi_keys (pv 2))
        (blkOk_by (own := [("symbol", 3)]) (N := nSymbols) (sc := defScope sSymbols) (by decide +kernel))
        (fun _ _ _ _ _ => pg_name (i := 3) scSymbols.nd rfl (Or.inl rfl)) (fun _ _ _ _ _ => pts_one (pt_cmpR op_ne (pv 3) pe_str (nomark _))) (fun _ _ _ _ _ => pv 3))) pa_nil)) pa_nil))))), ?_⟩
    have lR : (refsK R).length = R.length := List.length_map ..
    have at_ : ∀ {i : Nat} {v : V}, (refsK R)[i]? = some v → ∃ p, R[i]? = some p ∧ v = .ref p.1 := fun {i v} e => by
      unfold refsK at e
      rw [List.getElem?_map] at e
      obtain ⟨p, e1, e2⟩ := Option.map_eq_some_iff.mp e
      exact ⟨p, e1, e2.symm⟩
    have few : ∀ {n : Nat}, n ≤ 40000 → n < sizeLine := fun h => Nat.lt_of_le_of_lt h (by decide)
    refine ⟨_, rfl, a, rfl, ⟨_, hS⟩, fun D hD => dc_tup (fun i H' => Same H H' ∧ ∃ kvs : List (Key × V), H' D = some (.dK kvs) ∧ kvs.map (·.1) = (Sx.once ((R.take i).map fun p => p.2.tp)).map kT)
      ⟨same_new hD, [], upd_same, rfl⟩ (fun i H' _ h => Same.tup h.1 hS) ?_ ?_⟩
    · rintro i x H1 hi ⟨s1, kvs, hD1, hk⟩
      obtain ⟨p, ep, rfl⟩ := at_ hi
      have m := List.mem_of_getElem? ep
      refine ⟨rfl, ?_⟩
      refine ⟨_, rfl, p.1, p.2.vs, 2, .str p.2.tp, rfl, rfl, .inl (.inl (s1 _ _ (hK p m))), rfl, kvs, kT p.2.tp, rfl, hD1, ?_, same_mut s1 hD, _, upd_same, ?_⟩
      · refine few ?_
        have z := congrArg List.length hk
        rw [List.length_map, List.length_map] at z
        have y := Sx.once_len ((R.take i).map fun p => p.2.tp)
        rw [List.length_map, List.length_take] at y
        omega
      · rw [put_keys, hk, add_map kT_inj, ← once_add, take_at ep, List.map_append] <;> rfl
    · rintro H1 ⟨s1, kvs, hD1, hk⟩
      rw [lR, List.take_of_length_le (Nat.le_refl _)] at hk
      refine ⟨_, rfl, a, rfl, ⟨_, Same.tup s1 hS⟩, for_tup (K := K) (a := a) (xs := refsK R) (fun i σ H' => Same H H' ∧ ∃ (v : Option V) (kvs : List (Key × V)), σ = [some (.ref a), v, some (.ref D), none] ∧ H' D = some (.dK kvs) ∧ kvs.map (·.1) = (Sx.once (R.map (fun p => p.2.tp) ++ (R.take i).map fun p => p.2.sy)).map kT)
        ⟨s1, none, kvs, rfl, hD1, by rw [hk]; simp⟩ (fun i σ H' _ h => Same.tup h.1 hS) ?_ ?_⟩
      · rintro i x σ H2 hi ⟨s2, v, kv2, rfl, hD2, hk2⟩
        obtain ⟨p, ep, rfl⟩ := at_ hi
        have m := List.mem_of_getElem? ep
        refine ⟨_, rfl, _, rfl, p.1, p.2.vs, 6, .str p.2.sy, rfl, rfl, .inl (.inl (s2 _ _ (hK p m))), rfl, D, _, rfl, DPut.k (k := kT p.2.sy) hD2 ?_, same_mut s2 hD, _, _, rfl, upd_same, ?_⟩
        · refine few ?_
          have z := congrArg List.length hk2
          rw [List.length_map, List.length_map] at z
          have y := Sx.once_len (R.map (fun p => p.2.tp) ++ (R.take i).map fun p => p.2.sy)
          rw [List.length_append, List.length_map, List.length_map, List.length_take] at y
          omega
        · rw [put_keys, hk2, add_map kT_inj, ← once_add, take_at ep, List.map_append, List.append_assoc] <;> rfl
      · rintro σ H2 ⟨s2, v, kv2, rfl, hD2, hk2⟩
        rw [lR, List.take_of_length_le (Nat.le_refl _)] at hk2
        generalize hks : Sx.once (R.map (fun p => p.2.tp) ++ R.map fun p => p.2.sy) = ks at hk2
        have lk : kv2.length = ks.length := by
          have z := congrArg List.length hk2
          rwa [List.length_map, List.length_map] at z
        have lks : ks.length ≤ 40000 := by
          have y := Sx.once_len (R.map (fun p => p.2.tp) ++ R.map fun p => p.2.sy)
          rw [hks, List.length_append, List.length_map, List.length_map] at y
          omega
        have key : ∀ {i : Nat} {c : Key} {u : V}, kv2[i]? = some (c, u) → ∃ x, ks[i]? = some x ∧ c = kT x := fun {i c u} e => by
          have z := congrArg (fun l => l[i]?) hk2
          simp only [List.getElem?_map, e] at z
          rcases q : ks[i]? with _ | x
          · rw [q] at z; cases z
          · rw [q] at z; exact ⟨x, rfl, Option.some.inj z⟩
        refine ⟨D, _, hD2, trivial, fun od => ?_⟩
        refine ⟨_, rfl, D, od, rfl, .inl ⟨kv2, upd_same, fun L hL => ?_⟩⟩
        have LD : L ≠ D := fun e => by rw [e, upd_same] at hL; cases hL
        have hL2 : H2 L = none := by rw [upd_ne LD] at hL; exact hL
        have hL0 : H L = none := s2.free hL2
        refine lc_it walk_keys (fun i H' => H' = upd (upd H2 D (.frz od (.dK kv2))) L (.lst (((ks.take i).filter fun x => decide (x ≠ nil0)).map V.str))) rfl ?_ ?_ ?_
        · rintro i H' _ rfl
          rw [upd_ne LD.symm, upd_same]
        · rintro i y H3 H4 hi rfl ⟨rfl, c, u, e, rfl⟩
          obtain ⟨x, ex, rfl⟩ := key e
          refine ⟨rfl, ?_⟩
          refine ⟨_, rfl, rfl, _, rfl, ?_⟩
          rw [take_at ex, List.filter_append, List.map_append]
          rw [show decide (kV (kT x) = V.str (PySem.Str.ofString "")) = decide (x = nil0) from dec_str x nil0]
          by_cases n : x = nil0
          · rw [decide_eq_true n, List.filter_cons_of_neg (by simp [n])]
            refine iteF ?_
            simp
          · rw [decide_eq_false n, List.filter_cons_of_pos (by simp [n])]
            refine iteT ?_
            refine ⟨_, rfl, _, upd_same, ?_, ?_⟩
            · rw [List.length_map]
              refine few (Nat.le_trans (List.length_filter_le _ _) ?_)
              rw [List.length_take]
              omega
            · rw [upd_upd] <;> rfl
        · rintro H3 rfl
          rw [lk, List.take_of_length_le (Nat.le_refl _)]
          refine ⟨by rw [upd_ne LD.symm, upd_same], ?_⟩
          refine ⟨L, _, rfl, SqL.of (by rw [upd_ne LD, upd_same]), fun p hp => ?_⟩
          refine ⟨p, _, rfl, .inl ⟨SqL.of upd_same, fun q hq => ?_⟩⟩
          have s3 : Same H (upd (upd (upd H2 D (.frz od (.dK kv2))) L (.lst ((ks.filter fun x => decide (x ≠ nil0)).map V.str))) D (.dK kv2)) := same_mut (same_mut (same_mut s2 hD) hL0) hD
          refine k _ q ((s3.trans (same_new hp)).trans (same_new hq)) ((s3.trans (same_new hp)).free hq) ?_
          rw [upd_same]
          unfold symsOf
          rw [List.map_map, List.map_map, ← hks] <;> rfl
end
end Mk
set_option Elab.async false
set_option maxRecDepth 100000
set_option maxHeartbeats 4000000
namespace Mk
open PySem L2 Pk
/-- a key with its acts -/
abbrev Grp := List Key × List (List Key)
def TupAt (H : Hp) (a : Addr) (k : List Key) : Prop := H a = some (.tup (k.map kV))
/-- one entry of the table under work: a list of acts -/
def Ent (H : Hp) (p : List Key × V) (q : Grp) : Prop := p.1 = q.1 ∧ ∃ (la : Addr) (as : List Addr), p.2 = .ref la ∧ H la = some (.lst (as.map V.ref)) ∧ Paired (TupAt H) as q.2
def gAdd {κ α : Type} [DecidableEq κ] (G : List (κ × List α)) (k : κ) (a : α) : List (κ × List α) := if k ∈ G.map (·.1) then G.map (fun g => if g.1 = k then (g.1, g.2 ++ [a]) else g) else G ++ [(k, [a])]
theorem gAdd_keys {κ α : Type} [DecidableEq κ] (G : List (κ × List α)) (k : κ) (a : α) : (gAdd G k a).map (·.1) = addK (G.map (·.1)) k := by
  unfold gAdd addK
  by_cases c : k ∈ G.map (·.1)
  · rw [if_pos c, if_pos c, List.map_map]
    refine List.map_congr_left fun g _ => ?_
    show (if g.1 = k then (g.1, g.2 ++ [a]) else g).1 = g.1
    split <;> rfl
  · rw [if_neg c, if_neg c, List.map_append] <;> rfl
theorem ent_keys {H : Hp} : ∀ {kvs : List (List Key × V)} {G : List Grp}, Paired (Ent H) kvs G → kvs.map (·.1) = G.map (·.1)
  | _, _, .nil => rfl
  | _, _, .cons h t => by rw [List.map_cons, List.map_cons, h.1, ent_keys t]
/-- an entry stays where its list is another one -/
theorem Ent.other {H H' : Hp} {l : Addr} {p : List Key × V} {q : Grp} (e : Ent H p q) (ne : p.2 ≠ .ref l) (keep : ∀ b o, b ≠ l → H b = some o → H' b = some o) (isl : ∀ xs, H l ≠ some (.tup xs)) : Ent H' p q := by
  obtain ⟨e1, la, as, e2, e3, e4⟩ := e
  refine ⟨e1, la, as, e2, keep la _ (fun z => ne (by rw [e2, z])) e3, Paired.mapP e4 fun a k t => ?_⟩
  exact keep a _ (fun z => isl (k.map kV) (by rw [← z]; exact t)) t
theorem ent_all_other {H H' : Hp} {l : Addr} : ∀ {kvs : List (List Key × V)} {G : List Grp}, Paired (Ent H) kvs G → (V.ref l) ∉ kvs.map (·.2) → (∀ b o, b ≠ l → H b = some o → H' b = some o) → (∀ xs, H l ≠ some (.tup xs)) → Paired (Ent H') kvs G
  | _, _, .nil, _, _, _ => .nil
  | p :: _, _, .cons h t, no, keep, isl => .cons (h.other (fun e => no (by rw [List.map_cons, e]; exact List.mem_cons_self)) keep isl) (ent_all_other t (fun m => no (List.mem_cons_of_mem _ m)) keep isl)
/-- one act more in the list that stands -/
theorem ent_more {H H' : Hp} {l q5 : Addr} {k act : List Key} : ∀ {kvs : List (List Key × V)} {G : List Grp}, Paired (Ent H) kvs G → (kvs.map (·.1)).Nodup → (kvs.map (·.2)).Nodup → valV kvs k = some (.ref l) →
    (∀ b o, b ≠ l → H b = some o → H' b = some o) → (∀ xs, H l ≠ some (.tup xs)) → (∀ as : List Addr, H l = some (.lst (as.map V.ref)) → H' l = some (.lst ((as ++ [q5]).map V.ref))) → TupAt H' q5 act →
    Paired (Ent H') kvs (G.map fun g => if g.1 = k then (g.1, g.2 ++ [act]) else g)
  | _, _, .nil, _, _, v, _, _, _, _ => by cases v
  | p :: ps, _, .cons (b := q) (l₂ := qs) h t, n1, n2, v, keep, isl, app, ta => by
    obtain ⟨a1, a2⟩ := List.nodup_cons.mp n1
    obtain ⟨b1, b2⟩ := List.nodup_cons.mp n2
    rw [List.map_cons]
    by_cases c : p.1 = k
    · rw [valV_pos c] at v
      have v2 := Option.some.inj v
      have c2 : q.1 = k := h.1.symm.trans c
      rw [if_pos c2]
      have rest : (qs.map fun g : Grp => if g.1 = k then (g.1, g.2 ++ [act]) else g) = qs := by
        have no : k ∉ qs.map (·.1) := by rw [← ent_keys t, ← c]; exact a1
        conv => rhs; rw [← List.map_id qs]
        refine List.map_congr_left fun g m => ?_
        rw [if_neg fun e => no (List.mem_map.mpr ⟨g, m, e⟩)] <;> rfl
      rw [rest]
      refine .cons ?_ (ent_all_other t (by rw [← v2]; exact b1) keep isl)
      obtain ⟨e1, la, as, e2, e3, e4⟩ := h
      have el : la = l := by
        rw [e2] at v2
        exact V.ref.inj v2
      subst el
      refine ⟨e1, la, as ++ [q5], e2, app as e3, Paired.snoc (Paired.mapP e4 fun a k t => ?_) ta⟩
      exact keep a _ (fun z => isl (k.map kV) (by rw [← z]; exact t)) t
    · rw [valV_neg c] at v
      have c2 : ¬ q.1 = k := fun e => c (h.1.trans e)
      rw [if_neg c2]
      have mem : V.ref l ∈ ps.map (·.2) := by
        unfold valV at v
        obtain ⟨x, hx, ex⟩ := Option.map_eq_some_iff.mp v
        exact List.mem_map.mpr ⟨x, List.mem_of_find?_eq_some hx, ex⟩
      exact .cons (h.other (fun e => b1 (show p.2 ∈ _ by rw [e]; exact mem)) keep isl) (ent_more t a2 b2 v keep isl app ta)
def Rl.k3 (r : Rl) : List Key := [.inl r.st, .inr r.sg, .inr r.tp]
def Rl.a5 (r : Rl) : List Key := [.inl r.af, .inl r.mv, .inr r.de, .inr r.sy, .inr r.sa]
def grps (rs : List Rl) : List Grp := rs.foldl (fun G r => gAdd G r.k3 r.a5) []
theorem grps_snoc (rs : List Rl) (r : Rl) : grps (rs ++ [r]) = gAdd (grps rs) r.k3 r.a5 := by
  unfold grps
  rw [List.foldl_append] <;> rfl
theorem grps_keys (rs : List Rl) : (grps rs).map (·.1) = Sx.once (rs.map Rl.k3) := by
  have gen : ∀ (l pre : List Rl), (grps pre).map (·.1) = Sx.once (pre.map Rl.k3) → (grps (pre ++ l)).map (·.1) = Sx.once ((pre ++ l).map Rl.k3) := by
    intro l
    induction l with
    | nil => intro pre h; simpa using h
    | cons r l ih =>
      intro pre h
      have e : pre ++ r :: l = (pre ++ [r]) ++ l := by simp
      rw [e]
      refine ih (pre ++ [r]) ?_
      rw [grps_snoc, gAdd_keys, h, List.map_append]
      exact (once_add (pre.map Rl.k3) r.k3).symm
  simpa using gen rs [] rfl
/-- the acts' table as it is kept -/
def EntT (H : Hp) (p : List Key × V) (q : Grp) : Prop := p.1 = q.1 ∧ ∃ (t : Addr) (as : List Addr), p.2 = .ref t ∧ H t = some (.tup (as.map V.ref)) ∧ Paired (TupAt H) as q.2
def ActsAt (H : Hp) (p : Addr) (G : List Grp) : Prop := ∃ kvs, H p = some (.dT kvs) ∧ Paired (EntT H) kvs G
theorem EntT.mono {H H' : Hp} {p : List Key × V} {q : Grp} (s : ∀ b xs, H b = some (.tup xs) → H' b = some (.tup xs)) (e : EntT H p q) : EntT H' p q := by
  obtain ⟨e1, t, as, e2, e3, e4⟩ := e
  exact ⟨e1, t, as, e2, s _ _ e3, Paired.mapP e4 fun a k t => s _ _ t⟩
theorem entT_keys {H : Hp} : ∀ {kvs : List (List Key × V)} {G : List Grp}, Paired (EntT H) kvs G → kvs.map (·.1) = G.map (·.1)
  | _, _, .nil => rfl
  | _, _, .cons h t => by rw [List.map_cons, List.map_cons, h.1, entT_keys t]
theorem ActsAt.mono {H H' : Hp} {p : Addr} {G : List Grp} (h : ActsAt H p G) (e : Same H H') : ActsAt H' p G := by
  obtain ⟨kvs, h1, h2⟩ := h
  exact ⟨kvs, e _ _ h1, Paired.mapP h2 fun a b z => z.mono fun c xs y => e _ _ y⟩
end Mk
set_option Elab.async false
set_option maxRecDepth 100000
set_option maxHeartbeats 4000000
namespace Mk
open PySem L2 Pk
theorem Ent.keepL {H H' : Hp} {p : List Key × V} {q : Grp} (e : Ent H p q) (k1 : ∀ b xs, H b = some (.lst xs) → H' b = some (.lst xs)) (k2 : ∀ b xs, H b = some (.tup xs) → H' b = some (.tup xs)) : Ent H' p q := by
  obtain ⟨e1, la, as, e2, e3, e4⟩ := e
  exact ⟨e1, la, as, e2, k1 _ _ e3, Paired.mapP e4 fun a k t => k2 _ _ t⟩
theorem ent_get {H : Hp} {k : List Key} {v : V} : ∀ {kvs : List (List Key × V)} {G : List Grp}, Paired (Ent H) kvs G → valV kvs k = some v → ∃ (la : Addr) (as : List Addr) (g : Grp), v = .ref la ∧ H la = some (.lst (as.map V.ref)) ∧ (k, v) ∈ kvs ∧ g ∈ G ∧ as.length = g.2.length
  | _, _, .nil, e => by cases e
  | p :: ps, _, .cons h t, e => by
    by_cases c : p.1 = k
    · rw [valV_pos c] at e
      obtain ⟨_, la, as, e2, e3, e4⟩ := h
      have e' := Option.some.inj e
      exact ⟨la, as, _, by rw [← e', e2], e3, by rw [← e', ← c]; exact List.mem_cons_self, List.mem_cons_self, Paired.length e4⟩
    · rw [valV_neg c] at e
      obtain ⟨la, as, g, e2, e3, e4, e5, e6⟩ := ent_get t e
      exact ⟨la, as, g, e2, e3, List.mem_cons_of_mem _ e4, List.mem_cons_of_mem _ e5, e6⟩
theorem gAdd_len {G : List Grp} {k a : List Key} {n : Nat} (h : ∀ g ∈ G, g.2.length ≤ n) : ∀ g ∈ gAdd G k a, g.2.length ≤ n + 1 := by
  intro g m
  unfold gAdd at m
  split at m
  · obtain ⟨g0, m0, rfl⟩ := List.mem_map.mp m
    have z := h g0 m0
    split
    · rw [List.length_append]
      exact Nat.add_le_add_right z 1
    · omega
  · rcases List.mem_append.mp m with m | m
    · have z := h g m
      omega
    · rw [List.mem_singleton.mp m]
      exact Nat.le_add_left 1 n
theorem grps_len (rs : List Rl) : ∀ g ∈ grps rs, g.2.length ≤ rs.length := by
  have gen : ∀ (l pre : List Rl), (∀ g ∈ grps pre, g.2.length ≤ pre.length) → ∀ g ∈ grps (pre ++ l), g.2.length ≤ (pre ++ l).length := by
    intro l
    induction l with
    | nil => intro pre h; simpa using h
    | cons r l ih =>
      intro pre h
      have e : pre ++ r :: l = (pre ++ [r]) ++ l := by simp
      rw [e]
      refine ih (pre ++ [r]) ?_
      rw [grps_snoc, List.length_append]
      exact gAdd_len h
  exact gen rs [] fun g m => absurd m List.not_mem_nil
theorem put_none {κ : Type} [DecidableEq κ] {kvs : List (κ × V)} {k : κ} {v : V} (h : valV kvs k = none) : putK kvs k v = kvs ++ [(k, v)] := by
  unfold putK
  rw [if_neg]
  intro c
  rw [valV_any, h] at c
  cases c
def rTupOf (K : PySem.W.Frag) : List V → Hp → VK → Prop := fun xs H Q => ∃ p ys, xs = [V.ref p] ∧ ((SqL K H p ys ∧ ∀ l : Addr, H l = none → Q (V.ref l) (upd H l (HO.tup ys))) ∨ SqT K H p ys ∧ Q (V.ref p) H)
section
variable {P : Program} {w : World} {K : PySem.W.Frag} {mg : PySem.Str → Option Value} {base : Heap}
def spActs (K : PySem.W.Frag) : Sp := fun vs H Q _ => ∃ (a : Addr) (R : Kept), vs = [.ref a] ∧ SqT K H a (refsK R) ∧ KeptAt H R ∧ R.length ≤ 20000 ∧
  ∀ (H' : Hp) (p : Addr), Same H H' → H p = none → ActsAt H' p (grps (R.map (·.2))) → Q (.ref p) H'
abbrev nActs : List PySem.Str := ["rules", "found", "rule", "key"]
theorem scActs : FnScope nActs ["rules"] (defScope sActs) := ⟨rfl, rfl, rfl, by decide +kernel, rfl, by decide +kernel, by decide +kernel⟩
theorem at_refs {R : Kept} {i : Nat} {v : V} (e : (refsK R)[i]? = some v) : ∃ p, R[i]? = some p ∧ v = .ref p.1 := by
  unfold refsK at e
  rw [List.getElem?_map] at e
  obtain ⟨p, e1, e2⟩ := Option.map_eq_some_iff.mp e
  exact ⟨p, e1, e2.symm⟩
theorem ok_acts {f : Addr} {fd : FuncData} (F : Fun K "acts_by_key" "acts_by_key" sActs f fd) (T : TM mg) : FnOk P w K mg base CX0 1 f fd ["rules"] (spActs K) := by
  refine F.ok scActs (fun vs H Q E h => ?_) (fun cdv A outer s H vs Q E hr h => ?_)
  · obtain ⟨a, R, rfl, _⟩ := h
    rfl
  · obtain ⟨a, R, rfl, hS, hK, most, k⟩ := h
    have hu := hu_of hr
    have hu64 := hr.units
    refine ⟨_, pss_cons (ps_set (i := 1) scActs.nd rfl (Or.inr rfl) pe_dnewT)
      (pss_cons (ps_for PassesOwn.never rfl (pi_tup (pv 0)) (pg_name (i := 2) scActs.nd rfl (Or.inl rfl))
        (pss_one (ps_expr (pe_bm PySem.F.plainAttrs_list PySem.F.slot_list_append PySem.F.type_list_append mt_append (Sx.pe_setdT hu (pv 1) (pe_slice sl_tup (pv 2) po_none (po_some pe_int)) (pe_lst pa_nil) ⟨rfl, rfl, rfl, rfl⟩)
          (pa_cons (pe_slice sl_tup (pv 2) (po_some pe_int) po_none) pa_nil)))))
      (pss_one (ps_ret (pe_lock (Sx.pe_dt (own := [("key", 3)]) (g := gName 3) (tt := tYes) hu64 (by rfl) scActs.nd (pi_keys (pv 1))
        (blkOk_by (own := [("key", 3)]) (N := nActs) (sc := defScope sActs) (by decide +kernel))
        (fun _ _ _ _ _ => pg_name (i := 3) scActs.nd rfl (Or.inl rfl)) (fun _ _ _ _ _ => pts_nil) (fun _ _ _ _ _ => pv 3)
        (fun _ _ _ _ _ => pe_callTy (r := rTupOf K) call_tuple_of (by rfl) T.tuple PyProof.Rows.Boot.tuple (pa_cons (pe_dget hu (pv 1) (pv 3) fun _ _ => rfl) pa_nil))))))), ?_⟩
    intro D hD
    refine ⟨_, rfl, a, rfl, ⟨_, Same.tup (same_new hD) hS⟩, for_tup (K := K) (a := a) (xs := refsK R) (fun i σ H' => Same H H' ∧ ∃ (v : Option V) (kvs : List (List Key × V)), σ = [some (.ref a), some (.ref D), v, none] ∧ H' D = some (.dT kvs) ∧
        Paired (Ent H') kvs (grps ((R.take i).map (·.2))) ∧ (kvs.map (·.2)).Nodup ∧ ∀ p ∈ kvs, ∃ la, p.2 = .ref la ∧ H la = none)
      ⟨same_new hD, none, [], rfl, upd_same, .nil, List.nodup_nil, fun p m => absurd m List.not_mem_nil⟩ (fun i σ H' _ h => Same.tup h.1 hS) ?_ ?_⟩
    · rintro i x σ H2 hi ⟨s2, v, kvs, rfl, hD2, hE, nd2, news⟩
      obtain ⟨p, ep, rfl⟩ := at_refs hi
      have m := List.mem_of_getElem? ep
      refine ⟨_, rfl, D, rfl, .inr ⟨kvs, .inl hD2⟩, _, rfl, 3, rfl, p.1, p.2.vs, rfl, .inl (.inl (s2 _ _ (hK p m))), (show ¬ (HT.sIx 8 0 none = 0 ∧ HT.sIx 8 8 (some 3) = 8) by decide), fun q3 h3 => ?_⟩
      have cut3 : cutV p.2.vs none (some 3) = p.2.k3.map kV := rfl
      have cut5 : cutV p.2.vs (some 3) none = p.2.a5.map kV := rfl
      have c5 : ¬ (HT.sIx 8 0 (some 3) = 0 ∧ HT.sIx 8 8 none = 8) := by decide
      rw [cut3] at *
      have sA : Same H2 (upd H2 q3 (.tup (p.2.k3.map kV))) := same_new h3
      refine ⟨Nat.zero_le _, fun l0 h0 => ?_⟩
      have sB : Same H2 (upd (upd H2 q3 (.tup (p.2.k3.map kV))) l0 (.lst [])) := sA.trans (same_new h0)
      have n0 : H2 l0 = none := sA.free h0
      have lG : kvs.length ≤ 20000 := by
        have z := congrArg List.length (ent_keys hE)
        rw [grps_keys, List.length_map] at z
        have y := Sx.once_len (((R.take i).map (·.2)).map Rl.k3)
        rw [List.length_map, List.length_map, List.length_take] at y
        omega
      have few : ∀ {n : Nat}, n ≤ 40000 → n < sizeLine := fun h => Nat.lt_of_le_of_lt h (by decide)
      have next : grps ((R.take (i + 1)).map (·.2)) = gAdd (grps ((R.take i).map (·.2))) p.2.k3 p.2.a5 := by
        rw [take_at ep, List.map_append]
        exact grps_snoc _ _
      refine ⟨kvs, p.2.k3, q3, sB _ _ hD2, rfl, same_new h0 _ _ upd_same, few (by omega), fun v1 hv => ?_, fun hn => ?_⟩
      · obtain ⟨la, as, g, rfl, hla, mem, gm, gl⟩ := ent_get hE hv
        obtain ⟨la', e', nla⟩ := news _ mem
        cases e'
        have inG : p.2.k3 ∈ (grps ((R.take i).map (·.2))).map (·.1) := by
          rw [← ent_keys hE]
          exact valV_in hv
        refine ⟨.inl ⟨rfl, _, .inl (.inl (sB _ _ hla))⟩, _, rfl, 3, rfl, p.1, p.2.vs, rfl, .inl (.inl (sB _ _ (s2 _ _ (hK p m)))), c5, fun q5 h5 => ?_⟩
        have sC := sB.trans (same_new (o := .tup (cutV p.2.vs (some 3) none)) h5)
        have h5l : q5 ≠ la := fun e => by
          rw [e] at h5
          rw [sB _ _ hla] at h5
          cases h5
        have lA : as.length < sizeLine := by
          have z := grps_len _ g gm
          rw [List.length_map, List.length_take] at z
          exact few (by omega)
        refine ⟨la, _, _, rfl, rfl, sC _ _ hla, by rw [List.length_map]; exact lA, ?_⟩
        refine ⟨same_mut (s2.trans sC) nla, some (.ref p.1), kvs, rfl, ?_, ?_, nd2, news⟩
        · rw [upd_ne (ne_of hD2 hla (fun z => nomatch z))]
          exact sC _ _ hD2
        · rw [next]
          unfold gAdd
          rw [if_pos inG]
          refine ent_more (l := la) (q5 := q5) hE (by rw [ent_keys hE, grps_keys]; exact Sx.once_nodup _) nd2 hv (fun b o nb e => by rw [upd_ne nb]; exact sC _ _ e) (fun xs z => by rw [hla] at z; cases z) (fun bs z => ?_) ?_
          · rw [hla] at z
            injection z with z
            injection z with z
            rw [upd_same, z, List.map_append] <;> rfl
          · show (upd _ _ _) q5 = _
            rw [upd_ne h5l, upd_same, cut5]
      · have notG : p.2.k3 ∉ (grps ((R.take i).map (·.2))).map (·.1) := by
          rw [← ent_keys hE]
          exact valV_not hn
        have qD : q3 ≠ D := fun e => by rw [e, hD2] at h3; cases h3
        have lD : l0 ≠ D := fun e => by rw [e, hD2] at n0; cases n0
        have lq : l0 ≠ q3 := fun e => by rw [e, upd_same] at h0; cases h0
        generalize hX : upd (upd (upd H2 q3 (.tup (p.2.k3.map kV))) l0 (.lst [])) D (.dT (putK kvs p.2.k3 (.ref l0))) = X2
        have xl0 : X2 l0 = some (.lst []) := by rw [← hX, upd_ne lD, upd_same]
        have xo : ∀ b o, b ≠ D → H2 b = some o → X2 b = some o := fun b o ne e => by
          rw [← hX, upd_ne ne]
          exact sB _ _ e
        have pD : p.1 ≠ D := fun e => by
          have z := s2 _ _ (hK p m)
          rw [e, hD2] at z
          cases z
        refine ⟨.inl ⟨rfl, _, .inl (.inl xl0)⟩, _, rfl, 3, rfl, p.1, p.2.vs, rfl, .inl (.inl (xo _ _ pD (s2 _ _ (hK p m)))), c5, fun q5 h5 => ?_⟩
        have q5l : q5 ≠ l0 := fun e => by rw [e, xl0] at h5; cases h5
        have q5D : q5 ≠ D := fun e => by
          rw [e, ← hX, upd_same] at h5
          cases h5
        have lq5 : l0 ≠ q5 := q5l.symm
        refine ⟨l0, _, _, rfl, rfl, by rw [upd_ne lq5]; exact xl0, few (by show 0 ≤ 40000; omega), ?_⟩
        have nl0 : H l0 = none := s2.free n0
        have sX : Same H X2 := by
          rw [← hX]
          exact same_mut (s2.trans sB) hD
        have fin : ∀ b o, b ≠ D → H2 b = some o → (upd (upd X2 q5 (.tup (cutV p.2.vs (some 3) none))) l0 (.lst ([] ++ [V.ref q5]))) b = some o := fun b o ne e => by
          rw [upd_ne (ne_of_none e n0), upd_ne (fun z => by rw [← z] at h5; rw [xo b o ne e] at h5; cases h5)]
          exact xo b o ne e
        refine ⟨same_mut (same_mut sX (sX.free h5)) nl0, some (.ref p.1), kvs ++ [(p.2.k3, .ref l0)], rfl, ?_, ?_, ?_, ?_⟩
        · rw [upd_ne lD.symm, upd_ne q5D.symm, ← hX, upd_same, put_none hn]
        · rw [next]
          unfold gAdd
          rw [if_neg notG]
          refine Paired.snoc (Paired.mapP hE fun x y z => z.keepL (fun b xs e => fin b _ (fun ed => by rw [ed, hD2] at e; cases e) e) fun b xs e => fin b _ (fun ed => by rw [ed, hD2] at e; cases e) e) ?_
          refine ⟨rfl, l0, [q5], rfl, upd_same, .cons ?_ .nil⟩
          show (upd _ _ _) q5 = _
          rw [upd_ne q5l, upd_same, cut5]
        · rw [List.map_append]
          refine (List.perm_append_singleton _ _).nodup_iff.mpr (List.nodup_cons.mpr ⟨fun mm => ?_, nd2⟩)
          obtain ⟨x, hx, ex⟩ := List.mem_map.mp mm
          obtain ⟨g, _, _, la, as, e1, e2, _⟩ := Sx.paired_left hE x hx
          have ex' : x.2 = V.ref l0 := ex
          rw [ex'] at e1
          injection e1 with e1
          rw [← e1, n0] at e2
          cases e2
        · intro x hx
          rcases List.mem_append.mp hx with hx | hx
          · exact news x hx
          · rw [List.mem_singleton.mp hx]
            exact ⟨l0, rfl, nl0⟩
    · rintro σ H2 ⟨s2, v, kvs, rfl, hD2, hE, nd2, news⟩
      have lR : (refsK R).length = R.length := List.length_map ..
      rw [lR, List.take_of_length_le (Nat.le_refl _)] at hE
      generalize hG : grps (R.map (·.2)) = G at hE
      have keysG : kvs.map (·.1) = G.map (·.1) := ent_keys hE
      have ndG : (G.map (·.1)).Nodup := by rw [← hG, grps_keys]; exact Sx.once_nodup _
      have lk : kvs.length = G.length := Paired.length hE
      have lG : G.length ≤ 20000 := by
        have y := Sx.once_len ((R.map (·.2)).map Rl.k3)
        rw [← grps_keys, hG, List.length_map, List.length_map, List.length_map] at y
        omega
      refine ⟨D, _, hD2, trivial, fun od => ?_⟩
      refine ⟨_, rfl, D, od, rfl, .inr ⟨kvs, upd_same, fun N hN => ?_⟩⟩
      have ND : N ≠ D := fun e => by rw [e, upd_same] at hN; cases hN
      have hN2 : H2 N = none := by rw [upd_ne ND] at hN; exact hN
      refine Sx.dt_it walk_keysT (fun i H' => H' D = some (.frz od (.dT kvs)) ∧ (∀ b o, b ≠ D → H2 b = some o → H' b = some o) ∧ ∃ kv', H' N = some (.dT kv') ∧ Paired (EntT H') kv' (G.take i))
        ⟨by rw [upd_ne ND.symm, upd_same], fun b o ne e => by rw [upd_ne (ne_of_none e hN2), upd_ne ne]; exact e, [], upd_same, .nil⟩ (fun i H' _ h => h.1) ?_ ?_
      · rintro i y H3 H4 hi ⟨hf, old, kv', hN3, hP⟩ ⟨rfl, c, u, q, ec, rfl, hq⟩
        obtain ⟨g, eg, hent⟩ := Sx.paired_at hE ec
        obtain ⟨e1, la, as, e2, e3, e4⟩ := hent
        have e1' : c = g.1 := e1
        have e2' : u = .ref la := e2
        subst e2'
        have mem := List.mem_of_getElem? ec
        have laD : la ≠ D := fun e => by rw [e, hD2] at e3; cases e3
        have vq : valV kvs c = some (.ref la) := Sx.val_mem (by rw [keysG]; exact ndG) mem
        refine ⟨rfl, ?_⟩
        refine ⟨_, rfl, _, rfl, _, rfl, D, _, rfl, .inr ⟨kvs, c, q, .inr ⟨od, hf⟩, rfl, hq, vq.symm⟩, la, _, rfl, .inl ⟨.inl (.inl (old _ _ laD e3)), fun t ht => ?_⟩⟩
        have tN : N ≠ t := fun e => by rw [← e, hN3] at ht; cases ht
        have qt : q ≠ t := fun e => by rw [← e, hq] at ht; cases ht
        have keys' : kv'.map (·.1) = (G.take i).map (·.1) := entT_keys hP
        have new : c ∉ kv'.map (·.1) := by
          rw [keys', e1', List.map_take]
          intro mm
          obtain ⟨j, hj, ej⟩ := List.getElem_of_mem mm
          rw [List.length_take] at hj
          rw [List.getElem_take] at ej
          have hi' : i < (G.map (·.1)).length := by rw [List.length_map]; exact (List.getElem?_eq_some_iff.mp eg).1
          have z : (G.map (·.1))[i] = g.1 := by
            rw [List.getElem_map]
            exact congrArg Prod.fst (List.getElem?_eq_some_iff.mp eg).2
          exact List.pairwise_iff_getElem.mp ndG j i (by omega) hi' (by omega) (by rw [ej, z])
        have pn : valV kv' c = none := by
          rcases z : valV kv' c with _ | z1
          · rfl
          · exact absurd (valV_in z) new
        have tups : ∀ b xs, H4 b = some (.tup xs) → (upd (upd H4 t (.tup (as.map V.ref))) N (.dT (putK kv' c (.ref t)))) b = some (.tup xs) := fun b xs e => by
          rw [upd_ne (ne_of e hN3 (fun z => nomatch z)), upd_ne (ne_of_none e ht)]
          exact e
        refine ⟨kv', c, q, rfl, by rw [upd_ne qt]; exact hq, by rw [upd_ne tN]; exact hN3, ?_, ?_, ?_, _, upd_same, ?_⟩
        · have z := Paired.length hP
          rw [List.length_take] at z
          exact Nat.lt_of_le_of_lt (show kv'.length ≤ 20000 by omega) (by decide)
        · have tD : D ≠ t := fun e => by rw [← e, hf] at ht; cases ht
          rw [upd_ne ND.symm, upd_ne tD]
          exact hf
        · intro b o ne e
          have z := old b o ne e
          rw [upd_ne (ne_of_none e hN2), upd_ne (ne_of_none z ht)]
          exact z
        · rw [put_none pn] at tups ⊢
          rw [take_at eg]
          refine Paired.snoc (Paired.mapP hP fun x y z => z.mono tups) ⟨e1', t, as, rfl, by rw [upd_ne tN.symm, upd_same], Paired.mapP e4 fun a k z => tups _ _ (old _ _ (fun ed => ?_) z)⟩
          have z' : H2 a = some (.tup (k.map kV)) := z
          rw [ed, hD2] at z'
          cases z'
      · rintro H3 ⟨hf, old, kv', hN3, hP⟩
        rw [lk, List.take_of_length_le (Nat.le_refl _)] at hP
        refine ⟨hf, k _ N (fun b o e => ?_) (s2.free hN2) ⟨kv', by rw [upd_ne ND]; exact hN3, ?_⟩⟩
        · have bD : b ≠ D := ne_of_none e hD
          rw [upd_ne bD]
          exact old b o bD (s2 b o e)
        · rw [hG]
          exact Paired.mapP hP fun x y z => z.mono fun b xs e => by
            rw [upd_ne (ne_of e hf (fun z => nomatch z))]
            exact e
end
end Mk
set_option Elab.async false
set_option maxRecDepth 100000
set_option maxHeartbeats 4000000
namespace Mk
open PySem L2 Pk
theorem upd_id {H : Hp} {a : Addr} {o : HO} (h : H a = some o) : upd H a o = H := by
  funext b
  by_cases e : b = a
  · rw [e, upd_same, h]
  · rw [upd_ne e]
def guessOf (G : List Grp) : Option (List Key) := (G.find? fun g => decide (1 < g.2.length)).map (·.1)
def GuessV (H : Hp) (v : V) : Option (List Key) → Prop
  | none => v = .non
  | some k => ∃ q, v = .ref q ∧ TupAt H q k
theorem find_at {α : Type} {p : α → Bool} : ∀ {l : List α} {i : Nat} {x : α}, l[i]? = some x → p x = true → (∀ y ∈ l.take i, p y = false) → l.find? p = some x
  | [], i, x, e, _, _ => by simp at e
  | y :: l, 0, x, e, h, _ => by
    simp at e
    subst e
    rw [List.find?_cons_of_pos h]
  | y :: l, i + 1, x, e, h, b => by
    have n : p y = false := b y (by rw [List.take_succ_cons]; exact List.mem_cons_self)
    rw [List.find?_cons_of_neg (by rw [n]; decide)]
    exact find_at (by simpa using e) h fun z m => b z (by rw [List.take_succ_cons]; exact List.mem_cons_of_mem _ m)
section
variable {P : Program} {w : World} {K : PySem.W.Frag} {mg : PySem.Str → Option Value} {base : Heap}
def spGuess : Sp := fun vs H Q _ => ∃ (d : Addr) (G : List Grp), vs = [.ref d] ∧ ActsAt H d G ∧ (G.map (·.1)).Nodup ∧ (∀ g ∈ G, g.2.length ≤ 20000) ∧ ∀ v, GuessV H v (guessOf G) → Q v H
theorem scGuess : FnScope ["acts", "key"] ["acts"] (defScope sGuess) := ⟨rfl, rfl, rfl, by decide +kernel, rfl, by decide +kernel, by decide +kernel⟩
theorem ok_guess {f : Addr} {fd : FuncData} (F : Fun K "first_guess" "first_guess" sGuess f fd) (T : TM mg) : FnOk P w K mg base CX0 1 f fd ["acts"] spGuess := by
  refine F.ok scGuess (fun vs H Q E h => ?_) (fun cdv A outer s H vs Q E hr h => ?_)
  · obtain ⟨a, G, rfl, _⟩ := h
    rfl
  · obtain ⟨d, G, rfl, ⟨kvs, hd, hP⟩, nd, few, k⟩ := h
    have hu := hu_of hr
    refine ⟨_, pss_cons (ps_lock (ps_for PassesOwn.never rfl (pi_keys (pv 0)) (pg_name (i := 1) scGuess.nd rfl (Or.inl rfl))
        (pss_one (ps_if (pt_cmpR op_gt (pe_callB call_len_seq (by rfl) T.len PySem.boot_len (pa_cons (pe_dget hu (pv 0) (pv 1) fun _ _ => rfl) pa_nil)) pe_int (nomark _)) (pss_one (ps_ret (pv 1))) pss_nil))))
      (pss_one (ps_ret pe_non)), ?_⟩
    have back : ∀ od, upd (upd H d (.frz od (.dT kvs))) d (.dT kvs) = H := fun od => by rw [upd_upd, upd_id hd]
    have keysG : kvs.map (·.1) = G.map (·.1) := entT_keys hP
    refine ⟨d, _, hd, trivial, fun od => ?_⟩
    refine ⟨_, rfl, d, od, rfl, .inr ⟨kvs, upd_same, for_it walk_keysT (fun i σ H' => H' = upd H d (.frz od (.dT kvs)) ∧ (∃ v : Option V, σ = [some (.ref d), v]) ∧ ∀ g ∈ G.take i, decide (1 < g.2.length) = false)
      ⟨rfl, ⟨none, rfl⟩, fun g m => absurd m (by simp)⟩ (fun i σ H' _ h => by rw [h.1, upd_same]) ?_ ?_⟩⟩
    · rintro i y σ H3 H4 hi ⟨rfl, ⟨v, rfl⟩, before⟩ ⟨rfl, c, u, q, ec, rfl, hq⟩
      obtain ⟨g, eg, e1, t, as, e2, e3, e4⟩ := Sx.paired_at hP ec
      have e1' : c = g.1 := e1
      have e2' : u = .ref t := e2
      subst e2'
      have mem := List.mem_of_getElem? ec
      have gm := List.mem_of_getElem? eg
      have vq : valV kvs c = some (.ref t) := Sx.val_mem (by rw [keysG]; exact nd) mem
      have td : t ≠ d := fun e => by rw [e, hd] at e3; cases e3
      have la : as.length = g.2.length := Paired.length e4
      refine ⟨_, rfl, _, rfl, d, _, rfl, .inr ⟨kvs, c, q, .inr ⟨od, upd_same⟩, rfl, hq, vq.symm⟩, t, _, rfl, .inr (.inl (.inl (by rw [upd_ne td]; exact e3))), _, _, rfl, rfl, _, rfl, ?_⟩
      rw [List.length_map, la]
      refine ite2 (fun big => ?_) (fun small => ?_)
      · have big' : 1 < g.2.length := by
          have z := of_decide_eq_true big
          omega
        refine ⟨_, rfl, upd_same, ?_⟩
        rw [back]
        refine k _ ?_
        have ff : G.find? (fun g => decide (1 < g.2.length)) = some g := find_at eg (decide_eq_true big') before
        unfold guessOf
        rw [ff]
        have qd : q ≠ d := fun e => by
          rw [e, upd_same] at hq
          cases hq
        rw [upd_ne qd] at hq
        exact ⟨q, rfl, by show TupAt H q g.1; rw [← e1']; exact hq⟩
      · have small' : ¬ 1 < g.2.length := fun z => small (decide_eq_true (by omega))
        refine ⟨rfl, ⟨_, rfl⟩, fun x m => ?_⟩
        rw [take_at eg] at m
        rcases List.mem_append.mp m with m | m
        · exact before x m
        · rw [List.mem_singleton.mp m]
          exact decide_eq_false small'
    · rintro σ H3 ⟨rfl, ⟨v, rfl⟩, before⟩
      refine ⟨upd_same, ?_⟩
      show Q .non _
      rw [back]
      refine k _ ?_
      have lk : kvs.length = G.length := Paired.length hP
      rw [lk, List.take_of_length_le (Nat.le_refl _)] at before
      unfold guessOf
      rw [List.find?_eq_none.mpr fun g m z => by rw [before g m] at z; cases z]
      rfl
end
end Mk
set_option Elab.async false
set_option maxRecDepth 100000
set_option maxHeartbeats 4000000
namespace Mk
open PySem L2 Pk
def Rl.key (r : Rl) : List Key := [.inl r.st, .inr r.sg, .inr r.tp, .inl r.af, .inl r.mv, .inr r.de, .inr r.sy, .inr r.sa]
theorem key_vs (r : Rl) : r.key.map kV = r.vs := rfl
def unkey : List Key → Rl
  | [.inl st, .inr sg, .inr tp, .inl af, .inl mv, .inr de, .inr sy, .inr sa] => ⟨st, sg, tp, af, mv, de, sy, sa⟩
  | _ => ⟨0, nil0, nil0, 0, 0, nil0, nil0, nil0⟩
theorem unkey_key (r : Rl) : unkey r.key = r := rfl
theorem key_inj {r q : Rl} (h : r.key = q.key) : r = q := by rw [← unkey_key r, h, unkey_key]
abbrev sh8 : List Bool := [false, false, true, true, false, false, false]
theorem shp_key (r : Rl) : Sx.shp r.key = true :: sh8 := rfl
def ltI (a b : Int) : Bool := decide (a < b)
theorem lin_int : Sx.Lin ltI where
  irr := fun x => decide_eq_false (Int.lt_irrefl x)
  tr := fun x y z h1 h2 => decide_eq_true (Int.lt_trans (of_decide_eq_true h1) (of_decide_eq_true h2))
  tot := fun x y ne => by
    rcases Int.lt_trichotomy x y with c | c | c
    · exact .inl (decide_eq_true c)
    · exact absurd c ne
    · exact .inr (decide_eq_true c)
/-- the rules, rising, each once -/
def rulesOf (rs : List Rl) : List Rl := (Sx.asc Sx.ltT (rs.map Rl.key)).map unkey
theorem rulesOf_keys (rs : List Rl) : (rulesOf rs).map Rl.key = Sx.asc Sx.ltT (rs.map Rl.key) := by
  unfold rulesOf
  rw [List.map_map]
  have e : ∀ k ∈ Sx.asc Sx.ltT (rs.map Rl.key), (Rl.key ∘ unkey) k = k := fun k m => by
    obtain ⟨r, _, rfl⟩ := List.mem_map.mp ((Sx.asc_mem Sx.ltT (rs.map Rl.key) k).mp m)
    rfl
  conv => rhs; rw [← List.map_id (Sx.asc Sx.ltT (rs.map Rl.key))]
  exact List.map_congr_left e
def intsOf (ys : List Int) : List Int := Sx.asc ltI ys
theorem ints_are {ns ys : List Int} (h : ns.Pairwise (· < ·)) (e : ∀ k, k ∈ ns ↔ k ∈ ys) : ns = intsOf ys :=
  lin_int.is_asc (h.imp fun lt => Int.ne_of_lt lt) (h.imp fun {x y} lt => decide_eq_false (by omega)) e
/-- a machine as it is kept -/
structure MachAt (K : PySem.W.Frag) (H : Hp) (C x : Addr) (l : PySem.Str) (n : Int) (rs : List Rl) (ys : List Int) : Prop where
  ex : ∃ (dx aR aY aS aA : Addr) (g : V) (R : Kept), H x = some (.ins C dx [("letters", .str l), ("states", .int n), ("rules", .ref aR), ("yes", .ref aY), ("symbols", .ref aS), ("_acts", .ref aA), ("guess", g)]) ∧
    H aR = some (.tup (refsK R)) ∧ KeptAt H R ∧ R.map (·.2) = rulesOf rs ∧ H aY = some (.tup ((intsOf ys).map V.int)) ∧ H aS = some (.tup ((symsOf (rulesOf rs)).map V.str)) ∧ ActsAt H aA (grps (rulesOf rs)) ∧ GuessV H g (guessOf (grps (rulesOf rs)))
theorem ltI_up {l : List Int} : True := trivial
abbrev sInit : Stmt := inClass (top 38) 0
abbrev nInit : List PySem.Str := ["self", "letters", "states", "rules", "yes", "rule"]
theorem scInit : FnScope nInit ["self", "letters", "states", "rules", "yes"] (defScope sInit) := ⟨rfl, rfl, rfl, by decide +kernel, rfl, by decide +kernel, by decide +kernel⟩
end Mk
set_option Elab.async false
set_option maxRecDepth 100000
set_option maxHeartbeats 4000000
namespace Mk
open PySem L2 Pk
/-- all but what stands at x is as it was -/
def Off (x : Addr) (H H' : Hp) : Prop := ∀ b o, b ≠ x → H b = some o → H' b = some o
theorem Off.refl (x : Addr) (H : Hp) : Off x H H := fun _ _ _ e => e
theorem Off.trans {x : Addr} {H H' H'' : Hp} (a : Off x H H') (b : Off x H' H'') : Off x H H'' := fun c o n e => b c o n (a c o n e)
theorem Off.same {x : Addr} {H H' : Hp} (s : Same H H') : Off x H H' := fun b o _ e => s b o e
theorem Off.put {x : Addr} {H : Hp} {o : HO} : Off x H (upd H x o) := fun b _ n e => by rw [upd_ne n]; exact e
theorem Off.new {x p : Addr} {H : Hp} {o : HO} (h : H p = none) : Off x H (upd H p o) := Off.same (same_new h)
def isIns : HO → Bool
  | .ins _ _ _ => true
  | _ => false
theorem off_ne {x b C dx : Addr} {H : Hp} {fs : List (PySem.Str × V)} {o : HO} (hx : H x = some (.ins C dx fs)) (hb : H b = some o) (n : isIns o = false) : b ≠ x := fun e => by
  rw [e, hx] at hb
  cases hb
  cases n
theorem SqB.off {b : Bool} {K : PySem.W.Frag} {H H' : Hp} {x a C dx : Addr} {fs : List (PySem.Str × V)} {xs : List V} (h : SqB b K H a xs) (hx : H x = some (.ins C dx fs)) (o : Off x H H') : SqB b K H' a xs := by
  cases b with
  | false =>
    rcases (show SqT K H a xs from h) with (h | ⟨ob, h⟩) | h
    · exact .inl (.inl (o _ _ (off_ne hx h rfl) h))
    · exact .inl (.inr ⟨ob, o _ _ (off_ne hx h rfl) h⟩)
    · exact .inr h
  | true =>
    rcases (show SqL K H a xs from h) with (h | ⟨ob, h⟩) | h
    · exact .inl (.inl (o _ _ (off_ne hx h rfl) h))
    · exact .inl (.inr ⟨ob, o _ _ (off_ne hx h rfl) h⟩)
    · exact .inr h
theorem KeptAt.off {H H' : Hp} {x C dx : Addr} {fs : List (PySem.Str × V)} {R : Kept} (h : KeptAt H R) (hx : H x = some (.ins C dx fs)) (o : Off x H H') : KeptAt H' R := fun p m => o _ _ (off_ne hx (h p m) rfl) (h p m)
theorem ActsAt.off {H H' : Hp} {x p C dx : Addr} {fs : List (PySem.Str × V)} {G : List Grp} (h : ActsAt H p G) (hx : H x = some (.ins C dx fs)) (o : Off x H H') : ActsAt H' p G := by
  obtain ⟨kvs, h1, h2⟩ := h
  exact ⟨kvs, o _ _ (off_ne hx h1 rfl) h1, Paired.mapP h2 fun a b z => z.mono fun c xs y => o _ _ (off_ne hx y rfl) y⟩
theorem GuessV.off {H H' : Hp} {x C dx : Addr} {fs : List (PySem.Str × V)} {v : V} {g : Option (List Key)} (h : GuessV H v g) (hx : H x = some (.ins C dx fs)) (o : Off x H H') : GuessV H' v g := by
  cases g with
  | none => exact h
  | some k =>
    obtain ⟨q, e, t⟩ := h
    exact ⟨q, e, o _ _ (off_ne hx t rfl) t⟩
/-- the class Machine -/
structure MCls (K : PySem.W.Frag) (C : Addr) : Prop where
  cls : Cls K C
  letters : NoAttr K C "letters"
  states : NoAttr K C "states"
  rules : NoAttr K C "rules"
  yes : NoAttr K C "yes"
  symbols : NoAttr K C "symbols"
  acts : NoAttr K C "_acts"
  guess : NoAttr K C "guess"
section
variable {P : Program} {w : World} {K : PySem.W.Frag} {mg : PySem.Str → Option Value} {base : Heap}
structure InitDefs (P : Program) (w : World) (K : PySem.W.Frag) (mg : PySem.Str → Option Value) (base : Heap) : Prop where
  check : Got P w K mg base "check_arguments" 5 ["letters", "states", "rules", "yes"] (spCheck K)
  symbols : Got P w K mg base "symbols_of" 1 ["rules"] (spSymbols K)
  acts : Got P w K mg base "acts_by_key" 1 ["rules"] (spActs K)
  guess : Got P w K mg base "first_guess" 1 ["acts"] spGuess
/-- what the arguments are, the tuples among the rules being such -/
structure Right (K : PySem.W.Frag) (H : Hp) (l : PySem.Str) (n : Int) (aR aY : Addr) (bR bY : Bool) (R : Hand) (ys : List Int) : Prop where
  args : ArgsOk K H l n aR aY bR bY R ys
  raw : ∀ p ∈ R, p.2.1 = false → H p.1 = some (.tup p.2.2.vs)
  few : R.length ≤ 1400
  fewY : ys.length < 4000
def rsOf (R : Hand) : List Rl := R.map fun p => p.2.2
def spInit (K : PySem.W.Frag) (C : Addr) : Sp := fun vs H Q _ => ∃ (x dx : Addr) (l : PySem.Str) (n : Int) (aR aY : Addr) (bR bY : Bool) (R : Hand) (ys : List Int), vs = [.ref x, .str l, .int n, .ref aR, .ref aY] ∧ H x = some (.ins C dx []) ∧ Right K H l n aR aY bR bY R ys ∧
  ∀ H', Off x H H' → MachAt K H' C x l n (rsOf R) ys → Q .non H'
theorem ok_init {f C : Addr} {fd : FuncData} {params : Arguments} {dvs : List V} {kws : List (PySem.Str × V)} (F : FunD K "__init__" "Machine.__init__" params (defBody sInit) (defScope sInit) dvs kws f fd) (T : TM mg) (G : InitDefs P w K mg base) (M : MCls K C) :
    FnOk P w K mg base CX0 6 f fd ["self", "letters", "states", "rules", "yes"] (spInit K C) := by
  refine F.ok scInit (fun vs H Q E h => ?_) (fun cdv A outer s H vs Q E hr h => ?_)
  · obtain ⟨x, dx, l, n, aR, aY, bR, bY, R, ys, rfl, _⟩ := h
    rfl
  · obtain ⟨x, dx, l, n, aR, aY, bR, bY, R, ys, rfl, hx, a, k⟩ := h
    have h1 := hr.mono (show 1 ≤ 5 by decide)
    have hu64 := hr.units
    refine ⟨_, pss_cons (ps_expr (pe_got G.check hr (by rfl) (pa_cons (pv 1) (pa_cons (pv 2) (pa_cons (pv 3) (pa_cons (pv 4) pa_nil))))))
      (pss_cons (ps_fld (pv 0) (pv 1) rfl)
      (pss_cons (ps_fld (pv 0) (pv 2) rfl)
      (pss_cons (ps_fld (pv 0) (pe_callTy call_tuple_of (by rfl) T.tuple PyProof.Rows.Boot.tuple (pa_cons (pe_callB (Sx.cr_sortMS rfl) (by rfl) T.sorted (by decide +kernel) (pa_cons (Sx.pe_sm (own := [("rule", 5)]) (g := gName 5) (tt := tYes) hu64 (by rfl) scInit.nd (pi_sq bR (pv 3))
          (blkOk_by (own := [("rule", 5)]) (N := nInit) (sc := defScope sInit) (by decide +kernel))
          (fun _ _ _ _ _ => pg_name (i := 5) scInit.nd rfl (Or.inl rfl)) (fun _ _ _ _ _ => pts_nil)
          (fun _ _ _ _ _ => pe_callTy (r := rTupOf K) call_tuple_of (by rfl) T.tuple PyProof.Rows.Boot.tuple (pa_cons (pv 5) pa_nil))) pa_nil)) pa_nil)) rfl)
      (pss_cons (ps_fld (pv 0) (pe_callTy call_tuple_of (by rfl) T.tuple PyProof.Rows.Boot.tuple (pa_cons (pe_callB (Sx.cr_sortI rfl) (by rfl) T.sorted (by decide +kernel) (pa_cons (pe_callTy (Sx.cr_setI rfl) (by rfl) T.set PyProof.Rows.Boot.set (pa_cons (pv 4) pa_nil)) pa_nil)) pa_nil)) rfl)
      (pss_cons (ps_fld (pv 0) (pe_got G.symbols h1 (by rfl) (pa_cons (pe_fld (pv 0) rfl) pa_nil)) rfl)
      (pss_cons (ps_fld (pv 0) (pe_got G.acts h1 (by rfl) (pa_cons (pe_fld (pv 0) rfl) pa_nil)) rfl)
      (pss_one (ps_fld (pv 0) (pe_got G.guess h1 (by rfl) (pa_cons (pe_fld (pv 0) rfl) pa_nil)) rfl)))))))), ?_⟩
    refine ⟨_, rfl, _, rfl, _, rfl, _, rfl, l, n, aR, aY, bR, bY, R, ys, rfl, a.args, fun H1 s1 => ?_⟩
    have hx1 := s1 _ _ hx
    refine ⟨_, rfl, _, rfl, x, C, dx, _, rfl, hx1, M.cls, M.letters, by decide, ?_⟩
    refine ⟨_, rfl, _, rfl, x, C, dx, _, rfl, upd_same, M.cls, M.states, (show 1 < 1000 by decide), ?_⟩
    have o3 : Off x H (upd (upd H1 x (.ins C dx [("letters", .str l)])) x (.ins C dx [("letters", .str l), ("states", .int n)])) := ((Off.same s1).trans Off.put).trans Off.put
    have hx3 : (upd (upd H1 x (.ins C dx [("letters", .str l)])) x (.ins C dx [("letters", .str l), ("states", .int n)])) x = some (.ins C dx [("letters", .str l), ("states", .int n)]) := upd_same
    show (tSeq _ _) _ _ (upd (upd H1 x (.ins C dx [("letters", .str l)])) x (.ins C dx [("letters", .str l), ("states", .int n)]))
    generalize upd (upd H1 x (.ins C dx [("letters", .str l)])) x (.ins C dx [("letters", .str l), ("states", .int n)]) = H3 at o3 hx3 ⊢
    have rs3 : SqB bR K H3 aR (refsH R) := a.args.rs.off hx o3
    have lR : (refsH R).length = R.length := List.length_map ..
    refine isq_of ⟨_, rfl, aR, rfl, ⟨_, rs3⟩, fun D hD => Sx.sm_it (walk_sq (b := bR) (K := K) (a := aR) (xs := refsH R)) (fun i H' => Same H3 H' ∧ ∃ L : Sx.Rows, H' D = some (Sx.MSetO P w D L) ∧ Sx.TupsIn H' L ∧ L.length ≤ i ∧
        (L.map (·.2)).Nodup ∧ ∀ c, c ∈ L.map (·.2) ↔ c ∈ (R.take i).map fun p => p.2.2.key)
      ⟨same_new hD, [], upd_same, fun p m => absurd m List.not_mem_nil, Nat.le_refl _, List.nodup_nil, fun c => by simp⟩ (fun i H' _ h => rs3.mono h.1) ?_ ?_⟩
    · rintro i y H4 H5 hi ⟨s4, L, hL, tL, lL, ndL, mL⟩ ⟨rfl, ey⟩
      rw [lR] at hi
      have hp : R[i]? = some R[i] := List.getElem?_eq_getElem hi
      have ey' : y = .ref R[i].1 := by
        unfold refsH at ey
        rw [List.getElem?_map, hp] at ey
        exact (Option.some.inj ey).symm
      subst ey'
      have m : R[i] ∈ R := List.getElem_mem hi
      have few := a.few
      have o4 : Off x H H5 := o3.trans (Off.same s4)
      have sq := (a.args.hand.at_ _ m).off hx o4
      -- the turn's end, the tuple at t
      have fin : ∀ (H6 : Hp) (t : Addr), Same H5 H6 → H6 t = some (.tup (R[i].2.2.key.map kV)) → ∃ (x : Addr) (k : List Key) (L : Sx.Rows), V.ref t = .ref x ∧ H6 x = some (.tup (k.map kV)) ∧ H6 D = some (Sx.MSetO P w D L) ∧ Sx.TupsIn H6 L ∧ L.length + 1 ≤ 1500 ∧
          ∀ L2 : Sx.Rows, (k ∈ L.map (·.2) → L2 = L) → (k ∉ L.map (·.2) → L2.Perm ((x, k) :: L)) → Same H3 (upd H6 D (Sx.MSetO P w D L2)) ∧ ∃ L' : Sx.Rows, (upd H6 D (Sx.MSetO P w D L2)) D = some (Sx.MSetO P w D L') ∧ Sx.TupsIn (upd H6 D (Sx.MSetO P w D L2)) L' ∧ L'.length ≤ i + 1 ∧
            (L'.map (·.2)).Nodup ∧ ∀ c, c ∈ L'.map (·.2) ↔ c ∈ (R.take (i + 1)).map fun p => p.2.2.key := fun H6 t s6 ht => by
        refine ⟨t, R[i].2.2.key, L, rfl, ht, s6 _ _ hL, fun p mp => s6 _ _ (tL p mp), by omega, fun L2 c1 c2 => ⟨same_mut (s4.trans s6) hD, L2, upd_same, ?_, ?_, ?_, ?_⟩⟩
        · intro p mp
          have tup : H6 p.1 = some (.tup (p.2.map kV)) := by
            rcases Classical.em (R[i].2.2.key ∈ L.map (·.2)) with c | c
            · rw [c1 c] at mp
              exact s6 _ _ (tL p mp)
            · rcases List.mem_cons.mp ((c2 c).mem_iff.mp mp) with e | mp
              · rw [e]; exact ht
              · exact s6 _ _ (tL p mp)
          rw [upd_ne (ne_of tup (s6 _ _ hL) (fun z => nomatch z))]
          exact tup
        · rcases Classical.em (R[i].2.2.key ∈ L.map (·.2)) with c | c
          · rw [c1 c]; omega
          · rw [(c2 c).length_eq, List.length_cons]; omega
        · rcases Classical.em (R[i].2.2.key ∈ L.map (·.2)) with c | c
          · rw [c1 c]; exact ndL
          · exact ((c2 c).map (·.2)).nodup_iff.mpr (List.nodup_cons.mpr ⟨c, ndL⟩)
        · intro c0
          rw [take_at hp, List.map_append, List.mem_append, ← mL c0]
          rcases Classical.em (R[i].2.2.key ∈ L.map (·.2)) with c | c
          · rw [c1 c]
            constructor
            · exact .inl
            · rintro (z | z)
              · exact z
              · rw [List.mem_singleton.mp z]; exact c
          · rw [((c2 c).map (·.2)).mem_iff, List.map_cons, List.mem_cons, List.map_cons, List.map_nil, List.mem_singleton]
            exact Or.comm
      refine ⟨rfl, ?_⟩
      refine ⟨_, rfl, R[i].1, R[i].2.2.vs, rfl, ?_⟩
      rcases eb : R[i].2.1 with _ | _
      · rw [eb] at sq
        exact .inr ⟨sq, fin H5 _ (fun _ _ z => z) (o4 _ _ (off_ne hx (a.raw _ m eb) rfl) (a.raw _ m eb))⟩
      · rw [eb] at sq
        exact .inl ⟨sq, fun t ht => fin _ t (same_new ht) upd_same⟩
    · rintro H4 ⟨s4, L, hL, tL, lL, ndL, mL⟩
      rw [lR, List.take_of_length_le (Nat.le_refl _)] at mL
      have keyOfRule : ∀ p ∈ L, ∃ r : Rl, p.2 = r.key := fun p mp => by
        obtain ⟨q, _, e⟩ := List.mem_map.mp ((mL p.2).mp (List.mem_map.mpr ⟨p, mp, rfl⟩))
        exact ⟨q.2.2, e.symm⟩
      refine ⟨D, L, true, sh8, rfl, hL, tL, fun p mp => by obtain ⟨r, e⟩ := keyOfRule p mp; rw [e]; exact shp_key r, fun L2 p5 pm nd2 up hp5 => ?_⟩
      refine ⟨p5, _, rfl, .inl ⟨SqL.of upd_same, fun q5 hq5 => ?_⟩⟩
      -- the kept rules
      have keys2 : L2.map (·.2) = (rulesOf (rsOf R)).map Rl.key := by
        rw [rulesOf_keys]
        refine Sx.lin_tup.is_asc nd2 (List.pairwise_map.mpr up) fun c => ?_
        rw [(pm.map (·.2)).mem_iff, mL c]
        unfold rsOf
        rw [List.map_map] <;> rfl
      have key2 : ∀ p ∈ L2, (unkey p.2).key = p.2 := fun p mp => by
        obtain ⟨r, e⟩ := keyOfRule p (pm.mem_iff.mp mp)
        rw [e, unkey_key]
      let K2 : Kept := L2.map fun p => (p.1, unkey p.2)
      have refs2 : refsK K2 = Sx.refsOf L2 := by
        show (L2.map _).map _ = L2.map _
        rw [List.map_map] <;> rfl
      have rules2 : K2.map (·.2) = rulesOf (rsOf R) := by
        have z := congrArg (List.map unkey) keys2
        rw [List.map_map, List.map_map] at z
        have e1 : (unkey ∘ Rl.key) = id := by funext r; rfl
        rw [e1, List.map_id] at z
        show (L2.map _).map _ = _
        rw [List.map_map]
        exact z
      have s6 : Same H3 (upd (upd H4 p5 (.lst (Sx.refsOf L2))) q5 (.tup (Sx.refsOf L2))) := (s4.trans (same_new hp5)).trans (same_new hq5)
      have kept6 : KeptAt (upd (upd H4 p5 (.lst (Sx.refsOf L2))) q5 (.tup (Sx.refsOf L2))) K2 := fun p mp => by
        obtain ⟨p0, m0, rfl⟩ := List.mem_map.mp mp
        have z := ((same_new hp5).trans (same_new (o := .tup (Sx.refsOf L2)) hq5)) _ _ (tL p0 (pm.mem_iff.mp m0))
        show _ = some (HO.tup ((unkey p0.2).vs))
        rw [← key_vs, key2 p0 m0]
        exact z
      have at6 : (upd (upd H4 p5 (.lst (Sx.refsOf L2))) q5 (.tup (Sx.refsOf L2))) q5 = some (.tup (refsK K2)) := by rw [upd_same, refs2]
      have most2 : (rulesOf (rsOf R)).length ≤ 20000 := by
        unfold rulesOf
        rw [List.length_map]
        refine Nat.le_trans (Sx.asc_len _ _) ?_
        rw [List.length_map]
        unfold rsOf
        rw [List.length_map]
        have := a.few
        omega
      have lK2 : K2.length ≤ 20000 := by
        have z := congrArg List.length rules2
        rw [List.length_map] at z
        omega
      generalize upd (upd H4 p5 (.lst (Sx.refsOf L2))) q5 (.tup (Sx.refsOf L2)) = H6 at s6 kept6 at6 ⊢
      clear_value K2
      have hx6 := s6 _ _ hx3
      refine ⟨_, rfl, x, C, dx, _, rfl, hx6, M.cls, M.rules, (show 2 < 1000 by decide), ?_⟩
      have o7 : Off x H6 (upd H6 x (.ins C dx [("letters", .str l), ("states", .int n), ("rules", .ref q5)])) := Off.put
      have hx7 : (upd H6 x (.ins C dx [("letters", .str l), ("states", .int n), ("rules", .ref q5)])) x = some (.ins C dx [("letters", .str l), ("states", .int n), ("rules", .ref q5)]) := upd_same
      show (tSeq _ _) _ _ (upd H6 x (.ins C dx [("letters", .str l), ("states", .int n), ("rules", .ref q5)]))
      generalize upd H6 x (.ins C dx [("letters", .str l), ("states", .int n), ("rules", .ref q5)]) = H7 at o7 hx7 ⊢
      have oH7 : Off x H H7 := (o3.trans (Off.same s6)).trans o7
      have kept7 := kept6.off hx6 o7
      have at7 := o7 _ _ (off_ne hx6 at6 rfl) at6
      have yes7 := a.args.yes.off hx oH7
      refine ⟨_, rfl, aY, ys, rfl, yes7.any, a.fewY, fun aS c le hn => ⟨aS, _, c, rfl, upd_same, by have := a.fewY; omega, fun ns p8 upn mem len hp8 => ?_⟩⟩
      refine ⟨p8, _, rfl, .inl ⟨SqL.of upd_same, fun q8 hq8 => ?_⟩⟩
      have ens : ns = intsOf ys := ints_are upn fun k => by rw [mem k, decide_eq_true_eq]
      subst ens
      have s8 : Same H7 (upd (upd (upd H7 aS (SetO w aS (fun j => decide (j ∈ ys)) c)) p8 (.lst ((intsOf ys).map V.int))) q8 (.tup ((intsOf ys).map V.int))) := ((same_new hn).trans (same_new hp8)).trans (same_new hq8)
      have at8 : (upd (upd (upd H7 aS (SetO w aS (fun j => decide (j ∈ ys)) c)) p8 (.lst ((intsOf ys).map V.int))) q8 (.tup ((intsOf ys).map V.int))) q8 = some (.tup ((intsOf ys).map V.int)) := upd_same
      show (tVar 0) _ (upd (upd (upd H7 aS (SetO w aS (fun j => decide (j ∈ ys)) c)) p8 (.lst ((intsOf ys).map V.int))) q8 (.tup ((intsOf ys).map V.int))) _
      generalize upd (upd (upd H7 aS (SetO w aS (fun j => decide (j ∈ ys)) c)) p8 (.lst ((intsOf ys).map V.int))) q8 (.tup ((intsOf ys).map V.int)) = H8 at s8 at8 ⊢
      have hx8 := s8 _ _ hx7
      refine ⟨_, rfl, x, C, dx, _, rfl, hx8, M.cls, M.yes, (show 3 < 1000 by decide), ?_⟩
      have o9 : Off x H8 (upd H8 x (.ins C dx [("letters", .str l), ("states", .int n), ("rules", .ref q5), ("yes", .ref q8)])) := Off.put
      have hx9 : (upd H8 x (.ins C dx [("letters", .str l), ("states", .int n), ("rules", .ref q5), ("yes", .ref q8)])) x = some (.ins C dx [("letters", .str l), ("states", .int n), ("rules", .ref q5), ("yes", .ref q8)]) := upd_same
      show (tSeq _ _) _ _ (upd H8 x (.ins C dx [("letters", .str l), ("states", .int n), ("rules", .ref q5), ("yes", .ref q8)]))
      generalize upd H8 x (.ins C dx [("letters", .str l), ("states", .int n), ("rules", .ref q5), ("yes", .ref q8)]) = H9 at o9 hx9 ⊢
      have o79 : Off x H7 H9 := (Off.same s8).trans o9
      have kept9 := kept7.off hx7 o79
      have at9 := o79 _ _ (off_ne hx7 at7 rfl) at7
      have atY9 := o9 _ _ (off_ne hx8 at8 rfl) at8
      -- symbols
      refine ⟨_, rfl, x, C, dx, _, .ref q5, rfl, hx9, M.cls, M.rules, rfl, q5, K2, rfl, .inl (.inl at9), kept9, lK2, fun H10 pS s10 hpS hS10 => ?_⟩
      have hx10 := s10 _ _ hx9
      refine ⟨_, rfl, x, C, dx, _, rfl, hx10, M.cls, M.symbols, (show 4 < 1000 by decide), ?_⟩
      have o11 : Off x H10 (upd H10 x (.ins C dx [("letters", .str l), ("states", .int n), ("rules", .ref q5), ("yes", .ref q8), ("symbols", .ref pS)])) := Off.put
      have hx11 : (upd H10 x (.ins C dx [("letters", .str l), ("states", .int n), ("rules", .ref q5), ("yes", .ref q8), ("symbols", .ref pS)])) x = some (.ins C dx [("letters", .str l), ("states", .int n), ("rules", .ref q5), ("yes", .ref q8), ("symbols", .ref pS)]) := upd_same
      show (tSeq _ _) _ _ (upd H10 x (.ins C dx [("letters", .str l), ("states", .int n), ("rules", .ref q5), ("yes", .ref q8), ("symbols", .ref pS)]))
      generalize upd H10 x (.ins C dx [("letters", .str l), ("states", .int n), ("rules", .ref q5), ("yes", .ref q8), ("symbols", .ref pS)]) = H11 at o11 hx11 ⊢
      have o911 : Off x H9 H11 := (Off.same s10).trans o11
      have kept11 := kept9.off hx9 o911
      have at11 := o911 _ _ (off_ne hx9 at9 rfl) at9
      have atY11 := o911 _ _ (off_ne hx9 atY9 rfl) atY9
      have atS11 := o11 _ _ (off_ne hx10 hS10 rfl) hS10
      -- acts
      refine ⟨_, rfl, x, C, dx, _, .ref q5, rfl, hx11, M.cls, M.rules, rfl, q5, K2, rfl, .inl (.inl at11), kept11, lK2, fun H12 pA s12 hpA hA12 => ?_⟩
      have hx12 := s12 _ _ hx11
      refine ⟨_, rfl, x, C, dx, _, rfl, hx12, M.cls, M.acts, (show 5 < 1000 by decide), ?_⟩
      have o13 : Off x H12 (upd H12 x (.ins C dx (putF "_acts" (.ref pA) [("letters", .str l), ("states", .int n), ("rules", .ref q5), ("yes", .ref q8), ("symbols", .ref pS)]))) := Off.put
      have hx13 : (upd H12 x (.ins C dx (putF "_acts" (.ref pA) [("letters", .str l), ("states", .int n), ("rules", .ref q5), ("yes", .ref q8), ("symbols", .ref pS)]))) x = some (.ins C dx [("letters", .str l), ("states", .int n), ("rules", .ref q5), ("yes", .ref q8), ("symbols", .ref pS), ("_acts", .ref pA)]) := upd_same
      generalize upd H12 x (.ins C dx (putF "_acts" (.ref pA) [("letters", .str l), ("states", .int n), ("rules", .ref q5), ("yes", .ref q8), ("symbols", .ref pS)])) = H13 at o13 hx13 ⊢
      have o1113 : Off x H11 H13 := (Off.same s12).trans o13
      have acts13 := hA12.off hx12 o13
      rw [rules2] at hS10 hA12 acts13 atS11
      -- guess
      refine ⟨_, rfl, x, C, dx, _, .ref pA, rfl, hx13, M.cls, M.acts, rfl, pA, _, rfl, acts13, by rw [grps_keys]; exact Sx.once_nodup _, fun g gm => Nat.le_trans (grps_len _ g gm) most2, fun gv hg => ?_⟩
      refine ⟨_, rfl, x, C, dx, _, rfl, hx13, M.cls, M.guess, (show 6 < 1000 by decide), ?_⟩
      have o14 : Off x H13 (upd H13 x (.ins C dx [("letters", .str l), ("states", .int n), ("rules", .ref q5), ("yes", .ref q8), ("symbols", .ref pS), ("_acts", .ref pA), ("guess", gv)])) := Off.put
      have o1114 := o1113.trans o14
      show Q .non (upd H13 x (.ins C dx [("letters", .str l), ("states", .int n), ("rules", .ref q5), ("yes", .ref q8), ("symbols", .ref pS), ("_acts", .ref pA), ("guess", gv)]))
      refine k _ ((oH7.trans o79).trans (o911.trans o1114)) ⟨dx, q5, q8, pS, pA, gv, K2, upd_same, ?_, kept11.off hx11 o1114, rules2, ?_, ?_, acts13.off hx13 o14, hg.off hx13 o14⟩
      · exact o1114 _ _ (off_ne hx11 at11 rfl) at11
      · exact o1114 _ _ (off_ne hx11 atY11 rfl) atY11
      · exact o1114 _ _ (off_ne hx11 atS11 rfl) atS11
end
end Mk
set_option Elab.async false
set_option maxRecDepth 100000
set_option maxHeartbeats 4000000
namespace Mk
open PySem L2 Pk
abbrev sWhole : Stmt := top 55
abbrev sSame : Stmt := top 56
abbrev sCell : Stmt := top 57
abbrev sDigits : Stmt := top 58
abbrev sAny : Stmt := top 59
abbrev sSym : Stmt := top 60
abbrev sPool : Stmt := top 61
abbrev sLRule : Stmt := top 62
abbrev sLRules : Stmt := top 63
abbrev sYes : Stmt := top 64
abbrev sOnce : Stmt := top 65
abbrev sDue : Stmt := top 66
abbrev sFields : Stmt := top 67
abbrev sLine : Stmt := top 68
abbrev sHeads : Stmt := top 69
section
variable {P : Program} {w : World} {K : PySem.W.Frag} {mg : PySem.Str → Option Value} {base : Heap}
/-! _law_cell: some int -/
theorem small100k {n : Nat} (h : n ≤ 100000) : n < sizeLine := Nat.lt_of_le_of_lt h (by decide)
def spCellA (K : PySem.W.Frag) : Sp := fun vs H Q _ => ∃ (l : Addr) (ns : List Int) (j : Nat), vs = [.ref l, .int (j : Int)] ∧ SqL K H l (ns.map V.int) ∧ ∀ z, Q (.int z) H
theorem scCell : FnScope ["script", "k", "seed", "cell"] ["script", "k"] (defScope sCell) := ⟨rfl, rfl, rfl, by decide +kernel, rfl, by decide +kernel, by decide +kernel⟩
theorem ok_cell {f : Addr} {fd : FuncData} (F : Fun K "_law_cell" "_law_cell" sCell f fd) (T : TM mg) : FnOk P w K mg base CX0 1 f fd ["script", "k"] (spCellA K) := by
  refine F.ok scCell (fun vs H Q E h => ?_) (fun cdv A outer s H vs Q E hr h => ?_)
  · obtain ⟨l, ns, j, rfl, _⟩ := h
    rfl
  · obtain ⟨l, ns, j, rfl, hS, k⟩ := h
    refine ⟨_, pss_cons (ps_if (pt_cmp (pc_lt (pv 1) (pe_callB call_len_seq (by rfl) T.len PySem.boot_len (pa_cons (pv 0) pa_nil)))) (pss_one (ps_ret (pe_ix ix_list (pv 0) (pv 1) fun _ _ => rfl))) pss_nil)
      (pss_cons (ps_set (i := 2) scCell.nd rfl (Or.inl rfl) pe_int)
      (pss_cons (ps_for PassesOwn.never rfl (pi_list (pv 0)) (pg_name (i := 3) scCell.nd rfl (Or.inl rfl))
        (pss_one (ps_set (i := 2) scCell.nd rfl (Or.inl rfl) (pe_op op_mod (pe_callTy call_int1 (by rfl) T.int PyProof.Rows.Boot.int (pa_cons (pe_op op_add (pe_op op_mul (pv 2) pe_int)
          (pe_op op_mod (pe_callTy call_int1 (by rfl) T.int PyProof.Rows.Boot.int (pa_cons (pv 3) pa_nil)) pe_int)) pa_nil)) pe_int))))
      (pss_one (ps_ret (pe_op op_mod (pe_callTy call_int1 (by rfl) T.int PyProof.Rows.Boot.int (pa_cons (pe_op op_mul (pe_op op_mul (pe_op op_add (pv 2) pe_int) (pe_op op_add (pv 1) pe_int)) pe_int) pa_nil)) pe_int))))), ?_⟩
    refine ⟨_, rfl, _, rfl, l, _, rfl, .inl hS, _, _, rfl, rfl, _, rfl, ?_⟩
    refine ite2 (fun c => ?_) (fun c => ?_)
    · have c' := of_decide_eq_true c
      rw [List.length_map] at c'
      have ej : (ns.map V.int)[j]? = some (V.int ns[j]) := by rw [List.getElem?_map, List.getElem?_eq_getElem (by omega)]; rfl
      exact ⟨_, rfl, _, rfl, l, _, _, _, rfl, rfl, hS, atI_nat ej, k _⟩
    · refine ⟨_, rfl, l, rfl, ⟨_, hS⟩, for_list (K := K) (a := l) (xs := ns.map V.int) (fun i σ H' => H' = H ∧ ∃ (z : Int) (v : Option V), σ = [some (.ref l), some (.int j), some (.int z), v] ∧ 0 ≤ z ∧ z < 1000003)
        ⟨rfl, 17, none, rfl, by decide, by decide⟩ (fun i σ H' _ h => by rw [h.1]; exact hS) ?_ ?_⟩
      · rintro i y σ H' hi ⟨rfl, z, v, rfl, hz0, hz1⟩
        obtain ⟨u, _, rfl⟩ := mapInt hi
        refine ⟨_, rfl, _, _, rfl, rfl, .inl (by omega), _, rfl, .inl ⟨_, rfl, _, _, rfl, rfl, (by show (0 : Int) < 1000003; decide), _, _, rfl, rfl, .inl ⟨_, rfl, _, _, rfl, rfl, (by show (0 : Int) < 1000003; decide), ?_⟩⟩⟩
        exact ⟨rfl, _, _, rfl, Int.emod_nonneg _ (by decide), Int.emod_lt_of_pos _ (by decide)⟩
      · rintro σ H' ⟨rfl, z, v, rfl, hz0, hz1⟩
        refine ⟨_, rfl, _, _, rfl, rfl, _, rfl, _, _, rfl, rfl, _, _, rfl, rfl, .inl (by omega), _, _, rfl, rfl, .inr (by decide), .inl ⟨_, rfl, _, _, rfl, rfl, (by show (0 : Int) < 2147483647; decide), ?_⟩⟩
        exact k _
end
end Mk
set_option Elab.async false
set_option maxRecDepth 100000
set_option maxHeartbeats 4000000
namespace Mk
open PySem L2 Pk
section
variable {P : Program} {w : World} {K : PySem.W.Frag} {mg : PySem.Str → Option Value} {base : Heap}
/-! _law_digits: so many digits, each below its size -/
def Digs (sizes row : List Int) : Prop := row.length = sizes.length ∧ ∀ (i : Nat) (s : Int), sizes[i]? = some s → ∃ d, row[i]? = some d ∧ 0 ≤ d ∧ d < s
def spDigits (K : PySem.W.Frag) : Sp := fun vs H Q _ => ∃ (c : Int) (l : Addr) (sizes : List Int), vs = [.int c, .ref l] ∧ SqL K H l (sizes.map V.int) ∧ sizes.length ≤ 10000 ∧ (∀ s ∈ sizes, 0 < s ∧ s < 2 ^ 200) ∧
  ∀ (row : List Int) (p : Addr) (H' : Hp), Digs sizes row → H p = none → Same H H' → H' p = some (.lst (row.map V.int)) → Q (.ref p) H'
theorem map_snoc (row : List Int) (d : Int) : row.map V.int ++ [V.int d] = (row ++ [d]).map V.int := by rw [List.map_append]; rfl
theorem digs_nil : Digs [] [] := ⟨rfl, fun i s e => by simp at e⟩
theorem take_succ_of {α : Type} {l : List α} {i : Nat} {x : α} (h : l[i]? = some x) : l.take (i + 1) = l.take i ++ [x] := by
  rw [List.take_add_one, h]
  rfl
theorem digs_snoc {sizes row : List Int} {i : Nat} {s d : Int} (h : Digs (sizes.take i) row) (e : sizes[i]? = some s) (h0 : 0 ≤ d) (h1 : d < s) : Digs (sizes.take (i + 1)) (row ++ [d]) := by
  rw [take_succ_of e]
  obtain ⟨hl, hd⟩ := h
  refine ⟨by rw [List.length_append, List.length_append, hl]; rfl, fun j t ej => ?_⟩
  by_cases c : j < (sizes.take i).length
  · rw [List.getElem?_append_left c] at ej
    obtain ⟨x, e1, e2⟩ := hd j t ej
    exact ⟨x, by rw [List.getElem?_append_left (by omega)]; exact e1, e2⟩
  · have cj : j = (sizes.take i).length := by
      have q := (List.getElem?_eq_some_iff.mp ej).1
      rw [List.length_append, List.length_singleton] at q
      omega
    rw [cj, List.getElem?_append_right (Nat.le_refl _), Nat.sub_self] at ej
    cases ej
    exact ⟨d, by rw [cj, List.getElem?_append_right (by omega), hl, Nat.sub_self]; rfl, h0, h1⟩
theorem scDigits : FnScope ["cell", "sizes", "row", "rest", "size", "seed", "k", "twice"] ["cell", "sizes"] (defScope sDigits) := ⟨rfl, rfl, rfl, by decide +kernel, rfl, by decide +kernel, by decide +kernel⟩
theorem ok_digits {f : Addr} {fd : FuncData} (F : Fun K "_law_digits" "_law_digits" sDigits f fd) (T : TM mg) : FnOk P w K mg base CX0 1 f fd ["cell", "sizes"] (spDigits K) := by
  refine F.ok scDigits (fun vs H Q E h => ?_) (fun cdv A outer s H vs Q E hr h => ?_)
  · obtain ⟨c, l, sizes, rfl, _⟩ := h
    rfl
  · obtain ⟨c, l, sizes, rfl, hS, hl, hz, k⟩ := h
    refine ⟨_, pss_cons (ps_set (i := 2) scDigits.nd rfl (Or.inl rfl) (pe_lst pa_nil))
      (pss_cons (ps_set (i := 3) scDigits.nd rfl (Or.inl rfl) (pe_callTy call_int1 (by rfl) T.int PyProof.Rows.Boot.int (pa_cons (pv 0) pa_nil)))
      (pss_cons (ps_if (pt_cmp (pc_ge (pv 3) (pe_op op_pow pe_int pe_int)))
        (pss_cons (ps_set (i := 3) scDigits.nd rfl (Or.inl rfl) (pe_op op_sub (pv 3) (pe_op op_pow pe_int pe_int)))
        (pss_cons (ps_for PassesOwn.never rfl (pi_list (pv 1)) (pg_name (i := 4) scDigits.nd rfl (Or.inl rfl))
          (pss_cons (ps_expr (pe_bm PySem.F.plainAttrs_list PySem.F.slot_list_append PySem.F.type_list_append mt_append (pv 2) (pa_cons (pe_op op_mod (pe_callTy call_int1 (by rfl) T.int PyProof.Rows.Boot.int (pa_cons (pv 3) pa_nil)) (pv 4)) pa_nil)))
          (pss_one (ps_set (i := 3) scDigits.nd rfl (Or.inl rfl) (pe_op op_fdivW (pe_callTy call_int1 (by rfl) T.int PyProof.Rows.Boot.int (pa_cons (pv 3) pa_nil)) (pv 4))))))
        (pss_one (ps_ret (pv 2))))) pss_nil)
      (pss_cons (ps_set (i := 5) scDigits.nd rfl (Or.inl rfl) (pe_op op_mod (pe_callTy call_int1 (by rfl) T.int PyProof.Rows.Boot.int (pa_cons (pv 3) pa_nil)) pe_int))
      (pss_cons (ps_for PassesOwn.never rfl (pi_range1 (by rfl) T.range (pa_cons (pe_callB call_len_seq (by rfl) T.len PySem.boot_len (pa_cons (pv 1) pa_nil)) pa_nil)) (pg_name (i := 6) scDigits.nd rfl (Or.inl rfl))
        (pss_cons (ps_set (i := 5) scDigits.nd rfl (Or.inl rfl) (pe_op op_mod (pe_callTy call_int1 (by rfl) T.int PyProof.Rows.Boot.int (pa_cons (pe_op op_add (pe_op op_add (pe_op op_mul (pv 5) pe_int) (pe_op op_mul pe_int (pv 6))) pe_int) pa_nil)) pe_int))
        (pss_cons (ps_set (i := 7) scDigits.nd rfl (Or.inl rfl) (pe_op op_mod (pe_callTy call_int1 (by rfl) T.int PyProof.Rows.Boot.int (pa_cons (pe_op op_mul (pv 5) (pe_op op_add (pe_op op_fdiv (pv 5) pe_int) pe_int)) pa_nil)) pe_int))
        (pss_one (ps_expr (pe_bm PySem.F.plainAttrs_list PySem.F.slot_list_append PySem.F.type_list_append mt_append (pv 2) (pa_cons (pe_op op_mod (pe_op op_fdiv (pv 7) pe_int) (pe_ix ix_list (pv 1) (pv 6) fun _ _ => rfl)) pa_nil)))))))
      (pss_one (ps_ret (pv 2))))))), ?_⟩
    refine ⟨Nat.zero_le _, fun p hp => ?_⟩
    have s0 : Same H (upd H p (.lst [])) := same_new hp
    refine ⟨_, rfl, .inl ⟨c, rfl, ?_⟩⟩
    refine ⟨_, rfl, _, _, rfl, rfl, ⟨by decide, by decide, by decide⟩, _, _, rfl, rfl, _, rfl, ?_⟩
    refine ite2 (fun cc => ?_) (fun cc => ?_)
    · refine ⟨_, rfl, _, _, rfl, rfl, ⟨by decide, by decide, by decide⟩, _, _, rfl, rfl, ?_⟩
      refine ⟨_, rfl, l, rfl, ⟨_, s0.seq hS⟩, for_list (K := K) (a := l) (xs := sizes.map V.int) (fun i σ H' => Same H H' ∧ ∃ (r : Int) (row : List Int) (v : Option V), σ = [some (.int c), some (.ref l), some (.ref p), some (.int r), v, none, none, none] ∧ H' p = some (.lst (row.map V.int)) ∧ Digs (sizes.take i) row)
        ⟨s0, _, [], none, rfl, upd_same, digs_nil⟩ (fun i σ H' _ h => h.1.seq hS) ?_ ?_⟩
      · rintro i y σ H' hi ⟨s1, r, row, v, rfl, hrow, dg⟩
        obtain ⟨u, eu, rfl⟩ := mapInt hi
        obtain ⟨u0, u1⟩ := hz u (List.mem_of_getElem? eu)
        have hi2 : i < sizes.length := (List.getElem?_eq_some_iff.mp eu).1
        have lr : row.length ≤ i := by rw [dg.1, List.length_take]; omega
        refine ⟨_, rfl, .inl ⟨rfl, _, SqL.of hrow⟩, _, rfl, .inl ⟨_, rfl, _, rfl, _, _, rfl, rfl, u0, p, _, _, rfl, rfl, hrow, ?_, ?_⟩⟩
        · rw [List.length_map]
          exact small100k (by omega)
        refine ⟨_, rfl, .inl ⟨_, rfl, _, rfl, _, _, rfl, rfl, ⟨u0, ?_⟩, ?_⟩⟩
        · exact (wide_div (i := r) (b := 200) u0 (by omega) (by decide) (by decide)).2
        refine ⟨same_mut s1 hp, _, row ++ [r % u], _, rfl, ?_, digs_snoc dg eu (Int.emod_nonneg _ (by omega)) (Int.emod_lt_of_pos _ u0)⟩
        rw [upd_same, List.map_append]
        rfl
      · rintro σ H' ⟨s1, r, row, v, rfl, hrow, dg⟩
        rw [List.length_map, List.take_length] at dg
        exact ⟨_, rfl, k row p H' dg hp s1 hrow⟩
    · refine ⟨_, rfl, .inl ⟨_, rfl, _, _, rfl, rfl, (by show (0 : Int) < 2147483629; decide), ?_⟩⟩
      refine ⟨_, rfl, l, _, rfl, .inl (s0.seq hS), ?_⟩
      rw [List.length_map]
      refine ⟨_, rfl, by omega, by omega, for_range (lo := 0) (n := ((sizes.length : Int)).toNat) (fun i σ H' => Same H H' ∧ ∃ (sd : Int) (row : List Int) (v v2 : Option V), σ = [some (.int c), some (.ref l), some (.ref p), some (.int c), none, some (.int sd), v, v2] ∧ 0 ≤ sd ∧ sd < 2 ^ 40 ∧ H' p = some (.lst (row.map V.int)) ∧ Digs (sizes.take i) row)
        ⟨s0, _, [], none, none, rfl, Int.emod_nonneg _ (by decide), Int.lt_trans (Int.emod_lt_of_pos _ (by decide)) (by decide), upd_same, digs_nil⟩ ?_ ?_⟩
      · rintro i σ H' hi ⟨s1, sd, row, v, v2, rfl, h0, h1, hrow, dg⟩
        have hi2 : i < sizes.length := by omega
        have eu : sizes[i]? = some sizes[i] := List.getElem?_eq_getElem hi2
        obtain ⟨u0, u1⟩ := hz _ (List.mem_of_getElem? eu)
        have lr : row.length ≤ i := by rw [dg.1, List.length_take]; omega
        have ei : (0 : Int) + (i : Int) = (i : Int) := by omega
        refine ⟨_, rfl, _, _, rfl, rfl, .inl (by omega), _, rfl, _, _, rfl, rfl, .inl (by decide), _, _, rfl, rfl, _, _, rfl, rfl, .inl ⟨_, rfl, _, _, rfl, rfl, (by show (0 : Int) < 2147483647; decide), ?_⟩⟩
        have b0 := Int.emod_nonneg (sd * 48271 + 974711 * (0 + (i : Int)) + 12345) (show (2147483647 : Int) ≠ 0 by decide)
        have b1 := Int.emod_lt_of_pos (sd * 48271 + 974711 * (0 + (i : Int)) + 12345) (show (0 : Int) < 2147483647 by decide)
        refine ⟨_, rfl, _, rfl, _, _, rfl, rfl, ⟨by decide, by decide⟩, _, _, rfl, rfl, _, _, rfl, rfl, .inl (by omega), .inl ⟨_, rfl, _, _, rfl, rfl, (by show (0 : Int) < 2147483629; decide), ?_⟩⟩
        refine ⟨_, rfl, .inl ⟨rfl, _, SqL.of hrow⟩, _, rfl, _, _, rfl, rfl, ⟨by decide, by decide⟩, _, rfl, _, rfl, l, _, (i : Int), _, rfl, by rw [ei], s1.seq hS, atI_nat (by rw [List.getElem?_map, eu]; rfl), _, _, rfl, rfl, u0, p, _, _, rfl, rfl, hrow, ?_, ?_⟩
        · rw [List.length_map]
          exact small100k (by omega)
        exact ⟨same_mut s1 hp, _, row ++ [_], _, _, rfl, b0, Int.lt_trans b1 (by decide), upd_same.trans (congrArg (fun l => some (HO.lst l)) (map_snoc row _)), digs_snoc dg eu (Int.emod_nonneg _ (by omega)) (Int.emod_lt_of_pos _ u0)⟩
      · rintro σ H' ⟨s1, sd, row, v, v2, rfl, h0, h1, hrow, dg⟩
        rw [Int.toNat_natCast, List.take_length] at dg
        exact ⟨_, rfl, k row p H' dg hp s1 hrow⟩
end
end Mk
set_option Elab.async false
set_option maxRecDepth 100000
set_option maxHeartbeats 4000000
namespace Mk
open PySem L2 Pk
section
variable {P : Program} {w : World} {K : PySem.W.Frag} {mg : PySem.Str → Option Value} {base : Heap}
/-! _law_whole -/
def spWhole : Sp := fun vs H Q _ => ∃ n : Int, vs = [.int n] ∧ Q (.bl true) H
theorem scWhole : FnScope ["value"] ["value"] (defScope sWhole) := ⟨rfl, rfl, rfl, by decide +kernel, rfl, by decide +kernel, by decide +kernel⟩
theorem ok_whole {f : Addr} {fd : FuncData} (F : Fun K "_law_whole" "_law_whole" sWhole f fd) (T : TM mg) : FnOk P w K mg base CX0 1 f fd ["value"] spWhole := by
  refine F.ok scWhole (fun vs H Q E h => ?_) (fun cdv A outer s H vs Q E hr h => ?_)
  · obtain ⟨n, rfl, _⟩ := h
    rfl
  · obtain ⟨n, rfl, k⟩ := h
    refine ⟨_, pss_one (ps_ret (pe_and (pe_callB call_isi (by rfl) T.isi (by decide +kernel) (pa_cons (pv 0) (pa_cons (pe_bltn (v := .ty "int") (by rfl) T.int PyProof.Rows.Boot.int rfl) pa_nil)))
      (pe_one (pe_not (pe_callB call_isi (by rfl) T.isi (by decide +kernel) (pa_cons (pv 0) (pa_cons (pe_bltn (v := .ty "bool") (by rfl) T.bool PyProof.Rows.Boot.bool rfl) pa_nil))))))), ?_⟩
    refine ⟨_, rfl, _, _, _, _, true, rfl, .ty _, .base (.int _), kit_ty (by decide +kernel), _, rfl, ?_⟩
    refine iteT ?_
    refine ⟨_, rfl, _, _, _, _, false, rfl, .ty _, .base (.int _), kit_ty (by decide +kernel), _, rfl, k⟩
/-! _law_same -/
def depthOk : Nat → PyData → Prop
  | _, .none => True
  | _, .bool _ => True
  | _, .int _ => True
  | _, .str _ => True
  | 0, .tuple _ => False
  | n + 1, .tuple ds => ds.length ≤ 100000 ∧ ∀ d ∈ ds, depthOk n d
  | _, .list _ => False
  | _, .dict _ => False
def spSame (K : PySem.W.Frag) (n : Nat) : Sp := fun vs H Q _ => ∃ (x y : V) (d : PyData), vs = [x, y] ∧ Dp K H x d ∧ Dp K H y d ∧ depthOk n d ∧ Q (.bl true) H
theorem scSame : FnScope ["told", "due", "k"] ["told", "due"] (defScope sSame) := ⟨rfl, rfl, rfl, by decide +kernel, rfl, by decide +kernel, by decide +kernel⟩
theorem tyx_tup {H : Hp} {a : Addr} {xs : List V} (h : SqT K H a xs) : TyX K H (.ref a) (.type "tuple") := by
  rcases h with (h | ⟨o, h⟩) | ⟨o, its, n, h, hc, _⟩
  · exact .base (.tup h)
  · exact .fTuple h
  · exact .kTuple h hc
theorem depthOk_list {n : Nat} {ds : List PyData} (h : depthOk n (.list ds)) : False := by cases n <;> exact h
theorem depthOk_dict {n : Nat} {ds : List (PyData × PyData)} (h : depthOk n (.dict ds)) : False := by cases n <;> exact h
def ifThen (s : Stmt) : List Stmt := match s with
  | .If _ b _ _ => b
  | _ => []
theorem same_of {f fW : Addr} {fd fdW : FuncData} (F : Fun K "_law_same" "_law_same" sSame f fd) (T : TM mg) (GW : FnOk P w K mg base CX0 1 fW fdW ["value"] spWhole) (kW : PySem.W.keepIn K (.ref fW) = true) (bW : Binds K fdW ["value"] []) (gW : mg "_law_whole" = some (.ref fW)) (n : Nat)
    (loop : ∀ (cdv : Value) (A : Around) (outer : List Env) (s : Shared) (H : Hp) (E : XK), Room (n + 1) (A.deeper (PyProof.Rows.envOfC "_law_same" (defScope sSame) s.heap.objs.size f cdv)) →
      ∃ tb : TS, PSs (cxOf CX0 P w K mg base ["told", "due", "k"] "_law_same" (defScope sSame) f cdv A outer s H E).nox (ifThen ((defBody sSame).getD 0 (.Pass ⟨0, 0, 0, 0⟩))) tb ∧
        ∀ (ds : List PyData) (D : Ends), depthOk n (.tuple ds) → ∀ (x y : V), Dp K H x (.tuple ds) → Dp K H y (.tuple ds) → D.rt (.bl true) H → tb D [some x, some y, none] H) :
    FnOk P w K mg base CX0 (n + 2) f fd ["told", "due"] (spSame K n) := by
  refine F.ok scSame (fun vs H Q E h => ?_) (fun cdv A outer s H vs Q E hr h => ?_)
  · obtain ⟨x, y, d, rfl, _⟩ := h
    rfl
  · obtain ⟨x, y, d, rfl, hx, hy, hd, k⟩ := h
    have hr1 : Room 1 _ := hr.mono (by omega)
    obtain ⟨tb, hb, hbt⟩ := loop cdv A outer s H E hr
    refine ⟨_, pss_cons (ps_if (pt_val (pe_callB call_isi (by rfl) T.isi (by decide +kernel) (pa_cons (pv 1) (pa_cons (pe_bltn (v := .ty "tuple") (by rfl) T.tuple PyProof.Rows.Boot.tuple rfl) pa_nil)))) hb pss_nil)
      (pss_cons (ps_if (pt_cmp (pc_isN (pv 1))) (pss_one (ps_ret (pe_cmp (pc_isN (pv 0)) rfl))) pss_nil)
      (pss_cons (ps_if (pt_val (pe_callB call_isi (by rfl) T.isi (by decide +kernel) (pa_cons (pv 1) (pa_cons (pe_bltn (v := .ty "bool") (by rfl) T.bool PyProof.Rows.Boot.bool rfl) pa_nil))))
        (pss_one (ps_ret (pe_and (pe_callB call_isi (by rfl) T.isi (by decide +kernel) (pa_cons (pv 0) (pa_cons (pe_bltn (v := .ty "bool") (by rfl) T.bool PyProof.Rows.Boot.bool rfl) pa_nil))) (pe_one (pe_cmpR op_eq (pv 0) (pv 1) (nomark _)))))) pss_nil)
      (pss_cons (ps_if (pt_val (pe_callB call_isi (by rfl) T.isi (by decide +kernel) (pa_cons (pv 1) (pa_cons (pe_bltn (v := .ty "int") (by rfl) T.int PyProof.Rows.Boot.int rfl) pa_nil))))
        (pss_one (ps_ret (pe_and (pe_call GW hr1 (by rfl) gW kW bW .nil pass0 (pa_cons (pv 0) pa_nil)) (pe_one (pe_cmpR op_eq (pv 0) (pv 1) (nomark _)))))) pss_nil)
      (pss_one (ps_ret (pe_and (pe_callB call_isi (by rfl) T.isi (by decide +kernel) (pa_cons (pv 0) (pa_cons (pe_bltn (v := .ty "str") (by rfl) T.str PyProof.Rows.Boot.str rfl) pa_nil))) (pe_one (pe_cmpR op_eq (pv 0) (pv 1) (nomark _))))))))), ?_⟩
    cases d with
    | none =>
      cases hx
      cases hy
      refine ⟨_, rfl, _, _, _, _, false, rfl, .ty _, .base .non, kit_ty (by decide +kernel), _, rfl, ?_⟩
      refine iteF ?_
      refine ⟨_, rfl, _, rfl, ?_⟩
      refine iteT ?_
      exact ⟨_, rfl, k⟩
    | bool b =>
      cases hx
      cases hy
      refine ⟨_, rfl, _, _, _, _, false, rfl, .ty _, .base (.bl _), kit_ty (by decide +kernel), _, rfl, ?_⟩
      refine iteF ?_
      refine ⟨_, rfl, _, rfl, ?_⟩
      refine iteF ?_
      refine ⟨_, rfl, _, _, _, _, true, rfl, .ty _, .base (.bl _), kit_ty (by decide +kernel), _, rfl, ?_⟩
      refine iteT ?_
      refine ⟨_, rfl, _, _, _, _, true, rfl, .ty _, .base (.bl _), kit_ty (by decide +kernel), _, rfl, ?_⟩
      refine iteT ?_
      refine ⟨_, rfl, _, rfl, rfl, ?_⟩
      rw [decide_eq_true rfl]
      exact k
    | int i =>
      cases hx
      cases hy
      refine ⟨_, rfl, _, _, _, _, false, rfl, .ty _, .base (.int _), kit_ty (by decide +kernel), _, rfl, ?_⟩
      refine iteF ?_
      refine ⟨_, rfl, _, rfl, ?_⟩
      refine iteF ?_
      refine ⟨_, rfl, _, _, _, _, false, rfl, .ty _, .base (.int _), kit_ty (by decide +kernel), _, rfl, ?_⟩
      refine iteF ?_
      refine ⟨_, rfl, _, _, _, _, true, rfl, .ty _, .base (.int _), kit_ty (by decide +kernel), _, rfl, ?_⟩
      refine iteT ?_
      refine ⟨_, rfl, _, rfl, _, rfl, ?_⟩
      refine iteT ?_
      refine ⟨_, rfl, _, rfl, rfl, ?_⟩
      rw [decide_eq_true rfl]
      exact k
    | str z =>
      cases hx
      cases hy
      refine ⟨_, rfl, _, _, _, _, false, rfl, .ty _, .base (.str _), kit_ty (by decide +kernel), _, rfl, ?_⟩
      refine iteF ?_
      refine ⟨_, rfl, _, rfl, ?_⟩
      refine iteF ?_
      refine ⟨_, rfl, _, _, _, _, false, rfl, .ty _, .base (.str _), kit_ty (by decide +kernel), _, rfl, ?_⟩
      refine iteF ?_
      refine ⟨_, rfl, _, _, _, _, false, rfl, .ty _, .base (.str _), kit_ty (by decide +kernel), _, rfl, ?_⟩
      refine iteF ?_
      refine ⟨_, rfl, _, _, _, _, true, rfl, .ty _, .base (.str _), kit_ty (by decide +kernel), _, rfl, ?_⟩
      refine iteT ?_
      refine ⟨_, rfl, _, rfl, rfl, ?_⟩
      rw [decide_eq_true rfl]
      exact k
    | list ds => exact (depthOk_list hd).elim
    | tuple ds =>
      have hx' := hx
      have hy' := hy
      cases hx with
      | tup hsx hax =>
        cases hy with
        | tup hsy hay =>
          refine ⟨_, rfl, _, _, _, _, true, rfl, .ty _, tyx_tup hsy, kit_ty (by decide +kernel), _, rfl, ?_⟩
          refine iteT ?_
          exact hbt ds _ hd _ _ hx' hy' k
    | dict ds => exact (depthOk_dict hd).elim
theorem ok_same {f fW : Addr} {fd fdW : FuncData} (F : Fun K "_law_same" "_law_same" sSame f fd) (T : TM mg) (FW : Fun K "_law_whole" "_law_whole" sWhole fW fdW) (bW : Binds K fdW ["value"] []) (gW : mg "_law_whole" = some (.ref fW))
    (bS : Binds K fd ["told", "due"] []) (gS : mg "_law_same" = some (.ref f)) : ∀ n : Nat, FnOk P w K mg base CX0 (n + 2) f fd ["told", "due"] (spSame K n) := by
  have GW : FnOk P w K mg base CX0 1 fW fdW ["value"] spWhole := ok_whole FW T
  intro n
  induction n with
  | zero => exact same_of F T GW FW.kp bW gW 0 fun cdv A outer s H E hr => ⟨_, pss_never, fun ds D hd => hd.elim⟩
  | succ n ih =>
    refine same_of F T GW FW.kp bW gW (n + 1) fun cdv A outer s H E hr => ?_
    refine ⟨_, pss_cons (ps_if (PW.pt (pw_or (pt_not (pt_val (pe_callB call_isi (by rfl) T.isi (by decide +kernel) (pa_cons (pv 0) (pa_cons (pe_bltn (v := .ty "tuple") (by rfl) T.tuple PyProof.Rows.Boot.tuple rfl) pa_nil)))))
        (pw_or1 (pt_cmpR op_ne (pe_callB call_len_seq (by rfl) T.len PySem.boot_len (pa_cons (pv 0) pa_nil)) (pe_callB call_len_seq (by rfl) T.len PySem.boot_len (pa_cons (pv 1) pa_nil)) (nomark _))))) (pss_one (ps_ret pe_bl)) pss_nil)
      (pss_cons (ps_for PassesOwn.never rfl (pi_range1 (by rfl) T.range (pa_cons (pe_callB call_len_seq (by rfl) T.len PySem.boot_len (pa_cons (pv 1) pa_nil)) pa_nil)) (pg_name (i := 2) scSame.nd rfl (Or.inl rfl))
        (pss_one (ps_if (pt_not (pt_val (pe_call ih hr (by rfl) gS F.kp bS .nil pass0 (pa_cons (pe_ix ix_seq (pv 0) (pv 2) fun _ _ => rfl) (pa_cons (pe_ix ix_seq (pv 1) (pv 2) fun _ _ => rfl) pa_nil))))) (pss_one (ps_ret pe_bl)) pss_nil)))
      (pss_one (ps_ret pe_bl))), fun ds D hd x y hx hy k => ?_⟩
    cases hx with
    | @tup a xs _ hsx hax =>
    cases hy with
    | @tup b ys _ hsy hay =>
    have lx := dpa_len hax
    have ly := dpa_len hay
    refine ⟨_, rfl, _, _, _, _, true, rfl, .ty _, tyx_tup hsx, kit_ty (by decide +kernel), _, rfl, ?_⟩
    refine iteF ?_
    refine ⟨_, rfl, a, xs, rfl, .inr hsx, _, rfl, b, ys, rfl, .inr hsy, rfl, _, rfl, ?_⟩
    refine iteNS (by rw [lx, ly]) ?_
    have hl : ys.length ≤ 100000 := by rw [ly]; exact hd.1
    refine ⟨_, rfl, b, ys, rfl, .inr hsy, _, rfl, by omega, by omega, for_range (lo := 0) (n := ((ys.length : Int)).toNat) (fun i σ H' => H' = H ∧ ∃ v : Option V, σ = [some (.ref a), some (.ref b), v])
      ⟨rfl, none, rfl⟩ ?_ ?_⟩
    · rintro i σ H' hi ⟨rfl, v, rfl⟩
      have hi' : i < ys.length := by omega
      have ex : xs[i]? = some xs[i] := List.getElem?_eq_getElem (by omega)
      have ey : ys[i]? = some ys[i] := List.getElem?_eq_getElem hi'
      obtain ⟨d1, e1, q1⟩ := dpa_get hax ex
      obtain ⟨d2, e2, q2⟩ := dpa_get hay ey
      rw [e1] at e2
      cases e2
      have ei : (0 : Int) + (i : Int) = (i : Int) := by omega
      refine ⟨_, rfl, _, rfl, .inr (.inl ⟨a, xs, (i : Int), _, rfl, by rw [ei], hsx, atI_nat ex, _, rfl, _, rfl, .inr (.inl ⟨b, ys, (i : Int), _, rfl, by rw [ei], hsy, atI_nat ey, ?_⟩)⟩)⟩
      refine ⟨_, _, d1, rfl, q1, q2, hd.2 d1 (List.mem_of_getElem? e1), _, rfl, ?_⟩
      refine iteF ?_
      exact ⟨rfl, _, rfl⟩
    · rintro σ H' ⟨rfl, v, rfl⟩
      exact k
end
end Mk
set_option Elab.async false
set_option maxRecDepth 100000
set_option maxHeartbeats 4000000
namespace Mk
open PySem L2 Pk
/-! texts of signs -/
abbrev sgn1 (c : Nat) : PySem.Str := ⟨#[c]⟩
theorem joinL_one : ∀ cs : List Nat, TL.joinL [] (cs.map fun c => [c]) = cs
  | [] => rfl
  | [c] => rfl
  | c :: d :: r => by
    show [c] ++ ([] ++ TL.joinL [] ((d :: r).map fun c => [c])) = c :: d :: r
    rw [joinL_one (d :: r)] <;> rfl
theorem join_signs (cs : List Nat) : Txt.join (PySem.Str.ofString "") (cs.map sgn1) = ⟨cs.toArray⟩ := by
  have e : cs.map sgn1 = (cs.map fun c => [c]).map SX.S := by
    rw [List.map_map]
    exact List.map_congr_left fun c _ => rfl
  have z : PySem.Str.ofString "" = SX.S [] := by decide +kernel
  rw [e, z, SX.join_S, joinL_one] <;> rfl
def abc (p : Nat → Bool) : List Nat := ((List.range 26).filter p).map (97 + ·)
theorem abc_low {p : Nat → Bool} {c : Nat} (h : c ∈ abc p) : 97 ≤ c ∧ c ≤ 122 := by
  obtain ⟨k, m, rfl⟩ := List.mem_map.mp h
  have z := List.mem_range.mp (List.mem_filter.mp m).1
  omega
theorem alpha_of {cs : List Nat} (low : ∀ c ∈ cs, 97 ≤ c ∧ c ≤ 122) (pos : 1 ≤ cs.length) (most : cs.length ≤ 26) (up : cs.Pairwise (· < ·)) : Alpha ⟨cs.toArray⟩ where
  low := by
    show cs.all lowC = true
    rw [List.all_eq_true]
    intro c m
    unfold lowC
    rw [decide_eq_true (low c m).1, decide_eq_true (low c m).2] <;> rfl
  pos := pos
  most := most
  up := fun i c d e1 e2 => by
    have e1' : cs[i]? = some c := e1
    have e2' : cs[i + 1]? = some d := e2
    obtain ⟨h1, rfl⟩ := List.getElem?_eq_some_iff.mp e1'
    obtain ⟨h2, rfl⟩ := List.getElem?_eq_some_iff.mp e2'
    exact List.pairwise_iff_getElem.mp up i (i + 1) h1 h2 (Nat.lt_succ_self i)
theorem alpha_abc {p : Nat → Bool} (h : ∃ k, k < 26 ∧ p k = true) : Alpha ⟨(abc p).toArray⟩ := by
  refine alpha_of (fun c m => abc_low m) ?_ ?_ ?_
  · obtain ⟨k, lt, e⟩ := h
    have m : k ∈ (List.range 26).filter p := List.mem_filter.mpr ⟨List.mem_range.mpr lt, e⟩
    unfold abc
    rw [List.length_map]
    exact List.length_pos_of_mem m
  · unfold abc
    rw [List.length_map]
    exact Nat.le_trans (List.length_filter_le _ _) (by rw [List.length_range]; exact Nat.le_refl _)
  · unfold abc
    rw [List.pairwise_map]
    exact (List.pairwise_lt_range (n := 26)).filter p |>.imp fun h => by omega
theorem alpha_one {c : Nat} (h : 97 ≤ c ∧ c ≤ 122) : Alpha (sgn1 c) := alpha_of (cs := [c]) (fun d m => by rw [List.mem_singleton.mp m]; exact h) (Nat.le_refl _) (show 1 ≤ 26 by decide) (List.pairwise_singleton _ _)
abbrev abc26 : PySem.Str := PySem.Str.ofString "abcdefghijklmnopqrstuvwxyz"
theorem abc26_eq : abc26 = ⟨(abc fun _ => true).toArray⟩ := by decide +kernel
theorem abc26_at {k : Nat} (h : k < 26) : abc26.cps.toList[k]? = some (97 + k) := by
  have all : ∀ k, k < 26 → abc26.cps.toList[k]? = some (97 + k) := by decide +kernel
  exact all k h
theorem abc_snoc (p : Nat → Bool) (i : Nat) : (((List.range (i + 1)).filter p).map (97 + ·)) = (((List.range i).filter p).map (97 + ·)) ++ (if p i = true then [97 + i] else []) := by
  rw [List.range_succ, List.filter_append, List.map_append]
  by_cases c : p i = true
  · rw [List.filter_cons_of_pos c, if_pos c] <;> rfl
  · rw [List.filter_cons_of_neg c, if_neg c] <;> rfl
end Mk
set_option Elab.async false
set_option maxRecDepth 100000
set_option maxHeartbeats 4000000
namespace Mk
open PySem L2 Pk
section
variable {P : Program} {w : World} {K : PySem.W.Frag} {mg : PySem.Str → Option Value} {base : Heap}
abbrev nAny : List PySem.Str := ["cell", "letters", "row", "k"]
theorem scAny : FnScope nAny ["cell"] (defScope sAny) := ⟨rfl, rfl, rfl, by decide +kernel, rfl, by decide +kernel, by decide +kernel⟩
def spAny : Sp := fun vs H Q _ => ∃ c : Int, vs = [.int c] ∧ ∀ (x : PySem.Str) (H' : Hp), Alpha x → Same H H' → Q (.str x) H'
abbrev anySizes : List Int := [6, 26, 26, 26] ++ List.replicate 26 2
/-- the list that a comprehension over the 26 letters fills -/
def AbcAt (H0 : Hp) (D : Addr) (p : Nat → Bool) (i : Nat) (H' : Hp) : Prop := Same H0 H' ∧ H' D = some (.lst (((((List.range i).filter p).map (97 + ·)).map sgn1).map V.str))
theorem abc_step {H0 H1 H4 : Hp} {D : Addr} {p : Nat → Bool} {i : Nat} (h : AbcAt H0 D p i H1) (s : Same H1 H4) (hD : H0 D = none) (lt : i < 26) (e : p i = true) : ∃ acc, H4 D = some (.lst acc) ∧ acc.length < sizeLine ∧ AbcAt H0 D p (i + 1) (upd H4 D (.lst (acc ++ [V.str (sgn1 (97 + i))]))) := by
  refine ⟨_, s _ _ h.2, ?_, same_mut (h.1.trans s) hD, ?_⟩
  · rw [List.length_map, List.length_map, List.length_map]
    refine Nat.lt_of_le_of_lt (Nat.le_trans (List.length_filter_le _ _) ?_) (show 26 < sizeLine by decide)
    rw [List.length_range]
    omega
  · rw [upd_same, abc_snoc, if_pos e, List.map_append, List.map_append] <;> rfl
theorem abc_skip {H0 H1 H4 : Hp} {D : Addr} {p : Nat → Bool} {i : Nat} (h : AbcAt H0 D p i H1) (s : Same H1 H4) (e : p i = false) : AbcAt H0 D p (i + 1) H4 := by
  refine ⟨h.1.trans s, ?_⟩
  rw [s _ _ h.2, abc_snoc, if_neg (by rw [e]; decide), List.append_nil]
theorem abc_join {p : Nat → Bool} : Txt.join (PySem.Str.ofString "") ((((List.range 26).filter p).map (97 + ·)).map sgn1) = ⟨(abc p).toArray⟩ := join_signs _
theorem abc_short (p : Nat → Bool) : (((((List.range 26).filter p).map (97 + ·)).map sgn1).map (·.length)).sum + ((((List.range 26).filter p).map (97 + ·)).map sgn1).length * (PySem.Str.ofString "").length ≤ 16777216 := by
  have z : (PySem.Str.ofString "").length = 0 := by decide +kernel
  have one : ∀ cs : List Nat, ((cs.map sgn1).map (·.length)).sum = cs.length := by
    intro cs
    induction cs with
    | nil => rfl
    | cons c r ih =>
      rw [List.map_cons, List.map_cons, List.sum_cons, ih, List.length_cons]
      show 1 + r.length = _
      omega
  rw [z, one, List.length_map]
  have y := List.length_filter_le p (List.range 26)
  rw [List.length_range] at y
  omega
theorem ok_any {f : Addr} {fd : FuncData} (F : Fun K "_law_any_letters" "_law_any_letters" sAny f fd) (T : TM mg) (G : Got P w K mg base "_law_digits" 1 ["cell", "sizes"] (spDigits K)) : FnOk P w K mg base CX0 2 f fd ["cell"] spAny := by
  refine F.ok scAny (fun vs H Q E h => ?_) (fun cdv A outer s H vs Q E hr h => ?_)
  · obtain ⟨c, rfl, _⟩ := h
    rfl
  · obtain ⟨c, rfl, k⟩ := h
    refine ⟨_, pss_cons (ps_set (i := 1) scAny.nd rfl (Or.inr rfl) pe_str)
      (pss_cons (ps_set (i := 2) scAny.nd rfl (Or.inr rfl) (pe_got G hr (by rfl) (pa_cons (pv 0) (pa_cons (pe_op op_cat (pe_lst (pa_cons pe_int (pa_cons pe_int (pa_cons pe_int (pa_cons pe_int pa_nil))))) (pe_op op_rep (pe_lst (pa_cons pe_int pa_nil)) pe_int)) pa_nil))))
      (pss_cons (ps_if (pt_cmpR op_eq (pe_ix ix_list (pv 2) pe_int fun _ _ => rfl) pe_int (nomark _)) (pss_one (ps_ret (pe_ix ix_str (pv 1) (pe_ix ix_list (pv 2) pe_int fun _ _ => rfl) fun _ _ => rfl))) pss_nil)
      (pss_cons (ps_if (pt_cmpR op_lt (pe_ix ix_list (pv 2) pe_int fun _ _ => rfl) pe_int (nomark _)) (pss_one (ps_ret (pe_join pe_str (pe_lc (own := [("k", 3)]) (g := gName 3) (by rfl) scAny.nd (pi_range1 (by rfl) T.range (pa_cons pe_int pa_nil))
          (blkOk_by (own := [("k", 3)]) (N := nAny) (sc := defScope sAny) (by decide +kernel)) (fun _ _ _ _ _ => pg_name (i := 3) scAny.nd rfl (Or.inl rfl))
          (fun _ _ _ _ _ => pts_one (pt_cmpR (r := rIn K false) op_in_seq (pv 3) (pe_slice (r := rSlL K) sl_list (pv 2) (po_some pe_int) (po_some pe_int)) rfl)) (fun _ _ _ _ _ => pe_ix ix_str (pv 1) (pv 3) fun _ _ => rfl))))) pss_nil)
      (pss_cons (ps_if (pt_cmpR op_eq (pe_ix ix_list (pv 2) pe_int fun _ _ => rfl) pe_int (nomark _)) (pss_one (ps_ret (pe_join pe_str (pe_lc (own := [("k", 3)]) (g := gName 3) (by rfl) scAny.nd (pi_range1 (by rfl) T.range (pa_cons pe_int pa_nil))
          (blkOk_by (own := [("k", 3)]) (N := nAny) (sc := defScope sAny) (by decide +kernel)) (fun _ _ _ _ _ => pg_name (i := 3) scAny.nd rfl (Or.inl rfl))
          (fun _ _ _ _ _ => pts_one (PW.pt (pw_or (pt_cmpR op_eq (pv 3) (pe_ix (r := rIxL K) ix_list (pv 2) pe_int fun _ _ => rfl) (nomark _)) (pw_or1 (pt_cmpR op_eq (pe_ix (r := rIxL K) ix_list (pv 2) (pe_op op_add pe_int (pv 3)) fun _ _ => rfl) pe_int (nomark _))))))
          (fun _ _ _ _ _ => pe_ix ix_str (pv 1) (pv 3) fun _ _ => rfl))))) pss_nil)
      (pss_one (ps_ret (pv 1))))))), ?_⟩
    refine ⟨_, rfl, by decide, fun l1 hl1 => ?_⟩
    refine ⟨by decide, fun l2 hl2 => ?_⟩
    refine ⟨l2, 26, _, rfl, rfl, upd_same, by decide, by decide, by decide, fun l3 hl3 => ?_⟩
    refine ⟨l1, l3, _, _, rfl, rfl, same_new hl3 _ _ (same_new hl2 _ _ upd_same), upd_same, by decide, fun l4 hl4 => ?_⟩
    refine ⟨c, l4, anySizes, rfl, SqL.of upd_same, by decide, by decide, fun row p H1 dg hp s1 hrow => ?_⟩
    have sA : Same H H1 := ((((same_new hl1).trans (same_new hl2)).trans (same_new hl3)).trans (same_new hl4)).trans s1
    clear s1 hl1 hl2 hl3 hl4 hp
    obtain ⟨d0, e0, a0, b0⟩ := dg.2 0 6 rfl
    obtain ⟨d1, e1, a1, b1⟩ := dg.2 1 26 rfl
    have rowAt : ∀ {i : Nat} {d : Int}, row[i]? = some d → atI (row.map V.int) (i : Int) = some (V.int d) := fun {i d} e => atI_nat (by rw [List.getElem?_map, e]; rfl)
    refine ⟨_, rfl, _, _, _, _, rfl, rfl, SqL.of hrow, rowAt (i := 0) e0, rfl, _, rfl, ?_⟩
    refine ite2 (fun _ => ?_) (fun _ => ?_)
    · have lt : d1.toNat < 26 := by omega
      refine ⟨_, rfl, _, rfl, _, _, _, _, rfl, rfl, SqL.of hrow, rowAt (i := 1) e1, _, d1, 97 + d1.toNat, rfl, rfl, by decide, ?_, k _ _ (alpha_one (by omega)) sA⟩
      have z : ((d1.toNat : Nat) : Int) = d1 := Int.toNat_of_nonneg a1
      rw [← z]
      exact atI_nat (abc26_at lt)
    have sz26 : abc26.length ≤ sizeLine := by decide +kernel
    have len26 : row.length = 30 := dg.1
    have atK : ∀ {i : Nat}, i < 26 → atI abc26.cps.toList (0 + (i : Int)) = some (97 + i) := fun {i} lt => by
      rw [Int.zero_add]
      exact atI_nat (abc26_at lt)
    refine ⟨_, rfl, _, _, _, _, rfl, rfl, SqL.of hrow, rowAt (i := 0) e0, _, _, rfl, rfl, _, rfl, ?_⟩
    refine ite2 (fun _ => ?_) (fun _ => ?_)
    · -- some of three
      let part := cutV (row.map V.int) (some 1) (some 4)
      let q : Nat → Bool := fun k => inV (.int (k : Int)) part
      refine ⟨⟨_, rfl⟩, 26, rfl, by decide, by decide, fun D hD => lc_range (lo := 0) (n := 26) (AbcAt H1 D q) ⟨same_new hD, upd_same⟩ ?_ ?_⟩
      · rintro i H2 hi h2
        refine ⟨rfl, ?_⟩
        refine ⟨_, rfl, _, rfl, 1, rfl, 4, rfl, p, _, rfl, SqL.of (h2.1 _ _ hrow), fun u hu => ?_⟩
        have flat : part.all flatV = true := by
          rw [List.all_eq_true]
          intro v m
          have m2 : v ∈ row.map V.int := List.mem_of_mem_drop (List.mem_of_mem_take m)
          obtain ⟨z, _, rfl⟩ := List.mem_map.mp m2
          rfl
        refine ⟨u, part, rfl, .inl (SqL.of upd_same), rfl, flat, _, rfl, ?_⟩
        have ei : inV (.int (0 + (i : Int))) part = q i := by rw [Int.zero_add]
        refine ite2 (fun y => ?_) (fun y => ?_)
        · have y' : q i = true := by rw [← ei]; exact y
          exact ⟨_, rfl, _, rfl, abc26, _, 97 + i, rfl, rfl, sz26, atK hi, abc_step h2 (same_new hu) hD hi y'⟩
        · have y' : q i = false := by rw [← ei]; exact Bool.eq_false_iff.mpr y
          exact abc_skip h2 (same_new hu) y'
      · rintro H2 h2
        refine ⟨_, D, _, rfl, rfl, .inl (SqL.of h2.2), abc_short q, ?_⟩
        rw [abc_join]
        refine k _ _ (alpha_abc ⟨d1.toNat, by omega, ?_⟩) (sA.trans h2.1)
        have z : ((d1.toNat : Nat) : Int) = d1 := Int.toNat_of_nonneg a1
        show inV (.int ((d1.toNat : Nat) : Int)) part = true
        rw [z]
        unfold inV
        refine List.any_eq_true.mpr ⟨.int d1, ?_, by simp [eqV]⟩
        have at_ : part[0]? = some (.int d1) := by
          have h0 : HT.sIx (row.map V.int).length 0 (some 1) = 1 := by rw [List.length_map, len26]; decide
          have h4 : HT.sIx (row.map V.int).length (row.map V.int).length (some 4) = 4 := by rw [List.length_map, len26]; decide
          show (cutV (row.map V.int) (some 1) (some 4))[0]? = _
          unfold cutV
          rw [h0, h4, List.getElem?_take_of_lt (by decide), List.getElem?_drop, List.getElem?_map, e1] <;> rfl
        exact List.mem_of_getElem? at_
    refine ⟨_, rfl, _, _, _, _, rfl, rfl, SqL.of hrow, rowAt (i := 0) e0, rfl, _, rfl, ?_⟩
    refine ite2 (fun _ => ?_) (fun _ => ?_)
    · -- one, and others by their bits
      have z : ((d1.toNat : Nat) : Int) = d1 := Int.toNat_of_nonneg a1
      have bit : ∀ {i : Nat}, i < 26 → ∃ d : Int, row[4 + i]? = some d := fun {i} lt => by
        have all : ∀ i, i < 26 → anySizes[4 + i]? = some 2 := by decide
        obtain ⟨d, e, _⟩ := dg.2 (4 + i) 2 (all i lt)
        exact ⟨d, e⟩
      let q : Nat → Bool := fun k => decide ((k : Int) = d1) || decide (row[4 + k]? = some 1)
      refine ⟨⟨_, rfl⟩, 26, rfl, by decide, by decide, fun D hD => lc_range (lo := 0) (n := 26) (AbcAt H1 D q) ⟨same_new hD, upd_same⟩ ?_ ?_⟩
      · rintro i H2 hi h2
        refine ⟨rfl, ?_⟩
        have ei : decide (V.int (0 + (i : Int)) = V.int d1) = decide ((i : Int) = d1) := by rw [Int.zero_add]; exact dec_intV _ _
        refine ⟨_, rfl, _, rfl, _, _, _, _, rfl, rfl, SqL.of (h2.1 _ _ hrow), rowAt (i := 1) e1, rfl, _, rfl, ?_⟩
        obtain ⟨d4, e4⟩ := bit hi
        have e4n : (4 : Int) + (0 + (i : Int)) = ((4 + i : Nat) : Int) := by omega
        have one : decide (V.int d4 = V.int 1) = decide (row[4 + i]? = some 1) := by rw [e4]; simp
        have tail : q i = true → ∃ acc, H2 D = some (HO.lst acc) ∧ acc.length < sizeLine ∧ AbcAt H1 D q (i + 1) (upd H2 D (HO.lst (acc ++ [V.str (sgn1 (97 + i))]))) := fun y => abc_step h2 (fun _ _ x => x) hD hi y
        refine ite2 (fun y => ?_) (fun y => ?_)
        · have y' : q i = true := by
            show (decide ((i : Int) = d1) || _) = true
            rw [← ei, y] <;> rfl
          refine iteT ?_
          exact ⟨_, rfl, _, rfl, abc26, _, 97 + i, rfl, rfl, sz26, atK hi, tail y'⟩
        · have no : decide ((i : Int) = d1) = false := by rw [← ei]; exact Bool.eq_false_iff.mpr y
          refine ⟨_, rfl, _, rfl, _, _, rfl, rfl, p, _, _, _, rfl, rfl, SqL.of (h2.1 _ _ hrow), (by rw [e4n]; exact rowAt e4), rfl, _, rfl, ?_⟩
          refine ite2 (fun y2 => ?_) (fun y2 => ?_)
          · have y' : q i = true := by
              show (decide ((i : Int) = d1) || decide (row[4 + i]? = some 1)) = true
              rw [← one, y2, Bool.or_true]
            exact ⟨_, rfl, _, rfl, abc26, _, 97 + i, rfl, rfl, sz26, atK hi, tail y'⟩
          · have y' : q i = false := by
              show (decide ((i : Int) = d1) || decide (row[4 + i]? = some 1)) = false
              rw [no, ← one, Bool.eq_false_iff.mpr y2] <;> rfl
            exact abc_skip h2 (fun _ _ x => x) y'
      · rintro H2 h2
        refine ⟨_, D, _, rfl, rfl, .inl (SqL.of h2.2), abc_short q, ?_⟩
        rw [abc_join]
        refine k _ _ (alpha_abc ⟨d1.toNat, by omega, ?_⟩) (sA.trans h2.1)
        show (decide (((d1.toNat : Nat) : Int) = d1) || _) = true
        rw [z, decide_eq_true rfl] <;> rfl
    · refine ⟨_, rfl, ?_⟩
      refine k _ _ ?_ sA
      show Alpha abc26
      rw [abc26_eq]
      exact alpha_abc ⟨0, by decide, rfl⟩
end
end Mk
set_option Elab.async false
set_option maxRecDepth 100000
set_option maxHeartbeats 4000000
namespace Mk
open PySem L2 Pk
abbrev signs62 : PySem.Str := PySem.Str.ofString "abcdefghijklmnopqrstuvwxyzABCDEFGHIJKLMNOPQRSTUVWXYZ0123456789"
def s62 (k : Nat) : Nat := signs62.cps.toList.getD k 0
theorem s62_at {k : Nat} (h : k < 62) : signs62.cps.toList[k]? = some (s62 k) ∧ markC (s62 k) = true := by
  have all : ∀ k, k < 62 → signs62.cps.toList[k]? = some (s62 k) ∧ markC (s62 k) = true := by decide +kernel
  exact all k h
theorem signs_sum : ∀ cs : List Nat, ((cs.map sgn1).map (·.length)).sum = cs.length
  | [] => rfl
  | c :: r => by
    rw [List.map_cons, List.map_cons, List.sum_cons, signs_sum r, List.length_cons]
    show 1 + r.length = _
    omega
theorem signs_short {cs : List Nat} (h : cs.length ≤ 1000) : ((cs.map sgn1).map (·.length)).sum + (cs.map sgn1).length * (PySem.Str.ofString "").length ≤ 16777216 := by
  have z : (PySem.Str.ofString "").length = 0 := by decide +kernel
  rw [z, signs_sum]
  omega
/-- digits that a symbol is made of -/
structure SymRow (row : List Int) : Prop where
  n : ∃ d : Nat, row[0]? = some (d : Int) ∧ d < 8
  all : ∀ j, 1 ≤ j → j ≤ 8 → ∃ d : Nat, row[j]? = some (d : Int) ∧ d < 62
  most : row.length ≤ 1000
section
variable {P : Program} {w : World} {K : PySem.W.Frag} {mg : PySem.Str → Option Value} {base : Heap}
def spSym (K : PySem.W.Frag) : Sp := fun vs H Q _ => ∃ (p : Addr) (row : List Int), vs = [.ref p] ∧ SqL K H p (row.map V.int) ∧ SymRow row ∧ ∀ (x : PySem.Str) (H' : Hp), symB x = true → Same H H' → Q (.str x) H'
abbrev nSym : List PySem.Str := ["row", "signs", "digit"]
theorem scSym : FnScope nSym ["row"] (defScope sSym) := ⟨rfl, rfl, rfl, by decide +kernel, rfl, by decide +kernel, by decide +kernel⟩
theorem ok_sym {f : Addr} {fd : FuncData} (F : Fun K "_law_symbol" "_law_symbol" sSym f fd) : FnOk P w K mg base CX0 1 f fd ["row"] (spSym K) := by
  refine F.ok scSym (fun vs H Q E h => ?_) (fun cdv A outer s H vs Q E hr h => ?_)
  · obtain ⟨p, row, rfl, _⟩ := h
    rfl
  · obtain ⟨p, row, rfl, hS, hR, k⟩ := h
    refine ⟨_, pss_cons (ps_set (i := 1) scSym.nd rfl (Or.inr rfl) pe_str)
      (pss_one (ps_ret (pe_join pe_str (pe_lc (own := [("digit", 2)]) (g := gName 2) (tt := tYes) (by rfl) scSym.nd (pi_list (pe_slice sl_list (pv 0) (po_some pe_int) (po_some (pe_op op_add pe_int (pe_ix ix_list (pv 0) pe_int fun _ _ => rfl)))))
          (blkOk_by (own := [("digit", 2)]) (N := nSym) (sc := defScope sSym) (by decide +kernel)) (fun _ _ _ _ _ => pg_name (i := 2) scSym.nd rfl (Or.inl rfl)) (fun _ _ _ _ _ => pts_nil)
          (fun _ _ _ _ _ => pe_ix ix_str (pv 1) (pv 2) fun _ _ => rfl))))), ?_⟩
    obtain ⟨d0, e0, b0⟩ := hR.n
    have most := hR.most
    have len9 : 9 ≤ row.length := by
      obtain ⟨d, e, _⟩ := hR.all 8 (by decide) (by decide)
      exact (List.getElem?_eq_some_iff.mp e).1
    have cutE : cutV (row.map V.int) (some 1) (some (2 + (d0 : Int))) = ((row.drop 1).take (1 + d0)).map V.int := by
      have h0 : HT.sIx (row.map V.int).length 0 (some 1) = 1 := by
        rw [List.length_map]
        unfold HT.sIx
        simp
        omega
      have h4 : HT.sIx (row.map V.int).length (row.map V.int).length (some (2 + (d0 : Int))) = 2 + d0 := by
        rw [List.length_map]
        unfold HT.sIx
        simp only []
        rw [if_neg (by omega)]
        omega
      unfold cutV
      rw [h0, h4, ← List.map_drop, ← List.map_take, show 2 + d0 - 1 = 1 + d0 by omega]
    refine ⟨⟨_, rfl⟩, ?_⟩
    refine ⟨_, rfl, 1, rfl, _, rfl, p, _, _, _, rfl, rfl, hS, atI_nat (j := 0) (by rw [List.getElem?_map, e0]; rfl), _, _, rfl, rfl, _, rfl, p, _, rfl, hS, fun u hu => ?_⟩
    rw [cutE]
    generalize hp : (row.drop 1).take (1 + d0) = part
    have lp : part.length = 1 + d0 := by
      rw [← hp, List.length_take, List.length_drop]
      omega
    have at_ : ∀ {j : Nat} {v : V}, (part.map V.int)[j]? = some v → ∃ d : Nat, v = .int (d : Int) ∧ d < 62 := fun {j v} e => by
      have lt : j < part.length := by
        have z := (List.getElem?_eq_some_iff.mp e).1
        rwa [List.length_map] at z
      obtain ⟨d, e1, b⟩ := hR.all (1 + j) (by omega) (by omega)
      have e2 : part[j]? = some (d : Int) := by rw [← hp, List.getElem?_take_of_lt (by omega), List.getElem?_drop, e1]
      rw [List.getElem?_map, e2] at e
      exact ⟨d, (Option.some.inj e).symm, b⟩
    refine ⟨u, rfl, ⟨_, SqL.of upd_same⟩, fun D hD => lc_list (K := K) (a := u) (xs := part.map V.int) (fun j H' => Same (upd H u (.lst (part.map V.int))) H' ∧ ∃ cs : List Nat, H' D = some (.lst ((cs.map sgn1).map V.str)) ∧ cs.length = j ∧ ∀ c ∈ cs, markC c = true)
      ⟨same_new hD, [], upd_same, rfl, fun c m => absurd m List.not_mem_nil⟩ (fun j H' _ h => SqL.of (h.1 _ _ upd_same)) ?_ ?_⟩
    · rintro j y H1 hj ⟨s1, cs, hD1, lc, ok⟩
      obtain ⟨d, rfl, b⟩ := at_ hj
      have lt : j < part.length := by
        have z := (List.getElem?_eq_some_iff.mp hj).1
        rwa [List.length_map] at z
      obtain ⟨g1, g2⟩ := s62_at b
      refine ⟨rfl, ?_⟩
      refine ⟨_, rfl, _, rfl, signs62, _, s62 d, rfl, rfl, by decide +kernel, atI_nat g1, _, hD1, ?_, same_mut s1 hD, cs ++ [s62 d], ?_, ?_, ?_⟩
      · rw [List.length_map, List.length_map]
        exact Nat.lt_of_le_of_lt (show cs.length ≤ 8 by omega) (by decide)
      · rw [upd_same, List.map_append, List.map_append] <;> rfl
      · rw [List.length_append, lc] <;> rfl
      · intro c m
        rcases List.mem_append.mp m with m | m
        · exact ok c m
        · rw [List.mem_singleton.mp m]; exact g2
    · rintro H1 ⟨s1, cs, hD1, lc, ok⟩
      rw [List.length_map, lp] at lc
      refine ⟨_, D, _, rfl, rfl, .inl (SqL.of hD1), signs_short (by omega), ?_⟩
      rw [join_signs]
      refine k _ _ ?_ ((same_new hu).trans s1)
      unfold symB
      have l1 : (⟨cs.toArray⟩ : PySem.Str).length = cs.length := rfl
      rw [l1, decide_eq_true (p := 1 ≤ cs.length) (by omega), decide_eq_true (p := cs.length ≤ 8) (by omega)]
      show (true && true && cs.all markC) = true
      rw [List.all_eq_true.mpr ok] <;> rfl
end
end Mk
set_option Elab.async false
set_option maxRecDepth 100000
set_option maxHeartbeats 4000000
namespace Mk
open PySem L2 Pk
abbrev words12 : List PySem.Str := ["say", "push", "yes", "keep", "Z", "zz", "10", "9", "letters", "0", "a", "eightsym"]
theorem words_ok {i : Nat} (h : i < 12) : ∃ x, words12[i]? = some x ∧ symB x = true := by
  have all : ∀ i, i < 12 → ∃ x, words12[i]? = some x ∧ symB x = true := by
    intro i hi
    have e : words12[i]? = some (words12.getD i ⟨#[]⟩) := by
      rw [List.getD_eq_getElem?_getD, List.getElem?_eq_getElem (show i < words12.length from hi)] <;> rfl
    refine ⟨_, e, ?_⟩
    have z : ∀ i, i < 12 → symB (words12.getD i ⟨#[]⟩) = true := by decide +kernel
    exact z i hi
  exact all i h
abbrev poolOne : List Int := [3, 12, 8, 62, 62, 62, 62, 62, 62, 62, 62]
abbrev poolSizes : List Int := poolOne ++ poolOne ++ poolOne ++ poolOne ++ poolOne
theorem poolSizes_at {k j : Nat} (hk : k < 5) (hj : j < 11) : poolSizes[11 * k + j]? = poolOne[j]? := by
  have all : ∀ k, k < 5 → ∀ j, j < 11 → poolSizes[11 * k + j]? = poolOne[j]? := by decide
  exact all k hk j hj
/-- a slice within the row -/
theorem cut_in {row : List Int} {a b : Nat} (h : b ≤ row.length) (ab : a ≤ b) : cutV (row.map V.int) (some (a : Int)) (some (b : Int)) = ((row.drop a).take (b - a)).map V.int := by
  have h0 : HT.sIx (row.map V.int).length 0 (some (a : Int)) = a := by
    rw [List.length_map]
    unfold HT.sIx
    simp only []
    rw [if_neg (by omega)]
    omega
  have h4 : HT.sIx (row.map V.int).length (row.map V.int).length (some (b : Int)) = b := by
    rw [List.length_map]
    unfold HT.sIx
    simp only []
    rw [if_neg (by omega)]
    omega
  unfold cutV
  rw [h0, h4, ← List.map_drop, ← List.map_take]
theorem cut_from {row : List Int} {a : Nat} (h : a ≤ row.length) : cutV (row.map V.int) (some (a : Int)) none = (row.drop a).map V.int := by
  have h0 : HT.sIx (row.map V.int).length 0 (some (a : Int)) = a := by
    rw [List.length_map]
    unfold HT.sIx
    simp only []
    rw [if_neg (by omega)]
    omega
  have h4 : HT.sIx (row.map V.int).length (row.map V.int).length none = row.length := by
    rw [List.length_map]
    rfl
  unfold cutV
  rw [h0, h4, ← List.map_drop, ← List.map_take, List.take_of_length_le (by rw [List.length_drop]; exact Nat.le_refl _)]
section
variable {P : Program} {w : World} {K : PySem.W.Frag} {mg : PySem.Str → Option Value} {base : Heap}
def spPool : Sp := fun vs H Q _ => ∃ c : Int, vs = [.int c] ∧ ∀ (p : Addr) (H' : Hp) (xs : List PySem.Str), xs.length = 5 → (∀ x ∈ xs, symB x = true) → Same H H' → H p = none → H' p = some (.lst (xs.map V.str)) → Q (.ref p) H'
abbrev nPool : List PySem.Str := ["cell", "words", "row", "pool", "k", "part"]
theorem scPool : FnScope nPool ["cell"] (defScope sPool) := ⟨rfl, rfl, rfl, by decide +kernel, rfl, by decide +kernel, by decide +kernel⟩
theorem ok_pool {f : Addr} {fd : FuncData} (F : Fun K "_law_pool" "_law_pool" sPool f fd) (T : TM mg) (G : Got P w K mg base "_law_digits" 1 ["cell", "sizes"] (spDigits K)) (GS : Got P w K mg base "_law_symbol" 1 ["row"] (spSym K)) : FnOk P w K mg base CX0 2 f fd ["cell"] spPool := by
  refine F.ok scPool (fun vs H Q E h => ?_) (fun cdv A outer s H vs Q E hr h => ?_)
  · obtain ⟨c, rfl, _⟩ := h
    rfl
  · obtain ⟨c, rfl, k⟩ := h
    refine ⟨_, pss_cons (ps_set (i := 1) scPool.nd rfl (Or.inl rfl) (pe_lst (pa_cons pe_str (pa_cons pe_str (pa_cons pe_str (pa_cons pe_str (pa_cons pe_str (pa_cons pe_str (pa_cons pe_str (pa_cons pe_str (pa_cons pe_str (pa_cons pe_str (pa_cons pe_str (pa_cons pe_str pa_nil))))))))))))))
      (pss_cons (ps_set (i := 2) scPool.nd rfl (Or.inl rfl) (pe_got G hr (by rfl) (pa_cons (pv 0) (pa_cons (pe_op op_rep (pe_op op_cat (pe_lst (pa_cons pe_int (pa_cons pe_int (pa_cons pe_int pa_nil)))) (pe_op op_rep (pe_lst (pa_cons pe_int pa_nil)) pe_int)) pe_int) pa_nil))))
      (pss_cons (ps_set (i := 3) scPool.nd rfl (Or.inl rfl) (pe_lst pa_nil))
      (pss_cons (ps_for PassesOwn.never rfl (pi_range1 (by rfl) T.range (pa_cons pe_int pa_nil)) (pg_name (i := 4) scPool.nd rfl (Or.inl rfl))
        (pss_cons (ps_set (i := 5) scPool.nd rfl (Or.inl rfl) (pe_slice sl_list (pv 2) (po_some (pe_op op_mul pe_int (pv 4))) (po_some (pe_op op_add (pe_op op_mul pe_int (pv 4)) pe_int))))
        (pss_one (ps_if (pt_cmpR op_eq (pe_ix ix_list (pv 5) pe_int fun _ _ => rfl) pe_int (nomark _))
          (pss_one (ps_expr (pe_bm PySem.F.plainAttrs_list PySem.F.slot_list_append PySem.F.type_list_append mt_append (pv 3) (pa_cons (pe_ix ix_list (pv 1) (pe_ix ix_list (pv 5) pe_int fun _ _ => rfl) fun _ _ => rfl) pa_nil))))
          (pss_one (ps_expr (pe_bm PySem.F.plainAttrs_list PySem.F.slot_list_append PySem.F.type_list_append mt_append (pv 3) (pa_cons (pe_got GS hr (by rfl) (pa_cons (pe_slice sl_list (pv 5) (po_some pe_int) po_none) pa_nil)) pa_nil))))))))
      (pss_one (ps_ret (pv 3)))))), ?_⟩
    refine ⟨by decide, fun lw hw => ?_⟩
    refine ⟨_, rfl, by decide, fun l1 hl1 => ?_⟩
    refine ⟨by decide, fun l2 hl2 => ?_⟩
    refine ⟨l2, 8, _, rfl, rfl, upd_same, by decide, by decide, by decide, fun l3 hl3 => ?_⟩
    refine ⟨l1, l3, _, _, rfl, rfl, same_new hl3 _ _ (same_new hl2 _ _ upd_same), upd_same, by decide, fun l4 hl4 => ?_⟩
    refine ⟨l4, 5, _, rfl, rfl, upd_same, by decide, by decide, by decide, fun l5 hl5 => ?_⟩
    refine ⟨c, l5, poolSizes, rfl, SqL.of upd_same, by decide, by decide, fun row p H1 dg hp s1 hrow => ?_⟩
    have sW := same_new (o := .lst (words12.map V.str)) hw
    have sB : Same (upd H lw (.lst (words12.map V.str))) H1 := (((((same_new hl1).trans (same_new hl2)).trans (same_new hl3)).trans (same_new hl4)).trans (same_new hl5)).trans s1
    have hwords : H1 lw = some (.lst (words12.map V.str)) := sB _ _ upd_same
    have sA : Same H H1 := sW.trans sB
    clear s1 hl1 hl2 hl3 hl4 hl5 hp sW sB
    have len55 : row.length = 55 := dg.1
    refine ⟨Nat.zero_le _, fun q hq => ?_⟩
    have hqH : H q = none := sA.free hq
    refine ⟨5, rfl, by decide, by decide, for_range (lo := 0) (n := 5) (fun i σ H' => Same H1 H' ∧ ∃ (v v2 : Option V) (xs : List PySem.Str), σ = [some (.int c), some (.ref lw), some (.ref p), some (.ref q), v, v2] ∧ H' q = some (.lst (xs.map V.str)) ∧ xs.length = i ∧ ∀ x ∈ xs, symB x = true)
      ⟨same_new hq, none, none, [], rfl, upd_same, rfl, fun x m => absurd m List.not_mem_nil⟩ ?_ ?_⟩
    · rintro i σ H2 hi ⟨s2, v, v2, xs, rfl, hq2, lx, ok⟩
      have hrow2 := s2 _ _ hrow
      refine ⟨_, rfl, _, rfl, _, _, rfl, rfl, .inl (by decide), _, rfl, _, rfl, _, _, rfl, rfl, .inl (by decide), _, _, rfl, rfl, _, rfl, p, _, rfl, SqL.of hrow2, fun u hu => ?_⟩
      have ea : (11 : Int) * (0 + (i : Int)) = ((11 * i : Nat) : Int) := by omega
      have eb : (11 : Int) * (0 + (i : Int)) + 11 = ((11 * i + 11 : Nat) : Int) := by omega
      rw [eb, ea, cut_in (row := row) (a := 11 * i) (b := 11 * i + 11) (by omega) (by omega), show 11 * i + 11 - 11 * i = 11 by omega]
      generalize hp : (row.drop (11 * i)).take 11 = part
      have pAt : ∀ j, j < 11 → part[j]? = row[11 * i + j]? := fun j hj => by
        rw [← hp, List.getElem?_take_of_lt hj, List.getElem?_drop]
      have dig : ∀ (j : Nat) (t : Int), j < 11 → poolOne[j]? = some t → ∃ d : Nat, part[j]? = some (d : Int) ∧ (d : Int) < t := fun j t hj e => by
        obtain ⟨d, e1, e2, e3⟩ := dg.2 (11 * i + j) t (by rw [poolSizes_at hi hj]; exact e)
        exact ⟨d.toNat, by rw [pAt j hj, e1, Int.toNat_of_nonneg e2], by rw [Int.toNat_of_nonneg e2]; exact e3⟩
      have lp : part.length = 11 := by
        rw [← hp, List.length_take, List.length_drop]
        omega
      obtain ⟨d0, e0, b0⟩ := dig 0 3 (by decide) rfl
      obtain ⟨d1, e1, b1⟩ := dig 1 12 (by decide) rfl
      have partAt : ∀ {j : Nat} {d : Nat}, part[j]? = some (d : Int) → atI (part.map V.int) (j : Int) = some (V.int d) := fun {j d} e => atI_nat (by rw [List.getElem?_map, e]; rfl)
      have sU : Same H2 (upd H2 u (.lst (part.map V.int))) := same_new hu
      have uq : q ≠ u := ne_of_none hq2 hu
      refine ⟨_, rfl, u, _, _, _, rfl, rfl, SqL.of upd_same, partAt (j := 0) e0, rfl, _, rfl, ?_⟩
      refine ite2 (fun _ => ?_) (fun _ => ?_)
      · obtain ⟨y, ey, oky⟩ := words_ok (i := d1) (by omega)
        refine ⟨_, rfl, .inl ⟨rfl, _, SqL.of (sU _ _ hq2)⟩, _, rfl, _, rfl, u, _, _, _, rfl, rfl, SqL.of upd_same, partAt (j := 1) e1, lw, _, _, _, rfl, rfl, SqL.of (sU _ _ (s2 _ _ hwords)), atI_nat (j := d1) (by rw [List.getElem?_map, ey]; rfl), q, _, _, rfl, rfl, sU _ _ hq2, ?_, ?_⟩
        · rw [List.length_map]
          exact Nat.lt_of_le_of_lt (show xs.length ≤ 5 by omega) (by decide)
        · refine ⟨same_mut (s2.trans sU) hq, _, _, xs ++ [y], rfl, ?_, by rw [List.length_append, lx]; rfl, fun x m => ?_⟩
          · rw [upd_same, List.map_append] <;> rfl
          · rcases List.mem_append.mp m with m | m
            · exact ok x m
            · rw [List.mem_singleton.mp m]; exact oky
      · refine ⟨_, rfl, .inl ⟨rfl, _, SqL.of (sU _ _ hq2)⟩, _, rfl, 2, rfl, u, _, rfl, SqL.of upd_same, fun r hr2 => ?_⟩
        have e2 : cutV (part.map V.int) (some 2) none = (part.drop 2).map V.int := cut_from (row := part) (a := 2) (by omega)
        rw [e2]
        have rowS : SymRow (part.drop 2) := by
          refine ⟨?_, fun j j1 j8 => ?_, by rw [List.length_drop]; omega⟩
          · obtain ⟨d, e, b⟩ := dig 2 8 (by decide) rfl
            exact ⟨d, by rw [List.getElem?_drop]; exact e, by omega⟩
          · have all : ∀ j, 1 ≤ j → j ≤ 8 → poolOne[2 + j]? = some 62 := by
              intro j h1 h8
              have z : ∀ j, j < 9 → 1 ≤ j → poolOne[2 + j]? = some 62 := by decide
              exact z j (by omega) h1
            obtain ⟨d, e, b⟩ := dig (2 + j) 62 (by omega) (all j j1 j8)
            exact ⟨d, by rw [List.getElem?_drop]; exact e, by omega⟩
        refine ⟨r, part.drop 2, rfl, SqL.of upd_same, rowS, fun y H3 oky s3 => ?_⟩
        have sC := (sU.trans (same_new (o := .lst ((part.drop 2).map V.int)) hr2)).trans s3
        refine ⟨q, _, _, rfl, rfl, sC _ _ hq2, ?_, ?_⟩
        · rw [List.length_map]
          exact Nat.lt_of_le_of_lt (show xs.length ≤ 5 by omega) (by decide)
        · refine ⟨same_mut (s2.trans sC) hq, _, _, xs ++ [y], rfl, ?_, by rw [List.length_append, lx]; rfl, fun x m => ?_⟩
          · rw [upd_same, List.map_append] <;> rfl
          · rcases List.mem_append.mp m with m | m
            · exact ok x m
            · rw [List.mem_singleton.mp m]; exact oky
    · rintro σ H2 ⟨s2, v, v2, xs, rfl, hq2, lx, ok⟩
      exact ⟨_, rfl, k q H2 xs lx ok (sA.trans s2) hqH hq2⟩
end
end Mk
set_option Elab.async false
set_option maxRecDepth 100000
set_option maxHeartbeats 4000000
namespace Mk
open PySem L2 Pk
theorem seq_split {t u : TS} {D : Ends} {σ : L2.St} {H : Hp} (Good : L2.St → Hp → Prop) (g : ∀ σ' H', Good σ' H' → u D σ' H') (h : (∀ σ' H', Good σ' H' → u D σ' H') → t { D with nx := u D } σ H) : tSeq t u D σ H := h g
theorem seq_const {v : V} {i : Nat} {u : TS} {D : Ends} {σ : L2.St} {H : Hp} (h : u D (σ.set i (some v)) H) : tSeq (tAsg (tC v) (gName i)) u D σ H := h
/-- rules that stand -/
structure Drawn (H : Hp) (l : PySem.Str) (n : Int) (B : Kept) : Prop where
  at_ : KeptAt H B
  ok : ∀ p ∈ B, RlOk l n p.2
  few : B.length ≤ 50
section
variable {P : Program} {w : World} {K : PySem.W.Frag} {mg : PySem.Str → Option Value} {base : Heap}
def spLRule : Sp := fun vs H Q _ => ∃ (c : Int) (l : PySem.Str) (n : Int) (pp pb : Addr) (xs : List PySem.Str) (B : Kept), vs = [.int c, .str l, .int n, .ref pp, .ref pb] ∧ Alpha l ∧ 1 ≤ n ∧ n ≤ 2000 ∧ H pp = some (.lst (xs.map V.str)) ∧ xs.length = 5 ∧ (∀ x ∈ xs, symB x = true) ∧
  H pb = some (.lst (refsK B)) ∧ Drawn H l n B ∧ ∀ (q : Addr) (r : Rl) (H' : Hp), RlOk l n r → H' q = some (.tup r.vs) → Same H H' → Q (.ref q) H'
abbrev nLRule : List PySem.Str := ["cell", "letters", "states", "pool", "before", "row", "signs", "own", "key", "earlier", "move", "deed", "symbol", "said", "letter", "digit"]
theorem scLRule : FnScope nLRule ["cell", "letters", "states", "pool", "before"] (defScope sLRule) := ⟨rfl, rfl, rfl, by decide +kernel, rfl, by decide +kernel, by decide +kernel⟩
abbrev ruleSizes : List Int := [6, 997, 28, 8, 2000, 2000, 3, 4, 7, 4, 26, 26, 26, 8] ++ List.replicate 8 62
theorem ok_lrule {f : Addr} {fd : FuncData} (F : Fun K "_law_rule" "_law_rule" sLRule f fd) (T : TM mg) (G : Got P w K mg base "_law_digits" 1 ["cell", "sizes"] (spDigits K)) (GS : Got P w K mg base "_law_symbol" 1 ["row"] (spSym K)) :
    FnOk P w K mg base CX0 2 f fd ["cell", "letters", "states", "pool", "before"] spLRule := by
  refine F.ok scLRule (fun vs H Q E h => ?_) (fun cdv A outer s H vs Q E hr h => ?_)
  · obtain ⟨c, l, n, pp, pb, xs, B, rfl, _⟩ := h
    rfl
  · obtain ⟨c, l, n, pp, pb, xs, B, rfl, al, n1, n2, hpool, lx, okx, hbef, hB, k⟩ := h
    have nd := scLRule.nd
    refine ⟨_, pss_cons (ps_set (i := 5) nd rfl (Or.inl rfl) (pe_got G hr (by rfl) (pa_cons (pv 0) (pa_cons (pe_op op_cat (pe_lst (pa_cons pe_int (pa_cons pe_int (pa_cons pe_int (pa_cons pe_int (pa_cons pe_int (pa_cons pe_int (pa_cons pe_int (pa_cons pe_int (pa_cons pe_int (pa_cons pe_int (pa_cons pe_int (pa_cons pe_int (pa_cons pe_int (pa_cons pe_int pa_nil))))))))))))))) (pe_op op_rep (pe_lst (pa_cons pe_int pa_nil)) pe_int)) pa_nil))))
      (pss_cons (ps_set (i := 6) nd rfl (Or.inl rfl) (pe_op op_cat (pe_lst (pa_cons pe_str (pa_cons pe_str pa_nil))) (pe_lc (own := [("letter", 14)]) (g := gName 14) (tt := tYes) (by rfl) nd (pi_str (pv 1))
          (blkOk_by (own := [("letter", 14)]) (N := nLRule) (sc := defScope sLRule) (by decide +kernel)) (fun _ _ _ _ _ => pg_name (i := 14) nd rfl (Or.inl rfl)) (fun _ _ _ _ _ => pts_nil) (fun _ _ _ _ _ => pv 14))))
      (pss_cons (ps_set (i := 7) nd rfl (Or.inl rfl) (pe_got GS hr (by rfl) (pa_cons (pe_slice sl_list (pv 5) (po_some pe_int) po_none) pa_nil)))
      (pss_cons (ps_set (i := 8) nd rfl (Or.inl rfl) (pe_tup (pa_cons (pe_op op_mod (pe_callTy call_int1 (by rfl) T.int PyProof.Rows.Boot.int (pa_cons (pe_ix ix_list (pv 5) pe_int fun _ _ => rfl) pa_nil)) (pv 2))
          (pa_cons (pe_ix ix_list (pv 6) (pe_op op_mod (pe_callTy call_int1 (by rfl) T.int PyProof.Rows.Boot.int (pa_cons (pe_ix ix_list (pv 5) pe_int fun _ _ => rfl) pa_nil)) (pe_callB call_len_seq (by rfl) T.len PySem.boot_len (pa_cons (pv 6) pa_nil))) fun _ _ => rfl)
          (pa_cons (pe_ix ix_list (pe_op op_cat (pe_op op_cat (pe_lst (pa_cons pe_str (pa_cons pe_str pa_nil))) (pv 3)) (pe_lst (pa_cons (pv 7) pa_nil))) (pe_ix ix_list (pv 5) pe_int fun _ _ => rfl) fun _ _ => rfl) pa_nil)))))
      (pss_cons (ps_if (PW.pt (pw_and (pt_cmpR op_lt (pe_ix ix_list (pv 5) pe_int fun _ _ => rfl) pe_int (nomark _)) (pw_and1 (pt_cmpR op_gt (pe_callB call_len_seq (by rfl) T.len PySem.boot_len (pa_cons (pv 4) pa_nil)) pe_int (nomark _)))))
          (pss_cons (ps_set (i := 9) nd rfl (Or.inl rfl) (pe_ix ix_list (pv 4) (pe_op op_mod (pe_callTy call_int1 (by rfl) T.int PyProof.Rows.Boot.int (pa_cons (pe_ix ix_list (pv 5) pe_int fun _ _ => rfl) pa_nil)) (pe_callB call_len_seq (by rfl) T.len PySem.boot_len (pa_cons (pv 4) pa_nil))) fun _ _ => rfl))
          (pss_cons (ps_if (pt_cmpR op_eq (pe_ix ix_list (pv 5) pe_int fun _ _ => rfl) pe_int (nomark _)) (pss_one (ps_ret (pv 9))) pss_nil)
          (pss_one (ps_set (i := 8) nd rfl (Or.inl rfl) (pe_slice sl_tup (pv 9) po_none (po_some pe_int)))))) pss_nil)
      (pss_cons (ps_set (i := 10) nd rfl (Or.inl rfl) (pe_op op_sub (pe_ix ix_list (pv 5) pe_int fun _ _ => rfl) pe_int))
      (pss_cons (ps_if (pt_cmpR op_eq (pe_ix ix_tup (pv 8) pe_int fun _ _ => rfl) pe_str (nomark _)) (pss_one (ps_set (i := 10) nd rfl (Or.inl rfl) (pe_callB call_abs (by rfl) T.abs (by decide +kernel) (pa_cons (pv 10) pa_nil)))) pss_nil)
      (pss_cons (ps_if (pt_cmpR op_eq (pe_ix ix_tup (pv 8) pe_int fun _ _ => rfl) pe_str (nomark _)) (pss_one (ps_set (i := 10) nd rfl (Or.inl rfl) (pe_un un_neg (pe_callB call_abs (by rfl) T.abs (by decide +kernel) (pa_cons (pv 10) pa_nil))))) pss_nil)
      (pss_cons (ps_set (i := 11) nd rfl (Or.inl rfl) (pe_ix ix_list (pe_lst (pa_cons pe_str (pa_cons pe_str (pa_cons pe_str (pa_cons pe_str pa_nil))))) (pe_ix ix_list (pv 5) pe_int fun _ _ => rfl) fun _ _ => rfl))
      (pss_cons (ps_if (pt_cmpR op_eq (pe_ix ix_tup (pv 8) pe_int fun _ _ => rfl) pe_str (nomark _)) (pss_one (ps_set (i := 11) nd rfl (Or.inl rfl) (pe_ix ix_list (pe_lst (pa_cons pe_str (pa_cons pe_str (pa_cons pe_str (pa_cons pe_str pa_nil))))) (pe_ix ix_list (pv 5) pe_int fun _ _ => rfl) fun _ _ => rfl))) pss_nil)
      (pss_cons (ps_set (i := 12) nd rfl (Or.inl rfl) pe_str)
      (pss_cons (ps_if (PW.pt (pw_or (pt_cmpR op_eq (pv 11) pe_str (nomark _)) (pw_or1 (pt_cmpR op_eq (pv 11) pe_str (nomark _))))) (pss_one (ps_set (i := 12) nd rfl (Or.inl rfl) (pe_ix ix_list (pe_op op_cat (pv 3) (pe_lst (pa_cons (pv 7) (pa_cons (pv 7) pa_nil)))) (pe_ix ix_list (pv 5) pe_int fun _ _ => rfl) fun _ _ => rfl))) pss_nil)
      (pss_cons (ps_set (i := 13) nd rfl (Or.inl rfl) (pe_join pe_str (pe_lc (own := [("digit", 15)]) (g := gName 15) (tt := tYes) (by rfl) nd (pi_list (pe_slice sl_list (pv 5) (po_some pe_int) (po_some (pe_op op_add pe_int (pe_ix ix_list (pv 5) pe_int fun _ _ => rfl)))))
          (blkOk_by (own := [("digit", 15)]) (N := nLRule) (sc := defScope sLRule) (by decide +kernel)) (fun _ _ _ _ _ => pg_name (i := 15) nd rfl (Or.inl rfl)) (fun _ _ _ _ _ => pts_nil) (fun _ _ _ _ _ => pe_ix ix_str pe_str (pv 15) fun _ _ => rfl))))
      (pss_one (ps_ret (pe_op op_catT (pv 8) (pe_tup (pa_cons (pe_op op_mod (pe_callTy call_int1 (by rfl) T.int PyProof.Rows.Boot.int (pa_cons (pe_ix ix_list (pv 5) pe_int fun _ _ => rfl) pa_nil)) (pv 2)) (pa_cons (pv 10) (pa_cons (pv 11) (pa_cons (pv 12) (pa_cons (pv 13) pa_nil))))))))))))))))))))), ?_⟩
    refine ⟨_, rfl, by decide, fun l1 hl1 => ?_⟩
    refine ⟨by decide, fun l2 hl2 => ?_⟩
    refine ⟨l2, 8, _, rfl, rfl, upd_same, by decide, by decide, by decide, fun l3 hl3 => ?_⟩
    refine ⟨l1, l3, _, _, rfl, rfl, same_new hl3 _ _ (same_new hl2 _ _ upd_same), upd_same, by decide, fun l4 hl4 => ?_⟩
    refine ⟨c, l4, ruleSizes, rfl, SqL.of upd_same, by decide, by decide, fun row p H1 dg hp s1 hrow => ?_⟩
    have sA : Same H H1 := ((((same_new hl1).trans (same_new hl2)).trans (same_new hl3)).trans (same_new hl4)).trans s1
    clear s1 hl1 hl2 hl3 hl4 hp
    have len22 : row.length = 22 := dg.1
    have dig : ∀ (j : Nat) (t : Int), ruleSizes[j]? = some t → ∃ d : Nat, row[j]? = some (d : Int) ∧ (d : Int) < t := fun j t e => by
      obtain ⟨d, e1, e2, e3⟩ := dg.2 j t e
      exact ⟨d.toNat, by rw [e1, Int.toNat_of_nonneg e2], by rw [Int.toNat_of_nonneg e2]; exact e3⟩
    have rowAt : ∀ {j : Nat} {d : Nat}, row[j]? = some (d : Int) → atI (row.map V.int) (j : Int) = some (V.int d) := fun {j d} e => atI_nat (by rw [List.getElem?_map, e]; rfl)
    obtain ⟨d0, e0, b0⟩ := dig 0 6 rfl
    obtain ⟨d1, e1, b1⟩ := dig 1 997 rfl
    obtain ⟨d2, e2, b2⟩ := dig 2 28 rfl
    obtain ⟨d3, e3, b3⟩ := dig 3 8 rfl
    obtain ⟨d4, e4, b4⟩ := dig 4 2000 rfl
    obtain ⟨d5, e5, b5⟩ := dig 5 2000 rfl
    obtain ⟨d6, e6, b6⟩ := dig 6 3 rfl
    obtain ⟨d7, e7, b7⟩ := dig 7 4 rfl
    obtain ⟨d8, e8, b8⟩ := dig 8 7 rfl
    obtain ⟨d9, e9, b9⟩ := dig 9 4 rfl
    -- signs
    refine ⟨by decide, fun la ha => ?_⟩
    refine ⟨_, rfl, l, rfl, fun D hD => lc_it walk_str (fun i H' => Same (upd H1 la (.lst [.str lt0, .str gt0])) H' ∧ H' D = some (.lst (((l.cps.toList.take i).map sgn1).map V.str)))
      ⟨same_new hD, upd_same⟩ (fun _ _ _ _ => trivial) ?_ ?_⟩
    · rintro i y H2 H3 hi ⟨s2, hD2⟩ ⟨rfl, c0, hc0, rfl⟩
      have hc1 : l.cps.toList[i]? = some c0 := by rw [Array.getElem?_toList]; exact hc0
      refine ⟨rfl, ?_⟩
      refine ⟨_, rfl, _, hD2, ?_, same_mut s2 hD, ?_⟩
      · rw [List.length_map, List.length_map, List.length_take, Array.length_toList]
        have q : l.cps.size ≤ 26 := al.most
        exact Nat.lt_of_le_of_lt (Nat.le_trans (Nat.min_le_right _ _) q) (by decide)
      · rw [upd_same, take_at hc1, List.map_append, List.map_append]
        rfl
    rintro H2 ⟨s2, hD2⟩
    have full : l.cps.toList.take l.cps.size = l.cps.toList := List.take_of_length_le (by rw [Array.length_toList]; exact Nat.le_refl _)
    rw [full] at hD2
    refine ⟨la, D, _, _, rfl, rfl, s2 _ _ upd_same, hD2, ?_, fun ls hls => ?_⟩
    · rw [List.length_map, List.length_map, Array.length_toList]
      have q : l.cps.size ≤ 26 := al.most
      exact Nat.le_trans (Nat.add_le_add_left q _) (by decide)
    have s12 : Same H1 (upd H2 ls (.lst (([lt0, gt0] ++ l.cps.toList.map sgn1).map V.str))) := ((same_new ha).trans s2).trans (same_new hls)
    have eSL : ([V.str lt0, V.str gt0] ++ (l.cps.toList.map sgn1).map V.str) = ([lt0, gt0] ++ l.cps.toList.map sgn1).map V.str := by rw [List.map_append] <;> rfl
    have hSL : (upd H2 ls (.lst (([lt0, gt0] ++ l.cps.toList.map sgn1).map V.str))) ls = some (.lst (([lt0, gt0] ++ l.cps.toList.map sgn1).map V.str)) := upd_same
    rw [show ([V.str (PySem.Str.ofString "<"), V.str (PySem.Str.ofString ">")] ++ (l.cps.toList.map sgn1).map V.str) = ([lt0, gt0] ++ l.cps.toList.map sgn1).map V.str from eSL]
    generalize upd H2 ls (.lst (([lt0, gt0] ++ l.cps.toList.map sgn1).map V.str)) = H3 at s12 hSL ⊢
    have sB := sA.trans s12
    -- own
    refine ⟨_, rfl, 13, rfl, p, _, rfl, SqL.of (s12 _ _ hrow), fun u hu => ?_⟩
    have e13 : cutV (row.map V.int) (some 13) none = (row.drop 13).map V.int := cut_from (row := row) (a := 13) (by omega)
    rw [e13]
    have rowS : SymRow (row.drop 13) := by
      refine ⟨?_, fun j j1 j8 => ?_, by rw [List.length_drop]; omega⟩
      · obtain ⟨d, e, b⟩ := dig 13 8 rfl
        exact ⟨d, by rw [List.getElem?_drop]; exact e, by omega⟩
      · have all : ∀ j, j < 9 → 1 ≤ j → ruleSizes[13 + j]? = some 62 := by decide
        obtain ⟨d, e, b⟩ := dig (13 + j) 62 (all j (by omega) j1)
        exact ⟨d, by rw [List.getElem?_drop]; exact e, by omega⟩
    refine ⟨u, row.drop 13, rfl, SqL.of upd_same, rowS, fun own H4 okO s4 => ?_⟩
    have s34 : Same H3 H4 := (same_new hu).trans s4
    have sC := sB.trans s34
    have hrow4 := s34 _ _ (s12 _ _ hrow)
    have hSL4 := s34 _ _ hSL
    have hpool4 := sC _ _ hpool
    have hbef4 := sC _ _ hbef
    clear hu s4
    generalize hSLd : ([lt0, gt0] ++ l.cps.toList.map sgn1) = SL at hSL4
    have okSL : ∀ x ∈ SL, Sgn l x := by
      intro x m
      rw [← hSLd] at m
      rcases List.mem_append.mp m with m | m
      · rcases List.mem_cons.mp m with e | m
        · exact ⟨60, by rw [e]; decide +kernel, .inl rfl⟩
        · exact ⟨62, by rw [List.mem_singleton.mp m]; decide +kernel, .inr (.inl rfl)⟩
      · obtain ⟨c0, m0, rfl⟩ := List.mem_map.mp m
        exact ⟨c0, rfl, .inr (.inr m0)⟩
    have posSL : 0 < SL.length := by rw [← hSLd]; simp
    -- key
    refine ⟨_, rfl, _, _, _, _, rfl, rfl, SqL.of hrow4, rowAt (j := 4) e4, .inl ⟨_, rfl, _, rfl, _, _, rfl, rfl, by omega, ?_⟩⟩
    have lt2 : d2 % SL.length < SL.length := Nat.mod_lt _ posSL
    have at2 : (SL.map V.str)[d2 % SL.length]? = some (V.str SL[d2 % SL.length]) := by rw [List.getElem?_map, List.getElem?_eq_getElem lt2] <;> rfl
    have sgOk : Sgn l SL[d2 % SL.length] := okSL _ (List.getElem_mem lt2)
    generalize SL[d2 % SL.length] = sg0 at at2 sgOk
    have e2i : (d2 : Int) % (((SL.map V.str).length : Nat) : Int) = ((d2 % SL.length : Nat) : Int) := by rw [List.length_map]; omega
    have posI : (0 : Int) < (((SL.map V.str).length : Nat) : Int) := by rw [List.length_map]; omega
    refine ⟨_, rfl, _, rfl, _, _, _, _, rfl, rfl, SqL.of hrow4, rowAt (j := 2) e2, .inl ⟨_, rfl, _, rfl, ls, _, rfl, .inl (SqL.of hSL4), _, _, rfl, rfl, posI, ls, _, _, _, rfl, rfl, SqL.of hSL4, by rw [e2i]; exact atI_nat at2, ?_⟩⟩
    -- the tops
    refine ⟨by decide, fun a1 h1 => ?_⟩
    refine ⟨_, rfl, a1, pp, _, _, rfl, rfl, upd_same, same_new h1 _ _ hpool4, by rw [List.length_map, lx]; decide, fun a2 h2 => ?_⟩
    refine ⟨_, rfl, show 1 ≤ sizeLine by decide, fun a3 h3 => ?_⟩
    refine ⟨a2, a3, _, _, rfl, rfl, same_new h3 _ _ upd_same, upd_same, by rw [List.length_append, List.length_map, lx]; exact (show 2 + 5 + 1 ≤ sizeLine by decide), fun a4 h4 => ?_⟩
    have s4d : Same H4 (upd (upd (upd (upd H4 a1 (.lst [V.str nil0, V.str nil0])) a2 (.lst ([V.str nil0, V.str nil0] ++ xs.map V.str))) a3 (.lst [V.str own])) a4 (.lst (([V.str nil0, V.str nil0] ++ xs.map V.str) ++ [V.str own]))) := (((same_new h1).trans (same_new h2)).trans (same_new h3)).trans (same_new h4)
    have eTL : (([V.str nil0, V.str nil0] ++ xs.map V.str) ++ [V.str own]) = ([nil0, nil0] ++ xs ++ [own]).map V.str := by rw [List.map_append, List.map_append] <;> rfl
    have hTL : (upd (upd (upd (upd H4 a1 (.lst [V.str nil0, V.str nil0])) a2 (.lst ([V.str nil0, V.str nil0] ++ xs.map V.str))) a3 (.lst [V.str own])) a4 (.lst (([V.str nil0, V.str nil0] ++ xs.map V.str) ++ [V.str own]))) a4 = some (.lst (([nil0, nil0] ++ xs ++ [own]).map V.str)) := by rw [upd_same, eTL]
    show (tOp (rIxL K) (tVar 5) (tC (V.int 3))) _ (upd (upd (upd (upd H4 a1 (.lst [V.str nil0, V.str nil0])) a2 (.lst ([V.str nil0, V.str nil0] ++ xs.map V.str))) a3 (.lst [V.str own])) a4 (.lst (([V.str nil0, V.str nil0] ++ xs.map V.str) ++ [V.str own]))) _
    generalize upd (upd (upd (upd H4 a1 (.lst [V.str nil0, V.str nil0])) a2 (.lst ([V.str nil0, V.str nil0] ++ xs.map V.str))) a3 (.lst [V.str own])) a4 (.lst (([V.str nil0, V.str nil0] ++ xs.map V.str) ++ [V.str own])) = H5 at s4d hTL ⊢
    clear h1 h2 h3 h4
    have lTL : ([nil0, nil0] ++ xs ++ [own]).length = 8 := by rw [List.length_append, List.length_append, lx] <;> rfl
    have lt3 : d3 < ([nil0, nil0] ++ xs ++ [own]).length := by omega
    have at3 : (([nil0, nil0] ++ xs ++ [own]).map V.str)[d3]? = some (V.str ([nil0, nil0] ++ xs ++ [own])[d3]) := by rw [List.getElem?_map, List.getElem?_eq_getElem lt3] <;> rfl
    have tpOk : Top ([nil0, nil0] ++ xs ++ [own])[d3] := by
      have m := List.getElem_mem lt3
      rcases List.mem_append.mp m with m | m
      · rcases List.mem_append.mp m with m | m
        · rcases List.mem_cons.mp m with e | m
          · exact .inr e
          · exact .inr (List.mem_singleton.mp m)
        · exact .inl (okx _ m)
      · rw [List.mem_singleton.mp m]
        exact .inl okO
    generalize ([nil0, nil0] ++ xs ++ [own])[d3] = tp0 at at3 tpOk
    refine ⟨_, rfl, _, _, _, _, rfl, rfl, SqL.of (s4d _ _ hrow4), rowAt (j := 3) e3, a4, _, _, _, rfl, rfl, SqL.of hTL, atI_nat at3, show 3 ≤ sizeLine by decide, fun kq hkq => ?_⟩
    have s46 : Same H4 (upd H5 kq (.tup [.int ((d4 : Int) % n), .str sg0, .str tp0])) := s4d.trans (same_new hkq)
    have hkq6 : (upd H5 kq (.tup [.int ((d4 : Int) % n), .str sg0, .str tp0])) kq = some (.tup [.int ((d4 : Int) % n), .str sg0, .str tp0]) := upd_same
    dsimp only [gName]
    generalize upd H5 kq (.tup [.int ((d4 : Int) % n), .str sg0, .str tp0]) = H6 at s46 hkq6 ⊢
    have st0 : 0 ≤ (d4 : Int) % n ∧ (d4 : Int) % n ≤ n - 1 := ⟨Int.emod_nonneg _ (by omega), by have := Int.emod_lt_of_pos (d4 : Int) (show 0 < n by omega); omega⟩
    have hrow6 := s46 _ _ hrow4
    have hbef6 := s46 _ _ hbef4
    have sD := sC.trans s46
    refine seq_split (fun σ' H' => Same H6 H' ∧ ∃ (v9 : Option V) (kq : Addr) (st : Int) (sg tp : PySem.Str), σ' = [some (.int c), some (.str l), some (.int n), some (.ref pp), some (.ref pb), some (.ref p), some (.ref ls), some (.str own), some (.ref kq), v9, none, none, none, none, none, none] ∧
        H' kq = some (.tup [.int st, .str sg, .str tp]) ∧ (0 ≤ st ∧ st ≤ n - 1) ∧ Sgn l sg ∧ Top tp) ?_ (fun rest => ?_)
    rotate_left
    · have plain : ∀ {D : Ends}, D.nx = D.nx → True := fun _ => trivial
      refine ⟨_, rfl, _, _, _, _, rfl, rfl, SqL.of hrow6, rowAt (j := 0) e0, _, _, rfl, rfl, _, rfl, ?_⟩
      refine ite2 (fun _ => ?_) (fun _ => iteF (rest _ _ ⟨fun _ _ z => z, none, kq, _, sg0, tp0, rfl, hkq6, st0, sgOk, tpOk⟩))
      refine ⟨_, rfl, pb, _, rfl, .inl (SqL.of hbef6), _, _, rfl, rfl, _, rfl, ?_⟩
      refine ite2 (fun big => ?_) (fun _ => rest _ _ ⟨fun _ _ z => z, none, kq, _, sg0, tp0, rfl, hkq6, st0, sgOk, tpOk⟩)
      have posB : 0 < B.length := by
        have z := of_decide_eq_true big
        unfold refsK at z
        rw [List.length_map] at z
        omega
      have ltB : d1 % B.length < B.length := Nat.mod_lt _ posB
      have eB : (d1 : Int) % (((refsK B).length : Nat) : Int) = ((d1 % B.length : Nat) : Int) := by unfold refsK; rw [List.length_map]; omega
      have atB : (refsK B)[d1 % B.length]? = some (.ref B[d1 % B.length].1) := by unfold refsK; rw [List.getElem?_map, List.getElem?_eq_getElem ltB] <;> rfl
      have mB : B[d1 % B.length] ∈ B := List.getElem_mem ltB
      have okB := hB.ok _ mB
      have tupB := sD _ _ (hB.at_ _ mB)
      generalize B[d1 % B.length] = e at atB mB okB tupB
      have posBI : (0 : Int) < (((refsK B).length : Nat) : Int) := by unfold refsK; rw [List.length_map]; omega
      refine ⟨_, rfl, _, rfl, _, _, _, _, rfl, rfl, SqL.of hrow6, rowAt (j := 1) e1, .inl ⟨_, rfl, _, rfl, pb, _, rfl, .inl (SqL.of hbef6), _, _, rfl, rfl, posBI, pb, _, _, _, rfl, rfl, SqL.of hbef6, by rw [eB]; exact atI_nat atB, ?_⟩⟩
      refine ⟨_, rfl, _, _, _, _, rfl, rfl, SqL.of hrow6, rowAt (j := 0) e0, rfl, _, rfl, ?_⟩
      refine ite2 (fun _ => ?_) (fun _ => ?_)
      · exact ⟨_, rfl, k e.1 e.2 H6 okB tupB sD⟩
      · refine ⟨_, rfl, 3, rfl, e.1, e.2.vs, rfl, .inl (.inl tupB), (show ¬ (HT.sIx 8 0 none = 0 ∧ HT.sIx 8 8 (some 3) = 8) by decide), fun q3 h3 => ?_⟩
        exact rest _ _ ⟨same_new h3, _, q3, e.2.st, e.2.sg, e.2.tp, rfl, upd_same, okB.st, okB.sg, okB.tp⟩
    rintro σ H7 ⟨s7, v9, kq, st, sg, tp, rfl, hkq7, st7, sg7, tp7⟩
    have hrow7 := s7 _ _ hrow6
    have sE := sD.trans s7
    have same0 : Same H7 H7 := fun _ _ z => z
    -- move
    refine ⟨_, rfl, _, _, _, _, rfl, rfl, SqL.of hrow7, rowAt (j := 6) e6, _, _, rfl, rfl, ?_⟩
    dsimp only [gName]
    refine seq_split (fun σ' H' => H7 = H' ∧ ∃ m : Int, σ' = [some (.int c), some (.str l), some (.int n), some (.ref pp), some (.ref pb), some (.ref p), some (.ref ls), some (.str own), some (.ref kq), v9, some (.int m), none, none, none, none, none] ∧ -1 ≤ m ∧ m ≤ 1 ∧ (sg = lt0 → 0 ≤ m)) ?_ (fun rest => ?_)
    rotate_left
    · refine ⟨_, rfl, kq, _, _, _, rfl, rfl, .inl (.inl hkq7), rfl, rfl, _, rfl, ?_⟩
      rw [show decide (V.str sg = V.str (PySem.Str.ofString "<")) = decide (sg = lt0) from dec_str sg lt0]
      refine ite2 (fun e => ?_) (fun e => ?_)
      · refine ⟨_, rfl, _, rfl, ?_⟩
        refine rest _ _ ⟨rfl, _, rfl, ?_, ?_, fun _ => ?_⟩ <;> (split <;> omega)
      · exact rest _ _ ⟨rfl, _, rfl, by omega, by omega, fun z => absurd (decide_eq_true z) e⟩
    rintro σ H' ⟨rfl, m1, rfl, lo1, hi1, lm1⟩
    refine seq_split (fun σ' H' => H7 = H' ∧ ∃ m : Int, σ' = [some (.int c), some (.str l), some (.int n), some (.ref pp), some (.ref pb), some (.ref p), some (.ref ls), some (.str own), some (.ref kq), v9, some (.int m), none, none, none, none, none] ∧ Mv sg m) ?_ (fun rest => ?_)
    rotate_left
    · refine ⟨_, rfl, kq, _, _, _, rfl, rfl, .inl (.inl hkq7), rfl, rfl, _, rfl, ?_⟩
      rw [show decide (V.str sg = V.str (PySem.Str.ofString ">")) = decide (sg = gt0) from dec_str sg gt0]
      refine ite2 (fun e => ?_) (fun e => ?_)
      · have eg : sg = gt0 := of_decide_eq_true e
        refine ⟨_, rfl, _, rfl, _, rfl, ?_⟩
        have ab : 0 ≤ (if m1 < 0 then -m1 else m1) ∧ (if m1 < 0 then -m1 else m1) ≤ 1 := by split <;> omega
        refine rest _ _ ⟨rfl, _, rfl, by omega, by omega, fun z => ?_, fun _ => by omega⟩
        rw [eg] at z
        exact absurd z (by decide +kernel)
      · refine rest _ _ ⟨rfl, m1, rfl, lo1, hi1, fun z => ?_, fun z => absurd (decide_eq_true z) e⟩
        have := lm1 z
        omega
    rintro σ H' ⟨rfl, mv, rfl, mvOk⟩
    -- deed
    refine ⟨show 4 ≤ sizeLine by decide, fun a5 h5 => ?_⟩
    have at7 : ([V.str keep0, V.str pop0, V.str push0, V.str swap0])[d7]? = some (V.str ([keep0, pop0, push0, swap0].getD d7 keep0)) := by
      have all : ∀ j, j < 4 → ([V.str keep0, V.str pop0, V.str push0, V.str swap0])[j]? = some (V.str ([keep0, pop0, push0, swap0].getD j keep0)) := by
        intro j hj
        match j, hj with
        | 0, _ => rfl
        | 1, _ => rfl
        | 2, _ => rfl
        | 3, _ => rfl
      exact all d7 (by omega)
    have one7 : ∀ j, j < 4 → [keep0, pop0, push0, swap0].getD j keep0 = keep0 ∨ [keep0, pop0, push0, swap0].getD j keep0 = pop0 ∨ [keep0, pop0, push0, swap0].getD j keep0 = push0 ∨ [keep0, pop0, push0, swap0].getD j keep0 = swap0 := by
      intro j hj
      match j, hj with
      | 0, _ => exact .inl rfl
      | 1, _ => exact .inr (.inl rfl)
      | 2, _ => exact .inr (.inr (.inl rfl))
      | 3, _ => exact .inr (.inr (.inr rfl))
    have at7b : ([V.str keep0, V.str keep0, V.str push0, V.str push0])[d7]? = some (V.str ([keep0, keep0, push0, push0].getD d7 keep0)) := by
      have all : ∀ j, j < 4 → ([V.str keep0, V.str keep0, V.str push0, V.str push0])[j]? = some (V.str ([keep0, keep0, push0, push0].getD j keep0)) := by
        intro j hj
        match j, hj with
        | 0, _ => rfl
        | 1, _ => rfl
        | 2, _ => rfl
        | 3, _ => rfl
      exact all d7 (by omega)
    have two7 : ∀ j, j < 4 → [keep0, keep0, push0, push0].getD j keep0 = keep0 ∨ [keep0, keep0, push0, push0].getD j keep0 = push0 := by
      intro j hj
      match j, hj with
      | 0, _ => exact .inl rfl
      | 1, _ => exact .inl rfl
      | 2, _ => exact .inr rfl
      | 3, _ => exact .inr rfl
    have s8 : Same H7 (upd H7 a5 (.lst [V.str keep0, V.str pop0, V.str push0, V.str swap0])) := same_new h5
    refine ⟨_, rfl, _, _, _, _, rfl, rfl, SqL.of (s8 _ _ hrow7), rowAt (j := 7) e7, a5, _, _, _, rfl, rfl, SqL.of upd_same, atI_nat at7, ?_⟩
    dsimp only [gName]
    refine seq_split (fun σ' H' => Same H7 H' ∧ ∃ de : PySem.Str, σ' = [some (.int c), some (.str l), some (.int n), some (.ref pp), some (.ref pb), some (.ref p), some (.ref ls), some (.str own), some (.ref kq), v9, some (.int mv), some (.str de), none, none, none, none] ∧ (de = keep0 ∨ de = pop0 ∨ de = push0 ∨ de = swap0) ∧ (tp = nil0 → de = keep0 ∨ de = push0)) ?_ (fun rest => ?_)
    rotate_left
    · refine ⟨_, rfl, kq, _, _, _, rfl, rfl, .inl (.inl (s8 _ _ hkq7)), rfl, rfl, _, rfl, ?_⟩
      rw [show decide (V.str tp = V.str (PySem.Str.ofString "")) = decide (tp = nil0) from dec_str tp nil0]
      refine ite2 (fun e => ?_) (fun e => ?_)
      · refine ⟨show 4 ≤ sizeLine by decide, fun a6 h6 => ?_⟩
        have s9 := s8.trans (same_new (o := .lst [V.str keep0, V.str keep0, V.str push0, V.str push0]) h6)
        refine ⟨_, rfl, _, _, _, _, rfl, rfl, SqL.of (s9 _ _ hrow7), rowAt (j := 7) e7, a6, _, _, _, rfl, rfl, SqL.of upd_same, atI_nat at7b, ?_⟩
        refine rest _ _ ⟨s9, _, rfl, ?_, fun _ => two7 d7 (by omega)⟩
        rcases two7 d7 (by omega) with z | z
        · exact .inl z
        · exact .inr (.inr (.inl z))
      · exact rest _ _ ⟨s8, _, rfl, one7 d7 (by omega), fun z => absurd (decide_eq_true z) e⟩
    rintro σ H8 ⟨s8, de, rfl, deOne, deLow⟩
    have hpool8 := s8 _ _ (s7 _ _ (s46 _ _ hpool4))
    have hrow8 := s8 _ _ hrow7
    have hkq8 := s8 _ _ hkq7
    -- symbol
    refine seq_const ?_
    refine seq_split (fun σ' H' => Same H8 H' ∧ ∃ sy : PySem.Str, σ' = [some (.int c), some (.str l), some (.int n), some (.ref pp), some (.ref pb), some (.ref p), some (.ref ls), some (.str own), some (.ref kq), v9, some (.int mv), some (.str de), some (.str sy), none, none, none] ∧ (de = push0 ∨ de = swap0 → symB sy = true) ∧ (de = keep0 ∨ de = pop0 → sy = nil0)) ?_ (fun rest => ?_)
    rotate_left
    · have ep : decide (V.str de = V.str (PySem.Str.ofString "push")) = decide (de = push0) := dec_str de push0
      have es : decide (V.str de = V.str (PySem.Str.ofString "swap")) = decide (de = swap0) := dec_str de swap0
      have same8 : Same H8 H8 := fun _ _ z => z
      have lt8 : d8 < (xs ++ [own, own]).length := by rw [List.length_append, lx]; show d8 < 5 + 2; omega
      have sy8 : symB (xs ++ [own, own])[d8] = true := by
        have m := List.getElem_mem lt8
        rcases List.mem_append.mp m with m | m
        · exact okx _ m
        · rcases List.mem_cons.mp m with e | m
          · rw [e]; exact okO
          · rw [List.mem_singleton.mp m]; exact okO
      have at8 : (xs.map V.str ++ [V.str own, V.str own])[d8]? = some (V.str (xs ++ [own, own])[d8]) := by
        have e : xs.map V.str ++ [V.str own, V.str own] = (xs ++ [own, own]).map V.str := by rw [List.map_append] <;> rfl
        rw [e, List.getElem?_map, List.getElem?_eq_getElem lt8] <;> rfl
      generalize (xs ++ [own, own])[d8] = sy0 at sy8 at8
      refine ⟨_, rfl, rfl, _, rfl, ?_⟩
      rw [ep]
      refine ite2 (fun y => ?_) (fun y => ?_)
      · have yy := of_decide_eq_true y
        refine iteT ?_
        refine ⟨_, rfl, _, rfl, _, rfl, show 2 ≤ sizeLine by decide, fun a7 h7 => ?_⟩
        refine ⟨pp, a7, _, _, rfl, rfl, same_new h7 _ _ hpool8, upd_same, by rw [List.length_map, lx]; exact (show 5 + 2 ≤ sizeLine by decide), fun a8 h8 => ?_⟩
        have sN : Same H8 (upd (upd H8 a7 (.lst [V.str own, V.str own])) a8 (.lst (xs.map V.str ++ [V.str own, V.str own]))) := (same_new h7).trans (same_new h8)
        refine ⟨_, rfl, _, _, _, _, rfl, rfl, SqL.of (sN _ _ hrow8), rowAt (j := 8) e8, a8, _, _, _, rfl, rfl, SqL.of upd_same, atI_nat at8, ?_⟩
        refine rest _ _ ⟨sN, sy0, rfl, fun _ => sy8, fun z => ?_⟩
        rw [yy] at z
        exact absurd z (by decide +kernel)
      · refine ⟨_, rfl, rfl, _, rfl, ?_⟩
        rw [es]
        refine ite2 (fun y2 => ?_) (fun y2 => ?_)
        · have yy := of_decide_eq_true y2
          refine ⟨_, rfl, _, rfl, _, rfl, show 2 ≤ sizeLine by decide, fun a7 h7 => ?_⟩
          refine ⟨pp, a7, _, _, rfl, rfl, same_new h7 _ _ hpool8, upd_same, by rw [List.length_map, lx]; exact (show 5 + 2 ≤ sizeLine by decide), fun a8 h8 => ?_⟩
          have sN : Same H8 (upd (upd H8 a7 (.lst [V.str own, V.str own])) a8 (.lst (xs.map V.str ++ [V.str own, V.str own]))) := (same_new h7).trans (same_new h8)
          refine ⟨_, rfl, _, _, _, _, rfl, rfl, SqL.of (sN _ _ hrow8), rowAt (j := 8) e8, a8, _, _, _, rfl, rfl, SqL.of upd_same, atI_nat at8, ?_⟩
          refine rest _ _ ⟨sN, sy0, rfl, fun _ => sy8, fun z => ?_⟩
          rw [yy] at z
          exact absurd z (by decide +kernel)
        · exact rest _ _ ⟨same8, nil0, rfl, fun z => (z.elim (fun z => y (decide_eq_true z)) fun z => y2 (decide_eq_true z)).elim, fun _ => rfl⟩
    rintro σ H9 ⟨s9, sy, rfl, sySym, syNo⟩
    have hrow9 := s9 _ _ hrow8
    have hkq9 := s9 _ _ hkq8
    have sF : Same H H9 := (sE.trans s8).trans s9
    refine ⟨⟨_, rfl⟩, ?_⟩
    refine ⟨_, rfl, 10, rfl, _, rfl, p, _, _, _, rfl, rfl, SqL.of hrow9, rowAt (j := 9) e9, _, _, rfl, rfl, _, rfl, p, _, rfl, SqL.of hrow9, fun u hu => ?_⟩
    have cutE : cutV (row.map V.int) (some 10) (some (10 + (d9 : Int))) = ((row.drop 10).take d9).map V.int := by
      have z := cut_in (row := row) (a := 10) (b := 10 + d9) (by omega) (by omega)
      rw [show 10 + d9 - 10 = d9 by omega] at z
      rw [← z] <;> rfl
    rw [cutE]
    generalize hp : (row.drop 10).take d9 = part
    have lp : part.length = d9 := by
      rw [← hp, List.length_take, List.length_drop]
      omega
    have partAt : ∀ {j : Nat} {v : V}, (part.map V.int)[j]? = some v → ∃ d : Nat, v = .int (d : Int) ∧ d < 26 := fun {j v} e => by
      have lt : j < part.length := by
        have z := (List.getElem?_eq_some_iff.mp e).1
        rwa [List.length_map] at z
      have all : ∀ j, j < 3 → ruleSizes[10 + j]? = some 26 := by decide
      obtain ⟨d, e1, b⟩ := dig (10 + j) 26 (all j (by omega))
      have e2 : part[j]? = some (d : Int) := by rw [← hp, List.getElem?_take_of_lt (by omega), List.getElem?_drop, e1]
      rw [List.getElem?_map, e2] at e
      exact ⟨d, (Option.some.inj e).symm, by omega⟩
    refine ⟨u, rfl, ⟨_, SqL.of upd_same⟩, fun D hD => lc_list (K := K) (a := u) (xs := part.map V.int) (fun j H' => Same (upd H9 u (.lst (part.map V.int))) H' ∧ ∃ cs : List Nat, H' D = some (.lst ((cs.map sgn1).map V.str)) ∧ cs.length = j ∧ ∀ c ∈ cs, lowC c = true)
      ⟨same_new hD, [], upd_same, rfl, fun c m => absurd m List.not_mem_nil⟩ (fun j H' _ h => SqL.of (h.1 _ _ upd_same)) ?_ ?_⟩
    · rintro j y H10 hj ⟨s10, cs, hD1, lc, ok⟩
      obtain ⟨d, rfl, b⟩ := partAt hj
      have lt : j < part.length := by
        have z := (List.getElem?_eq_some_iff.mp hj).1
        rwa [List.length_map] at z
      refine ⟨rfl, ?_⟩
      refine ⟨_, rfl, abc26, _, 97 + d, rfl, rfl, by decide +kernel, atI_nat (abc26_at b), _, hD1, ?_, same_mut s10 hD, cs ++ [97 + d], ?_, ?_, ?_⟩
      · rw [List.length_map, List.length_map]
        exact Nat.lt_of_le_of_lt (show cs.length ≤ 8 by omega) (by decide)
      · rw [upd_same, List.map_append, List.map_append] <;> rfl
      · rw [List.length_append, lc] <;> rfl
      · intro c m
        rcases List.mem_append.mp m with m | m
        · exact ok c m
        · rw [List.mem_singleton.mp m]
          unfold lowC
          rw [decide_eq_true (by omega), decide_eq_true (by omega)] <;> rfl
    rintro H10 ⟨s10, cs, hD1, lc, ok⟩
    rw [List.length_map, lp] at lc
    refine ⟨_, D, _, rfl, rfl, .inl (SqL.of hD1), signs_short (by omega), ?_⟩
    have s910 : Same H9 H10 := (same_new hu).trans s10
    have hrow10 := s910 _ _ hrow9
    have hkq10 := s910 _ _ hkq9
    rw [join_signs]
    have st5 : 0 ≤ (d5 : Int) % n ∧ (d5 : Int) % n ≤ n - 1 := ⟨Int.emod_nonneg _ (by omega), by have := Int.emod_lt_of_pos (d5 : Int) (show 0 < n by omega); omega⟩
    refine ⟨_, rfl, _, rfl, _, _, _, _, rfl, rfl, SqL.of hrow10, rowAt (j := 5) e5, .inl ⟨_, rfl, _, rfl, _, _, rfl, rfl, by omega, _, rfl, _, rfl, _, rfl, _, rfl, show 5 ≤ sizeLine by decide, fun t ht => ?_⟩⟩
    have kt : kq ≠ t := fun e => by rw [← e, hkq10] at ht; cases ht
    refine ⟨kq, t, [.int st, .str sg, .str tp], _, rfl, rfl, .inl (.inl (by rw [upd_ne kt]; exact hkq10)), .inl (.inl upd_same), (fun z => nomatch z), show 3 + 5 ≤ sizeLine by decide, (fun z => nomatch z), fun _ q hq => ?_⟩
    refine k q ⟨st, sg, tp, (d5 : Int) % n, mv, de, sy, ⟨cs.toArray⟩⟩ _ ⟨st7, sg7, tp7, st5, mvOk, ⟨deOne, deLow, sySym, syNo⟩, ?_, ?_⟩ upd_same (((sF.trans s910).trans (same_new ht)).trans (same_new hq))
    · exact List.all_eq_true.mpr ok
    · show cs.length ≤ 3
      omega
end
end Mk
set_option Elab.async false
set_option maxRecDepth 100000
set_option maxHeartbeats 4000000
namespace Mk
open PySem L2 Pk
section
variable {P : Program} {w : World} {K : PySem.W.Frag} {mg : PySem.Str → Option Value} {base : Heap}
theorem Drawn.upd {H : Hp} {l : PySem.Str} {n : Int} {B : Kept} {q : Addr} {xs ys : List V} (h : Drawn H l n B) (hq : H q = some (.lst xs)) : Drawn (L2.upd H q (.lst ys)) l n B :=
  ⟨fun p m => by rw [upd_ne (ne_of (h.at_ p m) hq (fun z => nomatch z))]; exact h.at_ p m, h.ok, h.few⟩
theorem Drawn.mono {H H' : Hp} {l : PySem.Str} {n : Int} {B : Kept} (h : Drawn H l n B) (s : Same H H') : Drawn H' l n B := ⟨h.at_.mono s, h.ok, h.few⟩
def spLRules (K : PySem.W.Frag) : Sp := fun vs H Q _ => ∃ (sc : Addr) (ns : List Int) (at_ many : Nat) (l : PySem.Str) (n : Int) (pp : Addr) (xs : List PySem.Str), vs = [.ref sc, .int (at_ : Int), .int (many : Int), .str l, .int n, .ref pp] ∧ SqL K H sc (ns.map V.int) ∧ many ≤ 45 ∧
  Alpha l ∧ 1 ≤ n ∧ n ≤ 2000 ∧ H pp = some (.lst (xs.map V.str)) ∧ xs.length = 5 ∧ (∀ x ∈ xs, symB x = true) ∧
  ∀ (p : Addr) (B : Kept) (H' : Hp), B.length = many → Drawn H' l n B → Same H H' → H p = none → H' p = some (.lst (refsK B)) → Q (.ref p) H'
abbrev nLRules : List PySem.Str := ["script", "at", "many", "letters", "states", "pool", "rules", "k"]
theorem scLRules : FnScope nLRules ["script", "at", "many", "letters", "states", "pool"] (defScope sLRules) := ⟨rfl, rfl, rfl, by decide +kernel, rfl, by decide +kernel, by decide +kernel⟩
theorem ok_lrules {f : Addr} {fd : FuncData} (F : Fun K "_law_rules" "_law_rules" sLRules f fd) (T : TM mg) (GC : Got P w K mg base "_law_cell" 1 ["script", "k"] (spCellA K)) (GR : Got P w K mg base "_law_rule" 2 ["cell", "letters", "states", "pool", "before"] spLRule) :
    FnOk P w K mg base CX0 3 f fd ["script", "at", "many", "letters", "states", "pool"] (spLRules K) := by
  refine F.ok scLRules (fun vs H Q E h => ?_) (fun cdv A outer s H vs Q E hr h => ?_)
  · obtain ⟨sc, ns, at_, many, l, n, pp, xs, rfl, _⟩ := h
    rfl
  · obtain ⟨sc, ns, at_, many, l, n, pp, xs, rfl, hS, few, al, n1, n2, hpool, lx, okx, k⟩ := h
    have h1 := hr.mono (show 1 ≤ 2 by decide)
    refine ⟨_, pss_cons (ps_set (i := 6) scLRules.nd rfl (Or.inl rfl) (pe_lst pa_nil))
      (pss_cons (ps_for PassesOwn.never rfl (pi_range1 (by rfl) T.range (pa_cons (pv 2) pa_nil)) (pg_name (i := 7) scLRules.nd rfl (Or.inl rfl))
        (pss_one (ps_expr (pe_bm PySem.F.plainAttrs_list PySem.F.slot_list_append PySem.F.type_list_append mt_append (pv 6) (pa_cons (pe_got GR hr (by rfl) (pa_cons (pe_got GC h1 (by rfl) (pa_cons (pv 0) (pa_cons (pe_op op_add (pv 1) (pv 7)) pa_nil)))
          (pa_cons (pv 3) (pa_cons (pv 4) (pa_cons (pv 5) (pa_cons (pv 6) pa_nil)))))) pa_nil)))))
      (pss_one (ps_ret (pv 6)))), ?_⟩
    refine ⟨Nat.zero_le _, fun q hq => ?_⟩
    refine ⟨_, rfl, (many : Int), rfl, by omega, by omega, for_range (lo := 0) (n := ((many : Int)).toNat) (fun i σ H' => Same H H' ∧ ∃ (v : Option V) (B : Kept), σ = [some (.ref sc), some (.int (at_ : Int)), some (.int (many : Int)), some (.str l), some (.int n), some (.ref pp), some (.ref q), v] ∧ H' q = some (.lst (refsK B)) ∧ B.length = i ∧ Drawn H' l n B)
      ⟨same_new hq, none, [], rfl, upd_same, rfl, ⟨fun p m => absurd m List.not_mem_nil, fun p m => absurd m List.not_mem_nil, Nat.zero_le _⟩⟩ ?_ ?_⟩
    · rintro i σ H2 hi ⟨s2, v, B, rfl, hq2, lB, dB⟩
      have hi' : i < many := by omega
      refine ⟨_, rfl, .inl ⟨rfl, _, SqL.of hq2⟩, _, rfl, _, rfl, _, rfl, _, _, rfl, rfl, sc, ns, at_ + i, ?_, s2.seq hS, fun z => ?_⟩
      · show [V.ref sc, V.int ((at_ : Int) + (0 + (i : Int)))] = _
        rw [show (at_ : Int) + (0 + (i : Int)) = ((at_ + i : Nat) : Int) by omega]
      · refine ⟨_, rfl, _, rfl, _, rfl, _, rfl, z, l, n, pp, q, xs, B, rfl, al, n1, n2, s2 _ _ hpool, lx, okx, hq2, dB, fun t r H3 rok ht s3 => ?_⟩
        refine ⟨q, _, _, rfl, rfl, s3 _ _ hq2, ?_, same_mut (s2.trans s3) hq, _, B ++ [(t, r)], rfl, ?_, ?_, ?_⟩
        · unfold refsK
          rw [List.length_map]
          exact Nat.lt_of_le_of_lt (show B.length ≤ 50 by omega) (by decide)
        · rw [upd_same]
          unfold refsK
          rw [List.map_append] <;> rfl
        · rw [List.length_append, lB] <;> rfl
        · have d3 := (dB.mono s3).upd (ys := refsK B ++ [V.ref t]) (s3 _ _ hq2)
          refine ⟨fun p m => ?_, fun p m => ?_, ?_⟩
          · rcases List.mem_append.mp m with m | m
            · exact d3.at_ p m
            · rw [List.mem_singleton.mp m]
              rw [upd_ne (ne_of ht (s3 _ _ hq2) (fun z => nomatch z))]
              exact ht
          · rcases List.mem_append.mp m with m | m
            · exact d3.ok p m
            · rw [List.mem_singleton.mp m]; exact rok
          · rw [List.length_append, lB]
            show i + 1 ≤ 50
            omega
    · rintro σ H2 ⟨s2, v, B, rfl, hq2, lB, dB⟩
      exact ⟨_, rfl, k q B H2 (by omega) dB s2 hq hq2⟩
end
end Mk
set_option Elab.async false
set_option maxRecDepth 100000
set_option maxHeartbeats 4000000
namespace Mk
open PySem L2 Pk
section
variable {P : Program} {w : World} {K : PySem.W.Frag} {mg : PySem.Str → Option Value} {base : Heap}
/-! _law_yes -/
def spYes : Sp := fun vs H Q _ => ∃ c n : Int, vs = [.int c, .int n] ∧ 1 ≤ n ∧ n ≤ 2000 ∧ ∀ (p : Addr) (ys : List Int) (H' : Hp), (∀ y ∈ ys, 0 ≤ y ∧ y ≤ n - 1) → ys.length ≤ 2000 → Same H H' → H p = none → H' p = some (.lst (ys.map V.int)) → Q (.ref p) H'
abbrev nYes : List PySem.Str := ["cell", "states", "row", "k", "digit"]
theorem scYes : FnScope nYes ["cell", "states"] (defScope sYes) := ⟨rfl, rfl, rfl, by decide +kernel, rfl, by decide +kernel, by decide +kernel⟩
abbrev yesSizes : List Int := [8, 9, 5] ++ List.replicate 8 2000
theorem ok_yes {f : Addr} {fd : FuncData} (F : Fun K "_law_yes" "_law_yes" sYes f fd) (T : TM mg) (G : Got P w K mg base "_law_digits" 1 ["cell", "sizes"] (spDigits K)) : FnOk P w K mg base CX0 2 f fd ["cell", "states"] spYes := by
  refine F.ok scYes (fun vs H Q E h => ?_) (fun cdv A outer s H vs Q E hr h => ?_)
  · obtain ⟨c, n, rfl, _⟩ := h
    rfl
  · obtain ⟨c, n, rfl, n1, n2, k⟩ := h
    refine ⟨_, pss_cons (ps_set (i := 2) scYes.nd rfl (Or.inr rfl) (pe_got G hr (by rfl) (pa_cons (pv 0) (pa_cons (pe_op op_cat (pe_lst (pa_cons pe_int (pa_cons pe_int (pa_cons pe_int pa_nil)))) (pe_op op_rep (pe_lst (pa_cons pe_int pa_nil)) pe_int)) pa_nil))))
      (pss_cons (ps_if (pt_cmpR op_eq (pe_ix ix_list (pv 2) pe_int fun _ _ => rfl) pe_int (nomark _)) (pss_one (ps_ret (pe_lc (own := [("k", 3)]) (g := gName 3) (by rfl) scYes.nd (pi_range1 (by rfl) T.range (pa_cons (pv 1) pa_nil))
          (blkOk_by (own := [("k", 3)]) (N := nYes) (sc := defScope sYes) (by decide +kernel)) (fun _ _ _ _ _ => pg_name (i := 3) scYes.nd rfl (Or.inl rfl))
          (fun _ _ _ _ _ => pts_one (pt_cmpR op_eq (pe_op op_mod (pe_callTy call_int1 (by rfl) T.int PyProof.Rows.Boot.int (pa_cons (pv 3) pa_nil)) (pe_op op_add pe_int (pe_ix (r := rIxL K) ix_list (pv 2) pe_int fun _ _ => rfl))) pe_int (nomark _)))
          (fun _ _ _ _ _ => pe_op op_sub (pe_op op_sub (pv 1) pe_int) (pv 3))))) pss_nil)
      (pss_one (ps_ret (pe_lc (own := [("digit", 4)]) (g := gName 4) (tt := tYes) (by rfl) scYes.nd (pi_list (pe_slice sl_list (pv 2) (po_some pe_int) (po_some (pe_op op_add pe_int (pe_ix ix_list (pv 2) pe_int fun _ _ => rfl)))))
          (blkOk_by (own := [("digit", 4)]) (N := nYes) (sc := defScope sYes) (by decide +kernel)) (fun _ _ _ _ _ => pg_name (i := 4) scYes.nd rfl (Or.inl rfl)) (fun _ _ _ _ _ => pts_nil)
          (fun _ _ _ _ _ => pe_op op_mod (pe_callTy call_int1 (by rfl) T.int PyProof.Rows.Boot.int (pa_cons (pv 4) pa_nil)) (pv 1)))))), ?_⟩
    refine ⟨_, rfl, by decide, fun l1 hl1 => ?_⟩
    refine ⟨by decide, fun l2 hl2 => ?_⟩
    refine ⟨l2, 8, _, rfl, rfl, upd_same, by decide, by decide, by decide, fun l3 hl3 => ?_⟩
    refine ⟨l1, l3, _, _, rfl, rfl, same_new hl3 _ _ (same_new hl2 _ _ upd_same), upd_same, by decide, fun l4 hl4 => ?_⟩
    refine ⟨c, l4, yesSizes, rfl, SqL.of upd_same, by decide, by decide, fun row p H1 dg hp s1 hrow => ?_⟩
    have sA : Same H H1 := ((((same_new hl1).trans (same_new hl2)).trans (same_new hl3)).trans (same_new hl4)).trans s1
    clear s1 hl1 hl2 hl3 hl4 hp
    have len11 : row.length = 11 := dg.1
    have dig : ∀ (j : Nat) (t : Int), yesSizes[j]? = some t → ∃ d : Nat, row[j]? = some (d : Int) ∧ (d : Int) < t := fun j t e => by
      obtain ⟨d, e1, e2, e3⟩ := dg.2 j t e
      exact ⟨d.toNat, by rw [e1, Int.toNat_of_nonneg e2], by rw [Int.toNat_of_nonneg e2]; exact e3⟩
    have rowAt : ∀ {j : Nat} {d : Nat}, row[j]? = some (d : Int) → atI (row.map V.int) (j : Int) = some (V.int d) := fun {j d} e => atI_nat (by rw [List.getElem?_map, e]; rfl)
    obtain ⟨d0, e0, b0⟩ := dig 0 8 rfl
    obtain ⟨d1, e1, b1⟩ := dig 1 9 rfl
    obtain ⟨d2, e2, b2⟩ := dig 2 5 rfl
    refine ⟨_, rfl, _, _, _, _, rfl, rfl, SqL.of hrow, rowAt (j := 0) e0, rfl, _, rfl, ?_⟩
    -- what a comprehension has filled
    let Fill : Addr → Nat → Hp → Hp → Prop := fun D i H0 H' => Same H0 H' ∧ ∃ ys : List Int, H' D = some (.lst (ys.map V.int)) ∧ ys.length ≤ i ∧ ∀ y ∈ ys, 0 ≤ y ∧ y ≤ n - 1
    have fill : ∀ {D : Addr} {i : Nat} {H0 H' : Hp} {y : Int}, Fill D i H0 H' → H0 D = none → i < 2000 → 0 ≤ y ∧ y ≤ n - 1 → ∃ acc, H' D = some (.lst acc) ∧ acc.length < sizeLine ∧ Fill D (i + 1) H0 (upd H' D (.lst (acc ++ [V.int y]))) := by
      rintro D i H0 H' y ⟨s0, ys, hD, lys, ok⟩ nD lt oky
      refine ⟨_, hD, ?_, same_mut s0 nD, ys ++ [y], ?_, ?_, fun z m => ?_⟩
      · rw [List.length_map]
        exact Nat.lt_of_le_of_lt (show ys.length ≤ 2000 by omega) (by decide)
      · rw [upd_same, List.map_append] <;> rfl
      · rw [List.length_append]
        show ys.length + 1 ≤ i + 1
        omega
      · rcases List.mem_append.mp m with m | m
        · exact ok z m
        · rw [List.mem_singleton.mp m]; exact oky
    refine ite2 (fun _ => ?_) (fun _ => ?_)
    · refine ⟨_, rfl, n, rfl, by omega, by omega, fun D hD => lc_range (lo := 0) (n := n.toNat) (fun i H' => Fill D i H1 H') ⟨same_new hD, [], upd_same, Nat.zero_le _, fun y m => absurd m List.not_mem_nil⟩ ?_ ?_⟩
      · rintro i H2 hi h2
        refine ⟨rfl, ?_⟩
        refine ⟨_, rfl, .inl ⟨_, rfl, _, rfl, _, _, _, _, rfl, rfl, SqL.of (h2.1 _ _ hrow), rowAt (j := 2) e2, _, _, rfl, rfl, _, _, rfl, rfl, by omega, rfl, _, rfl, ?_⟩⟩
        refine ite2 (fun _ => ?_) (fun _ => ?_)
        · refine ⟨_, rfl, _, _, rfl, rfl, _, rfl, _, _, rfl, rfl, ?_⟩
          exact fill h2 hD (by omega) (by omega)
        · obtain ⟨a, ys, b, c, d⟩ := h2
          exact ⟨a, ys, b, by omega, d⟩
      · rintro H2 ⟨s2, ys, hD2, lys, ok⟩
        exact k D ys H2 ok (by omega) (sA.trans s2) (sA.free hD) hD2
    · refine ⟨_, rfl, 3, rfl, _, rfl, p, _, _, _, rfl, rfl, SqL.of hrow, rowAt (j := 1) e1, _, _, rfl, rfl, _, rfl, p, _, rfl, SqL.of hrow, fun u hu => ?_⟩
      have cutE : cutV (row.map V.int) (some 3) (some (3 + (d1 : Int))) = ((row.drop 3).take d1).map V.int := by
        have z := cut_in (row := row) (a := 3) (b := 3 + d1) (by omega) (by omega)
        rw [show 3 + d1 - 3 = d1 by omega] at z
        rw [← z] <;> rfl
      rw [cutE]
      generalize hp : (row.drop 3).take d1 = part
      have lp : part.length ≤ d1 := by
        rw [← hp, List.length_take]
        omega
      refine ⟨u, rfl, ⟨_, SqL.of upd_same⟩, fun D hD => lc_list (K := K) (a := u) (xs := part.map V.int) (fun j H' => Fill D j (upd H1 u (.lst (part.map V.int))) H') ⟨same_new hD, [], upd_same, Nat.zero_le _, fun y m => absurd m List.not_mem_nil⟩ (fun j H' _ h => SqL.of (h.1 _ _ upd_same)) ?_ ?_⟩
      · rintro j y H2 hj h2
        obtain ⟨z, ez, rfl⟩ := mapInt hj
        have lt := (List.getElem?_eq_some_iff.mp ez).1
        refine ⟨rfl, ?_⟩
        refine ⟨_, rfl, .inl ⟨_, rfl, _, rfl, _, _, rfl, rfl, by omega, ?_⟩⟩
        exact fill h2 hD (by omega) ⟨Int.emod_nonneg _ (by omega), by have := Int.emod_lt_of_pos z (show 0 < n by omega); omega⟩
      · rintro H2 ⟨s2, ys, hD2, lys, ok⟩
        rw [List.length_map] at lys
        have sU : Same H1 H2 := (same_new hu).trans s2
        have dH : H1 D = none := (same_new hu).free hD
        exact k D ys H2 ok (by omega) (sA.trans sU) (sA.free dH) hD2
end
end Mk
set_option Elab.async false
set_option maxRecDepth 100000
set_option maxHeartbeats 4000000
namespace Mk
open PySem L2 Pk
section
variable {P : Program} {w : World} {K : PySem.W.Frag} {mg : PySem.Str → Option Value} {base : Heap}
/-! _law_each_once -/
abbrev nOnce : List PySem.Str := ["values", "seen", "value"]
theorem scOnce : FnScope nOnce ["values"] (defScope sOnce) := ⟨rfl, rfl, rfl, by decide +kernel, rfl, by decide +kernel, by decide +kernel⟩
def spOnceI (K : PySem.W.Frag) : Sp := fun vs H Q _ => ∃ (a : Addr) (b : Bool) (ys : List Int), vs = [.ref a] ∧ SqB b K H a (ys.map V.int) ∧ ys.length ≤ 10000 ∧ ∀ (p : Addr) (H' : Hp), Same H H' → H p = none → H' p = some (.lst ((intsOf ys).map V.int)) → Q (.ref p) H'
def spOnceS (K : PySem.W.Frag) : Sp := fun vs H Q _ => ∃ (a : Addr) (b : Bool) (xs : List PySem.Str), vs = [.ref a] ∧ SqB b K H a (xs.map V.str) ∧ xs.length ≤ 10000 ∧ ∀ (p : Addr) (H' : Hp), Same H H' → H p = none → H' p = some (.lst ((Sx.asc Sx.ltText xs).map V.str)) → Q (.ref p) H'
def spOnceT (K : PySem.W.Frag) : Sp := fun vs H Q _ => ∃ (a : Addr) (b : Bool) (B : Kept), vs = [.ref a] ∧ SqB b K H a (refsK B) ∧ KeptAt H B ∧ B.length ≤ 10000 ∧ ∀ (p : Addr) (R : Kept) (H' : Hp), R.map (·.2) = rulesOf (B.map (·.2)) → KeptAt H' R → Same H H' → H p = none → H' p = some (.lst (refsK R)) → Q (.ref p) H'
abbrev kI (x : Int) : Key := Sum.inl x
theorem kI_inj (x y : Int) (e : kI x = kI y) : x = y := Sum.inl.inj e
theorem lt10k {n : Nat} (h : n ≤ 10000) : n < sizeLine := Nat.lt_of_le_of_lt h (by decide)
theorem once_some {α : Type} [DecidableEq α] (l : List α) (i : Nat) : (Sx.once (l.take i)).length ≤ l.length := by
  refine Nat.le_trans (Sx.once_len _) ?_
  rw [List.length_take]
  exact Nat.min_le_right _ _
theorem ok_onceI {f : Addr} {fd : FuncData} (F : Fun K "_law_each_once" "_law_each_once" sOnce f fd) (T : TM mg) : FnOk P w K mg base CX0 1 f fd ["values"] (spOnceI K) := by
  refine F.ok scOnce (fun vs H Q E h => ?_) (fun cdv A outer s H vs Q E hr h => ?_)
  · obtain ⟨a, b, ys, rfl, _⟩ := h
    rfl
  · obtain ⟨a, b, ys, rfl, hS, few, k⟩ := h
    have hu := hu_of hr
    refine ⟨_, pss_cons (ps_set (i := 1) scOnce.nd rfl (Or.inl rfl) pe_dnewK)
      (pss_cons (ps_for PassesOwn.never rfl (pi_sq b (pv 0)) (pg_name (i := 2) scOnce.nd rfl (Or.inl rfl)) (pss_one (ps_dput hu (pv 1) (pv 2) pe_bl rfl)))
      (pss_one (ps_ret (pe_callB cr_sortedI (by rfl) T.sorted (by decide +kernel) (pa_cons (pe_callTy (call_listD rfl) (by rfl) T.list PyProof.Rows.Boot.list (pa_cons (pv 1) pa_nil)) pa_nil))))), ?_⟩
    intro D hD
    refine isq_of ⟨_, rfl, a, rfl, ⟨_, hS.mono (same_new hD)⟩, for_it (walk_sq (b := b) (K := K) (a := a) (xs := ys.map V.int)) (fun i σ H' => Same H H' ∧ ∃ (v : Option V) (kvs : List (Key × V)), σ = [some (.ref a), some (.ref D), v] ∧ H' D = some (.dK kvs) ∧ kvs.map (·.1) = (Sx.once (ys.take i)).map kI)
      ⟨same_new hD, none, [], rfl, upd_same, rfl⟩ (fun i σ H' _ h => hS.mono h.1) ?_ ?_⟩
    · rintro i x σ H2 _ hn ⟨s2, v, kvs, rfl, hD2, hk⟩ ⟨rfl, hi⟩
      obtain ⟨y, ey, rfl⟩ := mapInt hi
      have lk : kvs.length ≤ 10000 := by
        have z := congrArg List.length hk
        rw [List.length_map, List.length_map] at z
        have := once_some ys i
        omega
      refine ⟨_, rfl, _, rfl, D, _, rfl, DPut.k (k := kI y) hD2 (lt10k lk), same_mut s2 hD, _, _, rfl, upd_same, ?_⟩
      rw [put_keys, hk, add_map kI_inj, ← once_add, take_at ey]
    · rintro σ H2 ⟨s2, v, kvs, rfl, hD2, hk⟩
      rw [List.length_map, List.take_of_length_le (Nat.le_refl _)] at hk
      refine ⟨_, rfl, D, kvs, rfl, .inl hD2, fun p hp => ?_⟩
      have e : (kvs.map fun kv => kV kv.1) = (Sx.once ys).map V.int := by
        have z := congrArg (List.map kV) hk
        rw [List.map_map, List.map_map] at z
        exact z
      rw [e]
      refine ⟨p, Sx.once ys, rfl, SqL.of upd_same, fun ns q pm up hq => ?_⟩
      have es : ns = intsOf ys := lin_int.is_srt (up.imp fun {x y} le => decide_eq_false (by omega)) pm
      rw [es]
      exact k q _ ((s2.trans (same_new hp)).trans (same_new hq)) ((s2.trans (same_new hp)).free hq) upd_same
theorem ok_onceS {f : Addr} {fd : FuncData} (F : Fun K "_law_each_once" "_law_each_once" sOnce f fd) (T : TM mg) : FnOk P w K mg base CX0 1 f fd ["values"] (spOnceS K) := by
  refine F.ok scOnce (fun vs H Q E h => ?_) (fun cdv A outer s H vs Q E hr h => ?_)
  · obtain ⟨a, b, ys, rfl, _⟩ := h
    rfl
  · obtain ⟨a, b, ys, rfl, hS, few, k⟩ := h
    have hu := hu_of hr
    refine ⟨_, pss_cons (ps_set (i := 1) scOnce.nd rfl (Or.inl rfl) pe_dnewK)
      (pss_cons (ps_for PassesOwn.never rfl (pi_sq b (pv 0)) (pg_name (i := 2) scOnce.nd rfl (Or.inl rfl)) (pss_one (ps_dput hu (pv 1) (pv 2) pe_bl rfl)))
      (pss_one (ps_ret (pe_callB Sx.cr_sortS (by rfl) T.sorted (by decide +kernel) (pa_cons (pe_callTy (call_listD rfl) (by rfl) T.list PyProof.Rows.Boot.list (pa_cons (pv 1) pa_nil)) pa_nil))))), ?_⟩
    intro D hD
    refine isq_of ⟨_, rfl, a, rfl, ⟨_, hS.mono (same_new hD)⟩, for_it (walk_sq (b := b) (K := K) (a := a) (xs := ys.map V.str)) (fun i σ H' => Same H H' ∧ ∃ (v : Option V) (kvs : List (Key × V)), σ = [some (.ref a), some (.ref D), v] ∧ H' D = some (.dK kvs) ∧ kvs.map (·.1) = (Sx.once (ys.take i)).map kT)
      ⟨same_new hD, none, [], rfl, upd_same, rfl⟩ (fun i σ H' _ h => hS.mono h.1) ?_ ?_⟩
    · rintro i x σ H2 _ hn ⟨s2, v, kvs, rfl, hD2, hk⟩ ⟨rfl, hi⟩
      rw [List.getElem?_map] at hi
      obtain ⟨y, ey, rfl⟩ := Option.map_eq_some_iff.mp hi
      have lk : kvs.length ≤ 10000 := by
        have z := congrArg List.length hk
        rw [List.length_map, List.length_map] at z
        have := once_some ys i
        omega
      refine ⟨_, rfl, _, rfl, D, _, rfl, DPut.k (k := kT y) hD2 (lt10k lk), same_mut s2 hD, _, _, rfl, upd_same, ?_⟩
      rw [put_keys, hk, add_map kT_inj, ← once_add, take_at ey]
    · rintro σ H2 ⟨s2, v, kvs, rfl, hD2, hk⟩
      rw [List.length_map, List.take_of_length_le (Nat.le_refl _)] at hk
      refine ⟨_, rfl, D, kvs, rfl, .inl hD2, fun p hp => ?_⟩
      have e : (kvs.map fun kv => kV kv.1) = (Sx.once ys).map V.str := by
        have z := congrArg (List.map kV) hk
        rw [List.map_map, List.map_map] at z
        exact z
      rw [e]
      refine ⟨p, Sx.once ys, rfl, SqL.of upd_same, fun q hq => ?_⟩
      exact k q _ ((s2.trans (same_new hp)).trans (same_new hq)) ((s2.trans (same_new hp)).free hq) upd_same
end
end Mk
set_option Elab.async false
set_option maxRecDepth 100000
set_option maxHeartbeats 4000000
namespace Mk
open PySem L2 Pk
theorem rows_of_keys {H : Hp} : ∀ {kvs : List (List Key × V)} {bs : List Addr}, IsKeys H kvs bs → ∃ R : Sx.Rows, bs.map V.ref = Sx.refsOf R ∧ Sx.TupsIn H R ∧ R.map (·.2) = kvs.map (·.1)
  | _, _, .nil => ⟨[], rfl, fun p m => absurd m List.not_mem_nil, rfl⟩
  | p :: _, b :: _, .cons h t => by
    obtain ⟨R, e1, e2, e3⟩ := rows_of_keys t
    refine ⟨(b, p.1) :: R, by rw [List.map_cons, e1] <;> rfl, fun q m => ?_, by rw [List.map_cons, List.map_cons, e3]⟩
    rcases List.mem_cons.mp m with e | m
    · rw [e]; exact h
    · exact e2 q m
/-- rising rows of rules are the kept rules -/
theorem kept_of {H : Hp} {L2 : Sx.Rows} {rs : List Rl} (tl : Sx.TupsIn H L2) (keys : L2.map (·.2) = (rulesOf rs).map Rl.key) : ∃ R : Kept, refsK R = Sx.refsOf L2 ∧ R.map (·.2) = rulesOf rs ∧ KeptAt H R := by
  have key2 : ∀ p ∈ L2, (unkey p.2).key = p.2 := fun p mp => by
    have z : p.2 ∈ (rulesOf rs).map Rl.key := by rw [← keys]; exact List.mem_map.mpr ⟨p, mp, rfl⟩
    obtain ⟨r, _, e⟩ := List.mem_map.mp z
    rw [← e, unkey_key]
  refine ⟨L2.map fun p => (p.1, unkey p.2), ?_, ?_, fun p mp => ?_⟩
  · show (L2.map _).map _ = L2.map _
    rw [List.map_map] <;> rfl
  · have z := congrArg (List.map unkey) keys
    rw [List.map_map, List.map_map] at z
    have e1 : (unkey ∘ Rl.key) = id := by funext r; rfl
    rw [e1, List.map_id] at z
    rw [List.map_map]
    exact z
  · obtain ⟨p0, m0, rfl⟩ := List.mem_map.mp mp
    have z := tl p0 m0
    show H p0.1 = some (HO.tup ((unkey p0.2).vs))
    rw [← key_vs, key2 p0 m0]
    exact z
section
variable {P : Program} {w : World} {K : PySem.W.Frag} {mg : PySem.Str → Option Value} {base : Heap}
theorem ok_onceT {f : Addr} {fd : FuncData} (F : Fun K "_law_each_once" "_law_each_once" sOnce f fd) (T : TM mg) : FnOk P w K mg base CX0 1 f fd ["values"] (spOnceT K) := by
  refine F.ok scOnce (fun vs H Q E h => ?_) (fun cdv A outer s H vs Q E hr h => ?_)
  · obtain ⟨a, b, ys, rfl, _⟩ := h
    rfl
  · obtain ⟨a, b, B, rfl, hS, hK, few, k⟩ := h
    have hu := hu_of hr
    refine ⟨_, pss_cons (ps_set (i := 1) scOnce.nd rfl (Or.inl rfl) pe_dnewT)
      (pss_cons (ps_for PassesOwn.never rfl (pi_sq b (pv 0)) (pg_name (i := 2) scOnce.nd rfl (Or.inl rfl)) (pss_one (ps_dput hu (pv 1) (pv 2) pe_bl rfl)))
      (pss_one (ps_ret (pe_callB Sx.cr_sortM (by rfl) T.sorted (by decide +kernel) (pa_cons (pe_callTy (call_list_dT rfl) (by rfl) T.list PyProof.Rows.Boot.list (pa_cons (pv 1) pa_nil)) pa_nil))))), ?_⟩
    intro D hD
    have lB : (refsK B).length = B.length := List.length_map ..
    refine isq_of ⟨_, rfl, a, rfl, ⟨_, hS.mono (same_new hD)⟩, for_it (walk_sq (b := b) (K := K) (a := a) (xs := refsK B)) (fun i σ H' => Same H H' ∧ ∃ (v : Option V) (kvs : List (List Key × V)), σ = [some (.ref a), some (.ref D), v] ∧ H' D = some (.dT kvs) ∧ kvs.map (·.1) = Sx.once ((B.take i).map fun p => p.2.key))
      ⟨same_new hD, none, [], rfl, upd_same, rfl⟩ (fun i σ H' _ h => hS.mono h.1) ?_ ?_⟩
    · rintro i x σ H2 _ hn ⟨s2, v, kvs, rfl, hD2, hk⟩ ⟨rfl, hi⟩
      obtain ⟨p, ep, rfl⟩ := at_refs hi
      have m := List.mem_of_getElem? ep
      have lk : kvs.length ≤ 10000 := by
        have z := congrArg List.length hk
        rw [List.length_map] at z
        have y := Sx.once_len ((B.take i).map fun p => p.2.key)
        rw [List.length_map, List.length_take] at y
        omega
      refine ⟨_, rfl, _, rfl, D, _, rfl, DPut.t (k := p.2.key) hD2 (s2 _ _ (hK p m)) (lt10k lk), same_mut s2 hD, _, _, rfl, upd_same, ?_⟩
      rw [put_keys, hk, take_at ep, List.map_append]
      exact (once_add _ _).symm
    · rintro σ H2 ⟨s2, v, kvs, rfl, hD2, hk⟩
      rw [lB, List.take_of_length_le (Nat.le_refl _)] at hk
      refine ⟨_, rfl, D, kvs, rfl, .inl hD2, fun p bs hp hb => ?_⟩
      obtain ⟨R, e1, tR, e3⟩ := rows_of_keys hb
      rw [e1]
      have s3 : Same H2 (upd H2 p (.lst (Sx.refsOf R))) := same_new hp
      have keyOfRule : ∀ q ∈ R, ∃ r : Rl, q.2 = r.key := fun q mq => by
        have z : q.2 ∈ Sx.once (B.map fun p => p.2.key) := by rw [← hk, ← e3]; exact List.mem_map.mpr ⟨q, mq, rfl⟩
        obtain ⟨p0, _, e⟩ := List.mem_map.mp ((Sx.once_mem _ _).mp z)
        exact ⟨p0.2, e.symm⟩
      refine ⟨p, R, true, sh8, rfl, SqL.of upd_same, fun q mq => s3 _ _ (tR q mq), fun q mq => by obtain ⟨r, e⟩ := keyOfRule q mq; rw [e]; exact shp_key r, fun R2 p5 pm up hp5 => ?_⟩
      have s5 := (s2.trans s3).trans (same_new (o := .lst (Sx.refsOf R2)) hp5)
      have nd : (R.map (·.2)).Nodup := by rw [e3, hk]; exact Sx.once_nodup _
      have keys : R2.map (·.2) = (rulesOf (B.map (·.2))).map Rl.key := by
        rw [rulesOf_keys]
        refine Sx.lin_tup.is_asc ((pm.map (·.2)).nodup_iff.mpr nd) (List.pairwise_map.mpr up) fun c => ?_
        rw [(pm.map (·.2)).mem_iff, e3, hk, Sx.once_mem, List.map_map] <;> rfl
      have t5 : Sx.TupsIn (upd (upd H2 p (.lst (Sx.refsOf R))) p5 (.lst (Sx.refsOf R2))) R2 := fun q mq => (s3.trans (same_new hp5)) _ _ (tR q (pm.mem_iff.mp mq))
      obtain ⟨R3, r1, r2, r3⟩ := kept_of t5 keys
      refine k p5 R3 _ r2 r3 s5 ((s2.trans s3).free hp5) ?_
      rw [upd_same, r1]
end
end Mk
set_option maxRecDepth 100000
set_option linter.all false
/-! the law's guess and the program's -/
namespace Mk
open PySem L2 Pk Sx
def adjK {κ : Type} [DecidableEq κ] : List κ → Option κ
  | a :: b :: r => if a = b then some a else adjK (b :: r)
  | _ => none
section
variable {κ α : Type} [DecidableEq κ]
def cnt (k : κ) (l : List κ) : Nat := l.count k
theorem cnt_append (k : κ) (l m : List κ) : cnt k (l ++ m) = cnt k l + cnt k m := List.count_append ..
theorem cnt_one (k : κ) : cnt k [k] = 1 := List.count_singleton_self ..
theorem cnt_zero {k : κ} {l : List κ} (h : k ∉ l) : cnt k l = 0 := List.count_eq_zero.mpr h
theorem cnt_self (k : κ) (l : List κ) : cnt k (k :: l) = cnt k l + 1 := List.count_cons_self ..
theorem cnt_ne {a k : κ} (h : a ≠ k) (l : List κ) : cnt k (a :: l) = cnt k l := List.count_cons_of_ne h
theorem go_more : ∀ (l acc : List κ), ∃ t, onceGo acc l = acc ++ t
  | [], acc => ⟨[], by simp [onceGo]⟩
  | y :: l, acc => by
    by_cases c : y ∈ acc
    · have e : onceGo acc (y :: l) = onceGo acc l := by unfold onceGo; rw [List.foldl_cons, if_pos c]
      rw [e]
      exact go_more l acc
    · have e : onceGo acc (y :: l) = onceGo (acc ++ [y]) l := by unfold onceGo; rw [List.foldl_cons, if_neg c]
      obtain ⟨t, et⟩ := go_more l (acc ++ [y])
      exact ⟨y :: t, by rw [e, et, List.append_assoc] <;> rfl⟩
theorem go_cons {a : κ} : ∀ (l acc : List κ), a ∉ l → onceGo (a :: acc) l = a :: onceGo acc l
  | [], acc, _ => rfl
  | y :: l, acc, h => by
    have ya : y ≠ a := fun e => h (by rw [e]; exact List.mem_cons_self)
    have hl : a ∉ l := fun m => h (List.mem_cons_of_mem _ m)
    by_cases c : y ∈ acc
    · have e1 : onceGo (a :: acc) (y :: l) = onceGo (a :: acc) l := by unfold onceGo; rw [List.foldl_cons, if_pos (List.mem_cons_of_mem _ c)]
      have e2 : onceGo acc (y :: l) = onceGo acc l := by unfold onceGo; rw [List.foldl_cons, if_pos c]
      rw [e1, e2]
      exact go_cons l acc hl
    · have c2 : y ∉ a :: acc := fun m => by
        rcases List.mem_cons.mp m with e | m
        · exact ya e
        · exact c m
      have e1 : onceGo (a :: acc) (y :: l) = onceGo (a :: (acc ++ [y])) l := by unfold onceGo; rw [List.foldl_cons, if_neg c2] <;> rfl
      have e2 : onceGo acc (y :: l) = onceGo (acc ++ [y]) l := by unfold onceGo; rw [List.foldl_cons, if_neg c]
      rw [e1, e2]
      exact go_cons l (acc ++ [y]) hl
theorem once_cons (a : κ) (l : List κ) : once (a :: l) = onceGo [a] l := rfl
theorem once_cons_new {a : κ} {l : List κ} (h : a ∉ l) : once (a :: l) = a :: once l := (once_cons a l).trans (go_cons l [] h)
/-- in a rising list what comes twice comes twice at once -/
theorem find_adj {lt : κ → κ → Bool} (O : Lin lt) : ∀ ks : List κ, Up lt ks → (once ks).find? (fun k => decide (1 < cnt k ks)) = adjK ks
  | [], _ => rfl
  | [a], _ => by
    have e : once [a] = [a] := rfl
    have z : decide (1 < cnt a [a]) = false := by rw [cnt_one]; rfl
    rw [e, List.find?_cons, z] <;> rfl
  | a :: b :: r, h => by
    obtain ⟨h1, h2⟩ := List.pairwise_cons.mp h
    by_cases c : a = b
    · subst c
      obtain ⟨t, et⟩ := go_more (a :: r) [a]
      have e : once (a :: a :: r) = a :: t := (once_cons a (a :: r)).trans et
      have big : decide (1 < cnt a (a :: a :: r)) = true := decide_eq_true (by rw [cnt_self, cnt_self]; omega)
      rw [e, List.find?_cons, big]
      unfold adjK
      rw [if_pos rfl]
    · have new : a ∉ b :: r := fun m => by
        rcases List.mem_cons.mp m with e | m
        · exact c e
        · have z1 := h1 b List.mem_cons_self
          have z2 := (List.pairwise_cons.mp h2).1 a m
          exact c (O.anti z2 z1)
      have n0 : cnt a (b :: r) = 0 := cnt_zero new
      have small : decide (1 < cnt a (a :: b :: r)) = false := by
        rw [cnt_self, n0]
        rfl
      rw [once_cons_new new, List.find?_cons, small]
      unfold adjK
      rw [if_neg c, ← find_adj O (b :: r) h2]
      have cong : ∀ k ∈ once (b :: r), decide (1 < cnt k (a :: b :: r)) = decide (1 < cnt k (b :: r)) := fun k m => by
        have ka : a ≠ k := fun e => new (by rw [e]; exact (once_mem _ _).mp m)
        rw [cnt_ne ka]
      show List.find? _ _ = List.find? _ _
      revert cong
      generalize once (b :: r) = l
      intro cong
      induction l with
      | nil => rfl
      | cons x l ih =>
        have ex := cong x List.mem_cons_self
        have ih2 : List.find? (fun k => decide (1 < cnt k (a :: b :: r))) l = List.find? (fun k => decide (1 < cnt k (b :: r))) l := ih fun k m => cong k (List.mem_cons_of_mem _ m)
        show List.find? (fun k => decide (1 < cnt k (a :: b :: r))) (x :: l) = List.find? (fun k => decide (1 < cnt k (b :: r))) (x :: l)
        rw [List.find?_cons, List.find?_cons, ex, ih2]
end
theorem grps_count (rs : List Rl) : ∀ g ∈ grps rs, g.2.length = cnt g.1 (rs.map Rl.k3) := by
  have gen : ∀ (l pre : List Rl), (∀ g ∈ grps pre, g.2.length = cnt g.1 (pre.map Rl.k3)) → ∀ g ∈ grps (pre ++ l), g.2.length = cnt g.1 ((pre ++ l).map Rl.k3) := by
    intro l
    induction l with
    | nil => intro pre h; simpa using h
    | cons r l ih =>
      intro pre h
      have e : pre ++ r :: l = (pre ++ [r]) ++ l := by simp
      rw [e]
      refine ih (pre ++ [r]) ?_
      rw [grps_snoc, List.map_append]
      intro g m
      rw [cnt_append]
      unfold gAdd at m
      split at m
      · rename_i c
        obtain ⟨g0, m0, rfl⟩ := List.mem_map.mp m
        have z := h g0 m0
        split
        · rename_i eq
          rw [List.length_append, z]
          show _ + 1 = cnt g0.1 _ + cnt g0.1 [r.k3]
          rw [eq, cnt_one]
        · rename_i ne
          rw [z]
          have n : cnt g0.1 [r.k3] = 0 := cnt_zero fun m => ne (List.mem_singleton.mp m)
          rw [show (List.map Rl.k3 [r]) = [r.k3] from rfl, n] <;> rfl
      · rename_i c
        rcases List.mem_append.mp m with m | m
        · have z := h g m
          have ne : g.1 ≠ r.k3 := fun eq => c (by rw [← eq]; exact List.mem_map.mpr ⟨g, m, rfl⟩)
          have n : cnt g.1 [r.k3] = 0 := cnt_zero fun m => ne (List.mem_singleton.mp m)
          rw [z, show (List.map Rl.k3 [r]) = [r.k3] from rfl, n] <;> rfl
        · rw [List.mem_singleton.mp m]
          have n : cnt r.k3 (pre.map Rl.k3) = 0 := cnt_zero fun m => c (by rw [grps_keys]; exact (once_mem _ _).mpr m)
          show 1 = cnt r.k3 _ + cnt r.k3 [r.k3]
          rw [n, cnt_one]
  exact gen rs [] fun g m => absurd m List.not_mem_nil
theorem guess_find (rs : List Rl) : guessOf (grps rs) = (once (rs.map Rl.k3)).find? fun k => decide (1 < cnt k (rs.map Rl.k3)) := by
  have ks := grps_keys rs
  have cn := grps_count rs
  unfold guessOf
  rw [← ks]
  revert cn
  generalize grps rs = G
  intro cn
  induction G with
  | nil => rfl
  | cons g G ih =>
    rw [List.map_cons, List.find?_cons, List.find?_cons, cn g List.mem_cons_self]
    cases decide (1 < cnt g.1 (rs.map Rl.k3)) with
    | true => rfl
    | false => exact ih fun x m => cn x (List.mem_cons_of_mem _ m)
theorem k3_up {x y : Rl} (h : ltT y.key x.key = false) : ltT y.k3 x.k3 = false := by
  have pre : ∀ (as bs cs ds : List Key), as.length = bs.length → as ≠ bs → ltT (as ++ cs) (bs ++ ds) = ltT as bs := by
    intro as
    induction as with
    | nil =>
      intro bs cs ds e ne
      cases bs with
      | nil => exact absurd rfl ne
      | cons => cases e
    | cons a as ih =>
      intro bs cs ds e ne
      cases bs with
      | nil => cases e
      | cons b bs =>
        show (if a = b then ltT (as ++ cs) (bs ++ ds) else ltKey a b) = if a = b then ltT as bs else ltKey a b
        by_cases c : a = b
        · rw [if_pos c, if_pos c]
          exact ih bs cs ds (Nat.succ.inj e) fun z => ne (by rw [c, z])
        · rw [if_neg c, if_neg c]
  by_cases c : y.k3 = x.k3
  · rw [c]; exact lin_tup.irr _
  · have z := pre y.k3 x.k3 y.a5 x.a5 rfl c
    rw [← z]
    exact h
theorem guess_adj {l : List Rl} (up : l.Pairwise fun x y => ltT y.key x.key = false) : guessOf (grps l) = adjK (l.map Rl.k3) := by
  rw [guess_find]
  exact find_adj lin_tup _ (List.pairwise_map.mpr (up.imp fun h => k3_up h))
theorem rulesOf_up (rs : List Rl) : (rulesOf rs).Pairwise fun x y => ltT y.key x.key = false := by
  have z := lin_tup.asc_up (rs.map Rl.key)
  rw [← rulesOf_keys] at z
  exact List.pairwise_map.mp z
end Mk
set_option maxRecDepth 100000
set_option linter.all false
/-! what is due, as data -/
namespace Mk
open PySem L2 Pk Sx
def keyD : Key → PyData
  | .inl n => .int n
  | .inr x => .str x
def rlD (r : Rl) : PyData := .tuple (r.key.map keyD)
def guessD : Option (List Key) → PyData
  | none => .none
  | some k => .tuple (k.map keyD)
def symsL (rs : List Rl) : List PySem.Str := asc ltText ((rs.map Rl.tp ++ rs.map Rl.sy).filter fun x => decide (x ≠ nil0))
def dueD (l : PySem.Str) (n : Int) (rs : List Rl) (ys : List Int) : PyData :=
  .tuple [.str l, .int n, .tuple ((rulesOf rs).map rlD), .tuple ((intsOf ys).map .int), .tuple ((symsL rs).map .str), guessD (adjK ((rulesOf rs).map Rl.k3))]
theorem rulesOf_mem (rs : List Rl) (r : Rl) : r ∈ rulesOf rs ↔ r ∈ rs := by
  have e : r.key ∈ (rulesOf rs).map Rl.key ↔ r.key ∈ rs.map Rl.key := by rw [rulesOf_keys, asc_mem]
  constructor
  · intro m
    obtain ⟨q, mq, eq⟩ := List.mem_map.mp (e.mp (List.mem_map.mpr ⟨r, m, rfl⟩))
    rw [← key_inj eq]
    exact mq
  · intro m
    obtain ⟨q, mq, eq⟩ := List.mem_map.mp (e.mpr (List.mem_map.mpr ⟨r, m, rfl⟩))
    rw [← key_inj eq]
    exact mq
theorem rulesOf_len (rs : List Rl) : (rulesOf rs).length ≤ rs.length := by
  unfold rulesOf
  rw [List.length_map]
  refine Nat.le_trans (asc_len _ _) ?_
  rw [List.length_map]
  exact Nat.le_refl _
theorem syms_same (rs : List Rl) : symsOf (rulesOf rs) = symsL rs := by
  unfold symsOf symsL
  refine lin_text.is_asc ?_ (lin_text.srt_up _) fun x => ?_
  · exact (srt_perm _ _).nodup_iff.mpr ((once_nodup _).filter _)
  · rw [(srt_perm _ _).mem_iff, List.mem_filter, List.mem_filter, once_mem, List.mem_append, List.mem_append]
    have tp : x ∈ (rulesOf rs).map Rl.tp ↔ x ∈ rs.map Rl.tp := by
      rw [List.mem_map, List.mem_map]
      exact ⟨fun ⟨r, m, e⟩ => ⟨r, (rulesOf_mem rs r).mp m, e⟩, fun ⟨r, m, e⟩ => ⟨r, (rulesOf_mem rs r).mpr m, e⟩⟩
    have sy : x ∈ (rulesOf rs).map Rl.sy ↔ x ∈ rs.map Rl.sy := by
      rw [List.mem_map, List.mem_map]
      exact ⟨fun ⟨r, m, e⟩ => ⟨r, (rulesOf_mem rs r).mp m, e⟩, fun ⟨r, m, e⟩ => ⟨r, (rulesOf_mem rs r).mpr m, e⟩⟩
    rw [tp, sy]
theorem guess_same (rs : List Rl) : guessOf (grps (rulesOf rs)) = adjK ((rulesOf rs).map Rl.k3) := guess_adj (rulesOf_up rs)
theorem adjK_step {κ : Type} [DecidableEq κ] : ∀ {l : List κ} {i : Nat} {a b : κ}, l[i]? = some a → l[i + 1]? = some b →
    adjK (l.take (i + 2)) = match adjK (l.take (i + 1)) with | some k => some k | none => if a = b then some a else none
  | [], i, a, b, e, _ => by simp at e
  | [x], i, a, b, _, e => by simp at e
  | x :: y :: r, 0, a, b, e1, e2 => by
    simp at e1 e2
    subst e1; subst e2
    show adjK [x, y] = _
    have z : adjK ((x :: y :: r).take (0 + 1)) = none := rfl
    rw [z]
    rfl
  | x :: y :: r, i + 1, a, b, e1, e2 => by
    have ih := adjK_step (l := y :: r) (i := i) (a := a) (b := b) (by simpa using e1) (by simpa using e2)
    have t1 : (x :: y :: r).take (i + 1 + 2) = x :: y :: r.take (i + 1) := rfl
    have t2 : (x :: y :: r).take (i + 1 + 1) = x :: y :: r.take i := rfl
    have t3 : (y :: r).take (i + 2) = y :: r.take (i + 1) := rfl
    have t4 : (y :: r).take (i + 1) = y :: r.take i := rfl
    rw [t1, t2]
    rw [t3, t4] at ih
    show (if x = y then some x else adjK (y :: r.take (i + 1))) = _
    rw [show adjK (x :: y :: r.take i) = if x = y then some x else adjK (y :: r.take i) from rfl]
    by_cases c : x = y
    · rw [if_pos c, if_pos c]
    · rw [if_neg c, if_neg c, ih]
/-! data in the heap -/
section
variable {K : PySem.W.Frag} {H : Hp}
theorem dpa_keys : ∀ k : List Key, DpAll K H (k.map kV) (k.map keyD)
  | [] => .nil
  | .inl n :: k => .cons (.int n) (dpa_keys k)
  | .inr x :: k => .cons (.str x) (dpa_keys k)
theorem dp_keys {p : Addr} {k : List Key} (h : H p = some (.tup (k.map kV))) : Dp K H (.ref p) (.tuple (k.map keyD)) := .tup (.inl (.inl h)) (dpa_keys k)
theorem dpa_rules : ∀ {R : Kept}, KeptAt H R → DpAll K H (refsK R) ((R.map (·.2)).map rlD)
  | [], _ => .nil
  | p :: R, h => .cons (dp_keys (k := p.2.key) (h p List.mem_cons_self)) (dpa_rules fun q m => h q (List.mem_cons_of_mem _ m))
theorem dpa_ints : ∀ ys : List Int, DpAll K H (ys.map V.int) (ys.map .int)
  | [] => .nil
  | y :: ys => .cons (.int y) (dpa_ints ys)
theorem dpa_strs : ∀ xs : List PySem.Str, DpAll K H (xs.map V.str) (xs.map .str)
  | [] => .nil
  | x :: xs => .cons (.str x) (dpa_strs xs)
theorem dp_guess {v : V} {g : Option (List Key)} (h : GuessV H v g) : Dp K H v (guessD g) := by
  cases g with
  | none =>
    have e : v = .non := h
    rw [e]
    exact .non
  | some k =>
    obtain ⟨q, e, t⟩ := h
    rw [e]
    exact dp_keys t
end
/-- the six attributes, or what is due of them -/
structure DueAt (H : Hp) (p : Addr) (l : PySem.Str) (n : Int) (rs : List Rl) (ys : List Int) : Prop where
  ex : ∃ (aR aY aS : Addr) (g : V) (R : Kept), H p = some (.tup [.str l, .int n, .ref aR, .ref aY, .ref aS, g]) ∧ H aR = some (.tup (refsK R)) ∧ KeptAt H R ∧ R.map (·.2) = rulesOf rs ∧
    H aY = some (.tup ((intsOf ys).map V.int)) ∧ H aS = some (.tup ((symsL rs).map V.str)) ∧ GuessV H g (adjK ((rulesOf rs).map Rl.k3))
theorem DueAt.dp {K : PySem.W.Frag} {H : Hp} {p : Addr} {l : PySem.Str} {n : Int} {rs : List Rl} {ys : List Int} (h : DueAt H p l n rs ys) : Dp K H (.ref p) (dueD l n rs ys) := by
  obtain ⟨aR, aY, aS, g, R, hp, hR, kR, eR, hY, hS, hg⟩ := h.ex
  refine .tup (.inl (.inl hp)) (.cons (.str l) (.cons (.int n) (.cons (.tup (.inl (.inl hR)) ?_) (.cons (.tup (.inl (.inl hY)) (dpa_ints _)) (.cons (.tup (.inl (.inl hS)) (dpa_strs _)) (.cons (dp_guess hg) .nil))))))
  rw [← eR]
  exact dpa_rules kR
/-- all tuples stay -/
def Tk (H H' : Hp) : Prop := ∀ b xs, H b = some (.tup xs) → H' b = some (.tup xs)
theorem Tk.of {H H' : Hp} (s : Same H H') : Tk H H' := fun b xs e => s b _ e
theorem Tk.trans {H H' H'' : Hp} (a : Tk H H') (b : Tk H' H'') : Tk H H'' := fun c xs e => b c xs (a c xs e)
theorem Tk.refl (H : Hp) : Tk H H := fun _ _ e => e
theorem Tk.put {H : Hp} {q : Addr} {o o' : HO} (h : H q = some o) (n : ∀ xs, o ≠ .tup xs) : Tk H (upd H q o') := fun b xs e => by
  have ne : b ≠ q := fun z => by
    rw [z, h] at e
    exact n xs (Option.some.inj e)
  rw [upd_ne ne]
  exact e
theorem GuessV.tk {H H' : Hp} {v : V} {g : Option (List Key)} (h : GuessV H v g) (t : Tk H H') : GuessV H' v g := by
  cases g with
  | none => exact h
  | some k =>
    obtain ⟨q, e, z⟩ := h
    exact ⟨q, e, t _ _ z⟩
theorem DueAt.tk {H H' : Hp} {p : Addr} {l : PySem.Str} {n : Int} {rs : List Rl} {ys : List Int} (h : DueAt H p l n rs ys) (t : Tk H H') : DueAt H' p l n rs ys := by
  obtain ⟨aR, aY, aS, g, R, hp, hR, kR, eR, hY, hS, hg⟩ := h.ex
  exact ⟨aR, aY, aS, g, R, t _ _ hp, t _ _ hR, fun q m => t _ _ (kR q m), eR, t _ _ hY, t _ _ hS, hg.tk t⟩
/-! comparing -/
theorem eqv_key (a b : Key) : PyData.eqv (keyD a) (keyD b) = decide (a = b) := by
  cases a with
  | inl x =>
    cases b with
    | inl y =>
      show (x == y) = _
      by_cases c : x = y
      · rw [c, decide_eq_true rfl]
        exact beq_iff_eq.mpr rfl
      · rw [decide_eq_false (fun z => c (Sum.inl.inj z))]
        exact Bool.eq_false_iff.mpr fun z => c (beq_iff_eq.mp z)
    | inr y => rw [decide_eq_false (fun z => nomatch z)]; rfl
  | inr x =>
    cases b with
    | inl y => rw [decide_eq_false (fun z => nomatch z)]; rfl
    | inr y =>
      show (x == y) = _
      by_cases c : x = y
      · rw [c, decide_eq_true rfl]
        exact beq_iff_eq.mpr rfl
      · rw [decide_eq_false (fun z => c (Sum.inr.inj z))]
        exact Bool.eq_false_iff.mpr fun z => c (beq_iff_eq.mp z)
theorem eqv_keys : ∀ a b : List Key, PyData.eqv (.tuple (a.map keyD)) (.tuple (b.map keyD)) = decide (a = b)
  | [], [] => rfl
  | [], _ :: _ => by rw [decide_eq_false (fun z => nomatch z)]; rfl
  | _ :: _, [] => by rw [decide_eq_false (fun z => nomatch z)]; rfl
  | x :: a, y :: b => by
    have ih := eqv_keys a b
    have e : PyData.eqv (.tuple ((x :: a).map keyD)) (.tuple ((y :: b).map keyD)) = (PyData.eqv (keyD x) (keyD y) && PyData.eqv (.tuple (a.map keyD)) (.tuple (b.map keyD))) := by
      simp [PyData.eqv, PyData.eqvAll]
    rw [e, ih, eqv_key]
    by_cases c : x = y
    · by_cases d : a = b
      · rw [decide_eq_true c, decide_eq_true d, decide_eq_true (by rw [c, d])]; rfl
      · rw [decide_eq_true c, decide_eq_false d, decide_eq_false (fun z => d (List.cons.inj z).2)]; rfl
    · rw [decide_eq_false c, decide_eq_false (fun z => c (List.cons.inj z).1)]; rfl
def KeyOk : Key → Prop
  | .inl _ => True
  | .inr x => ∀ c ∈ x.cps.toList, c < 1114112
theorem strOk_of {x : PySem.Str} (h : ∀ c ∈ x.cps.toList, c < 1114112) : PyData.strOk x = true := by
  unfold PyData.strOk
  rw [← Array.all_toList, List.all_eq_true]
  exact fun c m => decide_eq_true (h c m)
theorem lay_keys : ∀ k : List Key, (∀ x ∈ k, KeyOk x) → PyData.canLayAll0 (k.map keyD) = true ∧ PyData.depthAll (k.map keyD) = 0
  | [], _ => ⟨by simp [PyData.canLayAll0], by simp [PyData.depthAll]⟩
  | x :: k, h => by
    have ih := lay_keys k fun z m => h z (List.mem_cons_of_mem _ m)
    have hx := h x List.mem_cons_self
    cases x with
    | inl n => exact ⟨by simp [PyData.canLayAll0, PyData.canLay0, keyD, ih.1], by simp [PyData.depthAll, PyData.depth, keyD, ih.2]⟩
    | inr t =>
      have s : PyData.strOk t = true := strOk_of hx
      exact ⟨by simp [PyData.canLayAll0, PyData.canLay0, keyD, ih.1, s], by simp [PyData.depthAll, PyData.depth, keyD, ih.2]⟩
theorem shaped_keys {k : List Key} (h : ∀ x ∈ k, KeyOk x) : SeqAt.shaped (.tuple (k.map keyD)) = true := by
  obtain ⟨a, b⟩ := lay_keys k h
  unfold SeqAt.shaped
  simp [PyData.canLay0, PyData.depth, a, b]
/-- a rule in a list or a tuple -/
def rowD (b : Bool) (r : Rl) : PyData := match b with
  | true => .list (r.key.map keyD)
  | false => .tuple (r.key.map keyD)
theorem lay_rows : ∀ {rs : List (Bool × Rl)}, (∀ p ∈ rs, ∀ x ∈ p.2.key, KeyOk x) → PyData.canLayAll0 (rs.map fun p => rowD p.1 p.2) = true ∧ PyData.depthAll (rs.map fun p => rowD p.1 p.2) ≤ 1
  | [], _ => ⟨by simp [PyData.canLayAll0], by simp [PyData.depthAll]⟩
  | p :: rs, h => by
    have ih := lay_rows (rs := rs) fun q m => h q (List.mem_cons_of_mem _ m)
    have lp := lay_keys p.2.key (h p List.mem_cons_self)
    obtain ⟨b, r⟩ := p
    have one : PyData.canLay0 (rowD b r) = true ∧ PyData.depth (rowD b r) = 1 := by
      cases b with
      | true =>
        show PyData.canLay0 (.list (r.key.map keyD)) = true ∧ PyData.depth (.list (r.key.map keyD)) = 1
        exact ⟨by rw [PyData.canLay0]; exact lp.1, by rw [PyData.depth, lp.2]⟩
      | false =>
        show PyData.canLay0 (.tuple (r.key.map keyD)) = true ∧ PyData.depth (.tuple (r.key.map keyD)) = 1
        exact ⟨by rw [PyData.canLay0]; exact lp.1, by rw [PyData.depth, lp.2]⟩
    rw [List.map_cons]
    refine ⟨by rw [PyData.canLayAll0, one.1, ih.1]; rfl, ?_⟩
    rw [PyData.depthAll, one.2]
    omega
theorem shaped_rows {rs : List (Bool × Rl)} (h : ∀ p ∈ rs, ∀ x ∈ p.2.key, KeyOk x) : SeqAt.shaped (.list (rs.map fun p => rowD p.1 p.2)) = true ∧ PyData.eqv (.list (rs.map fun p => rowD p.1 p.2)) (.list (rs.map fun p => rowD p.1 p.2)) = true := by
  obtain ⟨a, b⟩ := lay_rows h
  have c : PyData.canLay0 (.list (rs.map fun p => rowD p.1 p.2)) = true := by
    unfold PyData.canLay0
    exact a
  refine ⟨?_, SeqAt.eqv_refl _ c⟩
  unfold SeqAt.shaped
  rw [c]
  have d : PyData.depth (.list (rs.map fun p => rowD p.1 p.2)) = PyData.depthAll (rs.map fun p => rowD p.1 p.2) + 1 := by simp [PyData.depth]
  rw [d]
  exact decide_eq_true (by omega)
theorem shaped_ints (ys : List Int) : SeqAt.shaped (.list (ys.map .int)) = true ∧ PyData.eqv (.list (ys.map .int)) (.list (ys.map .int)) = true := by
  have lay : ∀ ys : List Int, PyData.canLayAll0 (ys.map .int) = true ∧ PyData.depthAll (ys.map .int) = 0 := by
    intro ys
    induction ys with
    | nil => exact ⟨by simp [PyData.canLayAll0], by simp [PyData.depthAll]⟩
    | cons y ys ih => exact ⟨by simp only [List.map_cons, PyData.canLayAll0, PyData.canLay0, ih.1]; rfl, by simp only [List.map_cons, PyData.depthAll, PyData.depth, ih.2]; rfl⟩
  obtain ⟨a, b⟩ := lay ys
  have c : PyData.canLay0 (.list (ys.map .int)) = true := by
    unfold PyData.canLay0
    exact a
  refine ⟨?_, SeqAt.eqv_refl _ c⟩
  unfold SeqAt.shaped
  rw [c]
  have d : PyData.depth (.list (ys.map .int)) = PyData.depthAll (ys.map .int) + 1 := by simp [PyData.depth]
  rw [d, b]
  rfl
end Mk
set_option Elab.async false
set_option maxRecDepth 100000
set_option maxHeartbeats 4000000
namespace Mk
open PySem L2 Pk
section
variable {P : Program} {w : World} {K : PySem.W.Frag} {mg : PySem.Str → Option Value} {base : Heap}
/-! _law_due -/
abbrev nDue : List PySem.Str := ["letters", "states", "rules", "yes", "ordered", "found", "symbols", "guess", "k", "rule", "symbol"]
theorem scDue : FnScope nDue ["letters", "states", "rules", "yes"] (defScope sDue) := ⟨rfl, rfl, rfl, by decide +kernel, rfl, by decide +kernel, by decide +kernel⟩
def spDue (K : PySem.W.Frag) : Sp := fun vs H Q _ => ∃ (l : PySem.Str) (n : Int) (aR aY : Addr) (bR bY : Bool) (B : Kept) (ys : List Int), vs = [.str l, .int n, .ref aR, .ref aY] ∧ SqB bR K H aR (refsK B) ∧ KeptAt H B ∧ B.length ≤ 100 ∧
  (∀ p ∈ B, ∀ x ∈ p.2.k3, KeyOk x) ∧ SqB bY K H aY (ys.map V.int) ∧ ys.length ≤ 5000 ∧ ∀ (p : Addr) (H' : Hp), Same H H' → H p = none → DueAt H' p l n (B.map (·.2)) ys → Q (.ref p) H'
theorem ok_due {f : Addr} {fd : FuncData} (F : Fun K "_law_due" "_law_due" sDue f fd) (T : TM mg) (GT : Got P w K mg base "_law_each_once" 1 ["values"] (spOnceT K)) (GS : Got P w K mg base "_law_each_once" 1 ["values"] (spOnceS K))
    (GI : Got P w K mg base "_law_each_once" 1 ["values"] (spOnceI K)) : FnOk P w K mg base CX0 2 f fd ["letters", "states", "rules", "yes"] (spDue K) := by
  refine F.ok scDue (fun vs H Q E h => ?_) (fun cdv A outer s H vs Q E hr h => ?_)
  · obtain ⟨l, n, aR, aY, bR, bY, B, ys, rfl, _⟩ := h
    rfl
  · obtain ⟨l, n, aR, aY, bR, bY, B, ys, rfl, hS, hK, few, okK, hY, fewY, k⟩ := h
    have hu64 := hr.units
    refine ⟨_, pss_cons (ps_set (i := 4) scDue.nd rfl (Or.inl rfl) (pe_got GT hr (by rfl) (pa_cons (pv 2) pa_nil)))
      (pss_cons (ps_set (i := 5) scDue.nd rfl (Or.inl rfl) (pe_op op_cat
        (pe_lc (own := [("rule", 9)]) (g := gName 9) (tt := tYes) (by rfl) scDue.nd (pi_sq bR (pv 2)) (blkOk_by (own := [("rule", 9)]) (N := nDue) (sc := defScope sDue) (by decide +kernel))
          (fun _ _ _ _ _ => pg_name (i := 9) scDue.nd rfl (Or.inl rfl)) (fun _ _ _ _ _ => pts_nil) (fun _ _ _ _ _ => pe_ix (r := rIxT K) ix_tup (pv 9) pe_int fun _ _ => rfl))
        (pe_lc (own := [("rule", 9)]) (g := gName 9) (tt := tYes) (by rfl) scDue.nd (pi_sq bR (pv 2)) (blkOk_by (own := [("rule", 9)]) (N := nDue) (sc := defScope sDue) (by decide +kernel))
          (fun _ _ _ _ _ => pg_name (i := 9) scDue.nd rfl (Or.inl rfl)) (fun _ _ _ _ _ => pts_nil) (fun _ _ _ _ _ => pe_ix (r := rIxT K) ix_tup (pv 9) pe_int fun _ _ => rfl))))
      (pss_cons (ps_set (i := 6) scDue.nd rfl (Or.inl rfl) (pe_got GS hr (by rfl) (pa_cons
        (pe_lc (own := [("symbol", 10)]) (g := gName 10) (by rfl) scDue.nd (pi_list (pv 5)) (blkOk_by (own := [("symbol", 10)]) (N := nDue) (sc := defScope sDue) (by decide +kernel))
          (fun _ _ _ _ _ => pg_name (i := 10) scDue.nd rfl (Or.inl rfl)) (fun _ _ _ _ _ => pts_one (pt_cmpR op_ne (pv 10) pe_str (nomark _))) (fun _ _ _ _ _ => pv 10)) pa_nil)))
      (pss_cons (ps_set (i := 7) scDue.nd rfl (Or.inl rfl) pe_non)
      (pss_cons (ps_for PassesOwn.never rfl (pi_range1 (by rfl) T.range (pa_cons (pe_op op_sub (pe_callB call_len_seq (by rfl) T.len PySem.boot_len (pa_cons (pv 4) pa_nil)) pe_int) pa_nil)) (pg_name (i := 8) scDue.nd rfl (Or.inl rfl))
        (pss_one (ps_if (PW.pt (pw_and (pt_cmp (pc_isN (pv 7))) (pw_and1 (pt_cmpR (op_eqD hu64) (pe_slice sl_tup (pe_ix ix_list (pv 4) (pv 8) fun _ _ => rfl) po_none (po_some pe_int))
            (pe_slice sl_tup (pe_ix ix_list (pv 4) (pe_op op_add (pv 8) pe_int) fun _ _ => rfl) po_none (po_some pe_int)) (nomark _)))))
          (pss_one (ps_set (i := 7) scDue.nd rfl (Or.inl rfl) (pe_slice sl_tup (pe_ix ix_list (pv 4) (pv 8) fun _ _ => rfl) po_none (po_some pe_int)))) pss_nil)))
      (pss_one (ps_ret (pe_tup (pa_cons (pv 0) (pa_cons (pv 1) (pa_cons (pe_callTy call_tuple_of (by rfl) T.tuple PyProof.Rows.Boot.tuple (pa_cons (pv 4) pa_nil))
        (pa_cons (pe_callTy call_tuple_of (by rfl) T.tuple PyProof.Rows.Boot.tuple (pa_cons (pe_got GI hr (by rfl) (pa_cons (pv 3) pa_nil)) pa_nil))
        (pa_cons (pe_callTy call_tuple_of (by rfl) T.tuple PyProof.Rows.Boot.tuple (pa_cons (pv 6) pa_nil)) (pa_cons (pv 7) pa_nil))))))))))))), ?_⟩
    have few10 : ∀ {m : Nat}, m ≤ 10000 → m < sizeLine := fun h => Nat.lt_of_le_of_lt h (by decide)
    have lB : (refsK B).length = B.length := List.length_map ..
    -- ordered
    refine ⟨_, rfl, aR, bR, B, rfl, hS, hK, by omega, fun p4 R H1 eR kR s1 np4 h4 => ?_⟩
    have hS1 := hS.mono s1
    have hK1 : KeptAt H1 B := fun p m => s1 _ _ (hK p m)
    have col : ∀ (f : Rl → PySem.Str) {H0 H2 : Hp} {D : Addr} {i : Nat} {p : Addr × Rl}, B[i]? = some p → Same H0 H2 → H0 D = none → H2 D = some (.lst (((B.take i).map fun p => f p.2).map V.str)) →
        ∃ acc, H2 D = some (.lst acc) ∧ acc.length < sizeLine ∧ Same H0 (upd H2 D (.lst (acc ++ [V.str (f p.2)]))) ∧ (upd H2 D (.lst (acc ++ [V.str (f p.2)]))) D = some (.lst (((B.take (i + 1)).map fun p => f p.2).map V.str)) := by
      intro f H0 H2 D i p ep s nD hD
      refine ⟨_, hD, ?_, same_mut s nD, ?_⟩
      · rw [List.length_map, List.length_map, List.length_take]
        exact few10 (by omega)
      · rw [upd_same, take_at ep, List.map_append, List.map_append] <;> rfl
    -- found
    refine isq_of ⟨_, rfl, aR, rfl, ⟨_, hS1⟩, fun D1 n1 => lc_it (walk_sq (b := bR) (K := K) (a := aR) (xs := refsK B)) (fun i H' => Same H1 H' ∧ H' D1 = some (.lst (((B.take i).map fun p => p.2.tp).map V.str)))
      ⟨same_new n1, upd_same⟩ (fun i H' _ h => hS1.mono h.1) ?_ ?_⟩
    · rintro i x H2 _ hn ⟨s2, hD⟩ ⟨rfl, hi⟩
      obtain ⟨p, ep, rfl⟩ := at_refs hi
      refine ⟨rfl, ?_⟩
      exact ⟨_, rfl, p.1, p.2.vs, 2, .str p.2.tp, rfl, rfl, .inl (.inl (s2 _ _ (hK1 p (List.mem_of_getElem? ep)))), rfl, col Rl.tp ep s2 n1 hD⟩
    rintro H2 ⟨s2, hD1⟩
    rw [lB, List.take_of_length_le (Nat.le_refl _)] at hD1
    have s12 := s1.trans s2
    refine isq_of ⟨_, rfl, aR, rfl, ⟨_, hS1.mono s2⟩, fun D2 n2 => lc_it (walk_sq (b := bR) (K := K) (a := aR) (xs := refsK B)) (fun i H' => Same H2 H' ∧ H' D2 = some (.lst (((B.take i).map fun p => p.2.sy).map V.str)))
      ⟨same_new n2, upd_same⟩ (fun i H' _ h => hS1.mono (s2.trans h.1)) ?_ ?_⟩
    · rintro i x H3 _ hn ⟨s3, hD⟩ ⟨rfl, hi⟩
      obtain ⟨p, ep, rfl⟩ := at_refs hi
      refine ⟨rfl, ?_⟩
      exact ⟨_, rfl, p.1, p.2.vs, 6, .str p.2.sy, rfl, rfl, .inl (.inl (s3 _ _ (s2 _ _ (hK1 p (List.mem_of_getElem? ep))))), rfl, col Rl.sy ep s3 n2 hD⟩
    rintro H3 ⟨s3, hD2⟩
    rw [lB, List.take_of_length_le (Nat.le_refl _)] at hD2
    refine ⟨D1, D2, _, _, rfl, rfl, s3 _ _ hD1, hD2, ?_, fun D3 n3 => ?_⟩
    · rw [List.length_map, List.length_map, List.length_map, List.length_map]
      exact Nat.le_of_lt (few10 (by omega))
    have eF : (((B.map fun p => p.2.tp).map V.str) ++ ((B.map fun p => p.2.sy).map V.str)) = ((B.map (·.2)).map Rl.tp ++ (B.map (·.2)).map Rl.sy).map V.str := by
      rw [List.map_append, List.map_map, List.map_map, List.map_map, List.map_map, List.map_map, List.map_map] <;> rfl
    rw [eF]
    generalize hfs : ((B.map (·.2)).map Rl.tp ++ (B.map (·.2)).map Rl.sy) = fs
    have lfs : fs.length ≤ 200 := by
      rw [← hfs, List.length_append, List.length_map, List.length_map, List.length_map, List.length_map]
      omega
    have s4 : Same H (upd H3 D3 (.lst (fs.map V.str))) := (s12.trans s3).trans (same_new n3)
    have sR : Same H1 (upd H3 D3 (.lst (fs.map V.str))) := (s2.trans s3).trans (same_new n3)
    have hF : (upd H3 D3 (.lst (fs.map V.str))) D3 = some (.lst (fs.map V.str)) := upd_same
    dsimp only [gName]
    generalize upd H3 D3 (.lst (fs.map V.str)) = H4 at s4 sR hF ⊢
    -- symbols
    refine ⟨_, rfl, D3, rfl, ⟨_, SqL.of hF⟩, fun D5 n5 => lc_list (K := K) (a := D3) (xs := fs.map V.str) (fun i H' => Same H4 H' ∧ H' D5 = some (.lst (((fs.take i).filter fun x => decide (x ≠ nil0)).map V.str)))
      ⟨same_new n5, upd_same⟩ (fun i H' _ h => SqL.of (h.1 _ _ hF)) ?_ ?_⟩
    · rintro i x H5 hi ⟨s5, hD⟩
      rw [List.getElem?_map] at hi
      obtain ⟨x, ex, rfl⟩ := Option.map_eq_some_iff.mp hi
      refine ⟨rfl, ?_⟩
      refine ⟨_, rfl, rfl, _, rfl, ?_⟩
      have lacc : (((fs.take i).filter fun x => decide (x ≠ nil0)).map V.str).length < sizeLine := by
        rw [List.length_map]
        have z := List.length_filter_le (fun x => decide (x ≠ nil0)) (fs.take i)
        rw [List.length_take] at z
        exact few10 (by omega)
      refine ite2 (fun c => ?_) (fun c => ?_)
      · refine ⟨_, rfl, _, hD, lacc, same_mut s5 n5, ?_⟩
        have c' : x ≠ nil0 := fun z => by rw [z] at c; exact absurd c (by decide)
        rw [upd_same, take_at ex, List.filter_append, List.map_append]
        have e1 : [x].filter (fun x => decide (x ≠ nil0)) = [x] := by
          rw [List.filter_cons, if_pos (decide_eq_true c')] <;> rfl
        rw [e1] <;> rfl
      · have c' : x = nil0 := Classical.byContradiction fun z => c (by
          show (!decide (V.str x = V.str nil0)) = true
          rw [decide_eq_false (fun q => z (V.str.inj q))] <;> rfl)
        refine ⟨s5, ?_⟩
        have e1 : [x].filter (fun x => decide (x ≠ nil0)) = [] := by
          rw [List.filter_cons, if_neg (fun z => (of_decide_eq_true z : x ≠ nil0) c')] <;> rfl
        rw [hD, take_at ex, List.filter_append, e1, List.append_nil]
    rintro H5 ⟨s5, hD5⟩
    rw [List.length_map, List.take_of_length_le (Nat.le_refl _)] at hD5
    refine ⟨D5, true, _, rfl, SqL.of hD5, ?_, fun p6 H6 s6 np6 h6 => ?_⟩
    · have z := List.length_filter_le (fun x => decide (x ≠ nil0)) fs
      omega
    have hsy : Sx.asc Sx.ltText (fs.filter fun x => decide (x ≠ nil0)) = symsL (B.map (·.2)) := by rw [← hfs] <;> rfl
    rw [hsy] at h6
    have s46 := s5.trans s6
    have h46 := s4.trans s46
    have sR6 := sR.trans s46
    have h4' := sR6 _ _ h4
    have kR6 : KeptAt H6 R := fun p m => sR6 _ _ (kR p m)
    clear s2 hD1 s3 hD2 n1 n2 n3 hF s5 hD5 n5 s6
    -- guess
    have lR : R.length ≤ 100 := by
      have z := congrArg List.length eR
      rw [List.length_map] at z
      have y := rulesOf_len (B.map (·.2))
      rw [List.length_map] at y
      omega
    have okR : ∀ p ∈ R, ∀ x ∈ p.2.k3, KeyOk x := fun p m x mx => by
      have z : p.2 ∈ rulesOf (B.map (·.2)) := by rw [← eR]; exact List.mem_map.mpr ⟨p, m, rfl⟩
      obtain ⟨q, mq, eq⟩ := List.mem_map.mp ((rulesOf_mem _ _).mp z)
      rw [← eq] at mx
      exact okK q mq x mx
    have lrR : (refsK R).length = R.length := List.length_map ..
    refine ⟨_, rfl, p4, _, rfl, .inl (SqL.of h4'), _, _, rfl, rfl, ?_⟩
    rw [lrR]
    refine ⟨_, rfl, by omega, by omega, for_range (lo := 0) (n := ((R.length : Int) - 1).toNat) (fun i σ H' => Same H6 H' ∧ ∃ (g v8 : Option V) (gv : V), σ = [some (.str l), some (.int n), some (.ref aR), some (.ref aY), some (.ref p4), some (.ref D3), some (.ref p6), g, v8, none, none] ∧ g = some gv ∧ GuessV H' gv (adjK ((R.map fun p => p.2.k3).take (i + 1))))
      ⟨Same.refl _, _, none, .non, rfl, rfl, ?_⟩ ?_ ?_⟩
    · cases R with
      | nil => rfl
      | cons p R => rfl
    · rintro i σ H7 hi ⟨s7, g, v8, gv, rfl, rfl, hg⟩
      have li : i + 1 < R.length := by omega
      obtain ⟨a, ea⟩ : ∃ a, R[i]? = some a := ⟨R[i], List.getElem?_eq_getElem (by omega)⟩
      obtain ⟨b, eb⟩ : ∃ b, R[i + 1]? = some b := ⟨R[i + 1], List.getElem?_eq_getElem (by omega)⟩
      have ea3 : (R.map fun p => p.2.k3)[i]? = some a.2.k3 := by rw [List.getElem?_map, ea] <;> rfl
      have eb3 : (R.map fun p => p.2.k3)[i + 1]? = some b.2.k3 := by rw [List.getElem?_map, eb] <;> rfl
      have st := adjK_step ea3 eb3
      have ea1 : (refsK R)[i]? = some (.ref a.1) := by unfold refsK; rw [List.getElem?_map, ea] <;> rfl
      have eb1 : (refsK R)[i + 1]? = some (.ref b.1) := by unfold refsK; rw [List.getElem?_map, eb] <;> rfl
      have ha := s7 _ _ (kR6 a (List.mem_of_getElem? ea))
      have hb := s7 _ _ (kR6 b (List.mem_of_getElem? eb))
      have h47 := s7 _ _ h4'
      have i0 : (0 : Int) + (i : Int) = ((i : Nat) : Int) := by omega
      have i1 : (0 : Int) + (i : Int) + 1 = ((i + 1 : Nat) : Int) := by omega
      have c3 : ¬ (HT.sIx 8 0 none = 0 ∧ HT.sIx 8 8 (some 3) = 8) := by decide
      refine ⟨_, rfl, ?_⟩
      cases hgg : adjK ((R.map fun p => p.2.k3).take (i + 1)) with
      | some k0 =>
        rw [hgg] at hg st
        obtain ⟨q, rfl, tq⟩ := hg
        refine ⟨_, rfl, ?_⟩
        refine ⟨s7, _, _, _, rfl, rfl, ?_⟩
        rw [st]
        exact ⟨q, rfl, tq⟩
      | none =>
        rw [hgg] at hg st
        have e : gv = .non := hg
        subst e
        refine ⟨_, rfl, ?_⟩
        refine ⟨_, rfl, _, rfl, p4, _, _, _, rfl, rfl, SqL.of h47, by rw [i0]; exact atI_nat ea1, 3, rfl, a.1, a.2.vs, rfl, .inl (.inl ha), c3, fun qa na => ?_⟩
        have sa : Same H7 (upd H7 qa (.tup (cutV a.2.vs none (some 3)))) := same_new na
        refine ⟨_, rfl, _, rfl, _, _, rfl, rfl, p4, _, _, _, rfl, rfl, SqL.of (sa _ _ h47), by rw [i1]; exact atI_nat eb1, 3, rfl, b.1, b.2.vs, rfl, .inl (.inl (sa _ _ hb)), c3, fun qb nb => ?_⟩
        have sb := sa.trans (same_new (o := .tup (cutV b.2.vs none (some 3))) nb)
        have hqa : (upd (upd H7 qa (.tup (cutV a.2.vs none (some 3)))) qb (.tup (cutV b.2.vs none (some 3)))) qa = some (.tup (a.2.k3.map kV)) := same_new nb _ _ upd_same
        have hqb : (upd (upd H7 qa (.tup (cutV a.2.vs none (some 3)))) qb (.tup (cutV b.2.vs none (some 3)))) qb = some (.tup (b.2.k3.map kV)) := upd_same
        generalize upd (upd H7 qa (.tup (cutV a.2.vs none (some 3)))) qb (.tup (cutV b.2.vs none (some 3))) = H8 at sb hqa hqb ⊢
        refine ⟨_, _, dp_keys hqa, dp_keys hqb, shaped_keys (okR a (List.mem_of_getElem? ea)), shaped_keys (okR b (List.mem_of_getElem? eb)), _, rfl, ?_⟩
        rw [eqv_keys]
        refine ite2 (fun c => ?_) (fun c => ?_)
        · have c' := of_decide_eq_true c
          refine ⟨_, rfl, _, rfl, p4, _, _, _, rfl, rfl, SqL.of (sb _ _ h47), by rw [i0]; exact atI_nat ea1, 3, rfl, a.1, a.2.vs, rfl, .inl (.inl (sb _ _ ha)), c3, fun qc nc => ?_⟩
          refine ⟨s7.trans (sb.trans (same_new nc)), _, _, _, rfl, rfl, ?_⟩
          rw [st, if_pos c']
          exact ⟨qc, rfl, by show (upd H8 qc _) qc = _; rw [upd_same] <;> rfl⟩
        · have c' : ¬ a.2.k3 = b.2.k3 := fun z => c (decide_eq_true z)
          refine ⟨s7.trans sb, _, _, _, rfl, rfl, ?_⟩
          rw [st, if_neg c']
          rfl
    · rintro σ H7 ⟨s7, g, v8, gv, rfl, rfl, hg⟩
      have all3 : (R.map fun p => p.2.k3) = (rulesOf (B.map (·.2))).map Rl.k3 := by rw [← eR, List.map_map] <;> rfl
      have full : (R.map fun p => p.2.k3).take (((R.length : Int) - 1).toNat + 1) = (rulesOf (B.map (·.2))).map Rl.k3 := by
        rw [List.take_of_length_le (by rw [List.length_map]; omega), all3]
      rw [full] at hg
      have h67 := h46.trans s7
      refine ⟨_, rfl, _, rfl, _, rfl, p4, _, rfl, .inl ⟨SqL.of (s7 _ _ h4'), fun qR nR => ?_⟩⟩
      have tR := same_new (o := HO.tup (refsK R)) nR
      refine ⟨_, rfl, aY, bY, ys, rfl, hY.mono (h67.trans tR), by omega, fun pY H8 s8 npY hpY => ?_⟩
      refine ⟨pY, _, rfl, .inl ⟨SqL.of hpY, fun qY nY => ?_⟩⟩
      have s78 := (tR.trans s8).trans (same_new (o := HO.tup ((intsOf ys).map V.int)) nY)
      have hqY : (upd H8 qY (.tup ((intsOf ys).map V.int))) qY = some (.tup ((intsOf ys).map V.int)) := upd_same
      have hqR : (upd H8 qY (.tup ((intsOf ys).map V.int))) qR = some (.tup (refsK R)) := (s8.trans (same_new nY)) _ _ upd_same
      dsimp only
      generalize upd H8 qY (.tup ((intsOf ys).map V.int)) = H9 at s78 hqY hqR ⊢
      refine ⟨_, rfl, p6, _, rfl, .inl ⟨SqL.of (s78 _ _ (s7 _ _ h6)), fun qS nS => ?_⟩⟩
      have sS := same_new (o := HO.tup ((symsL (B.map (·.2))).map V.str)) nS
      refine ⟨_, rfl, show 6 ≤ sizeLine by decide, fun p np => ?_⟩
      have sP := sS.trans (same_new (o := HO.tup [V.str l, V.int n, V.ref qR, V.ref qY, V.ref qS, gv]) np)
      have sAll := h67.trans (s78.trans sP)
      refine k p _ sAll ((h67.trans (s78.trans sS)).free np) ⟨qR, qY, qS, gv, R, upd_same, sP _ _ hqR, fun q m => sP _ _ (s78 _ _ (s7 _ _ (kR6 q m))), eR, sP _ _ hqY, same_new np _ _ upd_same, ?_⟩
      exact GuessV.tk hg (Tk.of (s78.trans sP))
end
end Mk
set_option Elab.async false
set_option linter.all false
set_option maxRecDepth 100000
set_option maxHeartbeats 4000000
/-! the words and lines of a machine's notes -/
namespace Mk
open PySem L2 Pk
abbrev sp0 : PySem.Str := PySem.Str.ofString " "
abbrev nl0 : PySem.Str := PySem.Str.ofString "\n"
abbrev em0 : PySem.Str := PySem.Str.ofString ""
abbrev say0 : PySem.Str := PySem.Str.ofString "say"
abbrev num (n : Int) : PySem.Str := PySem.Str.ofString (toString n)
abbrev tl (x : PySem.Str) : List Nat := x.cps.toList
def Plain (x : PySem.Str) : Prop := ∀ c ∈ tl x, 33 ≤ c
def moveW (v : Int) : PySem.Str := if v = -1 then PySem.Str.ofString "left" else if v = 0 then PySem.Str.ofString "stay" else PySem.Str.ofString "right"
def topW (t : PySem.Str) : PySem.Str := if t = nil0 then PySem.Str.ofString "-" else t
def wordsOf (r : Rl) : List PySem.Str := [num r.st, r.sg, topW r.tp, num r.af, moveW r.mv, r.de] ++ ((if r.sy = nil0 then [] else [r.sy]) ++ (if r.sa = nil0 then [] else [say0, r.sa]))
def lineOf (r : Rl) : PySem.Str := Txt.join sp0 (wordsOf r)
def headL (l : PySem.Str) : PySem.Str := Txt.join sp0 [PySem.Str.ofString "letters", l]
def headS (n : Int) : PySem.Str := Txt.join sp0 [PySem.Str.ofString "states", num n]
def headY (ys : List Int) : PySem.Str := Txt.join sp0 (PySem.Str.ofString "yes" :: ys.map num)
def linesOf (l : PySem.Str) (n : Int) (rs : List Rl) (ys : List Int) : List PySem.Str := headL l :: headS n :: headY ys :: rs.map lineOf
theorem joinL_len (S : List Nat) : ∀ ps : List (List Nat), (TL.joinL S ps).length ≤ (ps.map (·.length)).sum + ps.length * S.length
  | [] => Nat.zero_le _
  | [p] => by
    show p.length ≤ _
    simp
  | p :: q :: r => by
    have ih := joinL_len S (q :: r)
    show (p ++ (S ++ TL.joinL S (q :: r))).length ≤ _
    rw [List.length_append, List.length_append, List.map_cons, List.sum_cons, List.length_cons, Nat.succ_mul]
    omega
theorem joinL_mem (S : List Nat) {c : Nat} : ∀ {ps : List (List Nat)}, c ∈ TL.joinL S ps → c ∈ S ∨ ∃ p ∈ ps, c ∈ p
  | [], h => absurd h List.not_mem_nil
  | [p], h => .inr ⟨p, List.mem_singleton.mpr rfl, h⟩
  | p :: q :: r, h => by
    have h' : c ∈ p ++ (S ++ TL.joinL S (q :: r)) := h
    rcases List.mem_append.mp h' with m | m
    · exact .inr ⟨p, List.mem_cons_self, m⟩
    rcases List.mem_append.mp m with m | m
    · exact .inl m
    rcases joinL_mem S m with m | ⟨z, mz, m⟩
    · exact .inl m
    · exact .inr ⟨z, List.mem_cons_of_mem _ mz, m⟩
theorem tl_joinT (y : PySem.Str) (ps : List PySem.Str) : tl (Txt.join y ps) = TL.joinL (tl y) (ps.map tl) := by
  rw [TL.join_eq]
  exact TL.tl_join y ps
theorem tl_sp : tl sp0 = [32] := by decide +kernel
theorem tl_nl : tl nl0 = [10] := by decide +kernel
theorem tl_em : tl em0 = [] := by decide +kernel
theorem str_eq {x y : PySem.Str} (h : tl x = tl y) : x = y := TL.ext_tl h
theorem split_words {ws : List PySem.Str} (ne : ws ≠ []) (h : ∀ w ∈ ws, Plain w) : Txt.split (Txt.join sp0 ws) sp0 = ws :=
  TL.split_join (s := 32) (S := []) tl_sp (by decide +kernel) ne fun p m c => by have := h p m 32 c; omega
theorem split_lines {ls : List PySem.Str} (ne : ls ≠ []) (h : ∀ w ∈ ls, 10 ∉ tl w) : Txt.split (Txt.join nl0 ls) nl0 = ls :=
  TL.split_join (s := 10) (S := []) tl_nl (by decide +kernel) ne h
theorem plain_num {n : Int} (h : 0 ≤ n) : Plain (num n) := by
  obtain ⟨k, rfl⟩ := Int.eq_ofNat_of_zero_le h
  intro c m
  have m' : c ∈ TL.numL k := by rw [← TL.tl_num k]; exact m
  have z := TL.numL_digits k c m'
  have y : ¬ (c < 48 ∨ 57 < c) := fun z => TL.numL_free z m'
  omega
theorem num_len {n : Int} (h : 0 ≤ n) (h2 : n ≤ 2000) : 1 ≤ (num n).length ∧ (num n).length ≤ 4 := by
  obtain ⟨k, rfl⟩ := Int.eq_ofNat_of_zero_le h
  have e : (num (k : Int)).length = (TL.numL k).length := by rw [← TL.tl_num k]; exact (Array.length_toList).symm
  rw [e]
  refine ⟨?_, TL.numL_len (by decide) (show k < 10 ^ 4 by omega)⟩
  have z := TL.numL_ne k
  cases q : TL.numL k with
  | nil => exact absurd q z
  | cons => rw [List.length_cons]; omega
theorem low_plain {x : PySem.Str} (h : lowB x = true) : Plain x := fun c m => by
  have y := List.all_eq_true.mp h c m
  unfold lowC at y
  rw [Bool.and_eq_true, decide_eq_true_eq, decide_eq_true_eq] at y
  omega
theorem sym_plain {x : PySem.Str} (h : symB x = true) : Plain x := fun c m => by
  unfold symB at h
  rw [Bool.and_eq_true] at h
  have y := List.all_eq_true.mp h.2 c m
  unfold markC at y
  simp only [Bool.or_eq_true, Bool.and_eq_true, decide_eq_true_eq] at y
  omega
theorem top_plain {x : PySem.Str} (h : Top x) : Plain (topW x) := by
  unfold topW
  by_cases e : x = nil0
  · rw [if_pos e]
    have z : ∀ c ∈ tl (PySem.Str.ofString "-"), 33 ≤ c := by decide +kernel
    exact z
  · rw [if_neg e]
    exact sym_plain (h.resolve_right e)
theorem sgn_plain {l x : PySem.Str} (al : Alpha l) (h : Sgn l x) : Plain x := by
  obtain ⟨c, rfl, h⟩ := h
  intro d m
  have e : d = c := List.mem_singleton.mp m
  rw [e]
  rcases h with h | h | h
  · omega
  · omega
  · exact low_plain al.low c h
theorem move_plain (v : Int) : Plain (moveW v) := by
  have z1 : ∀ c ∈ tl (PySem.Str.ofString "left"), 33 ≤ c := by decide +kernel
  have z2 : ∀ c ∈ tl (PySem.Str.ofString "stay"), 33 ≤ c := by decide +kernel
  have z3 : ∀ c ∈ tl (PySem.Str.ofString "right"), 33 ≤ c := by decide +kernel
  unfold moveW
  split
  · exact z1
  · split
    · exact z2
    · exact z3
theorem deed_plain {t d s : PySem.Str} (h : Deed t d s) : Plain d := by
  have k1 : ∀ c ∈ tl keep0, 33 ≤ c := by decide +kernel
  have k2 : ∀ c ∈ tl pop0, 33 ≤ c := by decide +kernel
  have k3 : ∀ c ∈ tl push0, 33 ≤ c := by decide +kernel
  have k4 : ∀ c ∈ tl swap0, 33 ≤ c := by decide +kernel
  rcases h.one with e | e | e | e <;> rw [e] <;> assumption
/-- the symbol stands where the deed asks for one -/
theorem deed_sym {t d s : PySem.Str} (h : Deed t d s) : (d = push0 ∨ d = swap0) ↔ s ≠ nil0 := by
  constructor
  · intro e z
    have y := h.sym e
    rw [z] at y
    exact absurd y (by decide +kernel)
  · intro n
    rcases h.one with e | e | e | e
    · exact absurd (h.no (.inl e)) n
    · exact absurd (h.no (.inr e)) n
    · exact .inl e
    · exact .inr e
theorem words_plain {l : PySem.Str} {n : Int} {r : Rl} (al : Alpha l) (h : RlOk l n r) : ∀ w ∈ wordsOf r, Plain w := by
  intro w m
  unfold wordsOf at m
  rcases List.mem_append.mp m with m | m
  · simp only [List.mem_cons, List.not_mem_nil, or_false] at m
    rcases m with rfl | rfl | rfl | rfl | rfl | rfl
    · exact plain_num h.st.1
    · exact sgn_plain al h.sg
    · exact top_plain h.tp
    · exact plain_num h.af.1
    · exact move_plain _
    · exact deed_plain h.de
  rcases List.mem_append.mp m with m | m
  · by_cases e : r.sy = nil0
    · rw [if_pos e] at m; exact absurd m List.not_mem_nil
    · rw [if_neg e] at m
      rw [List.mem_singleton.mp m]
      exact sym_plain (h.de.sym ((deed_sym h.de).mpr e))
  · by_cases e : r.sa = nil0
    · rw [if_pos e] at m; exact absurd m List.not_mem_nil
    · rw [if_neg e] at m
      have z : ∀ c ∈ tl say0, 33 ≤ c := by decide +kernel
      rcases List.mem_cons.mp m with rfl | m
      · exact z
      · rw [List.mem_singleton.mp m]
        exact low_plain h.sa.1
theorem words_ne (r : Rl) : wordsOf r ≠ [] := by
  unfold wordsOf
  exact fun z => nomatch z
theorem sgn_len {l x : PySem.Str} (h : Sgn l x) : x.length = 1 := by
  obtain ⟨c, rfl, _⟩ := h
  rfl
theorem words_len {l : PySem.Str} {n : Int} {r : Rl} (n2 : n ≤ 2000) (h : RlOk l n r) : (∀ w ∈ wordsOf r, w.length ≤ 8) ∧ (wordsOf r).length ≤ 9 := by
  constructor
  · intro w m
    unfold wordsOf at m
    rcases List.mem_append.mp m with m | m
    · simp only [List.mem_cons, List.not_mem_nil, or_false] at m
      rcases m with rfl | rfl | rfl | rfl | rfl | rfl
      · have := (num_len h.st.1 (by have := h.st.2; omega)).2; omega
      · rw [sgn_len h.sg]; decide
      · unfold topW
        split
        · decide +kernel
        · exact top_len h.tp
      · have := (num_len h.af.1 (by have := h.af.2; omega)).2; omega
      · unfold moveW
        split
        · decide +kernel
        · split <;> decide +kernel
      · rcases h.de.one with e | e | e | e <;> rw [e] <;> decide +kernel
    rcases List.mem_append.mp m with m | m
    · by_cases e : r.sy = nil0
      · rw [if_pos e] at m; exact absurd m List.not_mem_nil
      · rw [if_neg e] at m
        rw [List.mem_singleton.mp m]
        exact top_len (.inl (h.de.sym ((deed_sym h.de).mpr e)))
    · by_cases e : r.sa = nil0
      · rw [if_pos e] at m; exact absurd m List.not_mem_nil
      · rw [if_neg e] at m
        rcases List.mem_cons.mp m with rfl | m
        · decide +kernel
        · rw [List.mem_singleton.mp m]
          have := h.sa.2
          omega
  · unfold wordsOf
    rw [List.length_append, List.length_append]
    split <;> split <;> simp
theorem sum_le {k : Nat} : ∀ {ws : List PySem.Str}, (∀ w ∈ ws, w.length ≤ k) → (ws.map (·.length)).sum ≤ ws.length * k
  | [], _ => Nat.zero_le _
  | w :: ws, h => by
    have ih := sum_le (ws := ws) fun v m => h v (List.mem_cons_of_mem _ m)
    have h1 := h w List.mem_cons_self
    rw [List.map_cons, List.sum_cons, List.length_cons, Nat.succ_mul]
    omega
theorem join_len (y : PySem.Str) (ws : List PySem.Str) : (Txt.join y ws).length ≤ (ws.map (·.length)).sum + ws.length * y.length := by
  have z := joinL_len (tl y) (ws.map tl)
  rw [← tl_joinT, List.map_map, List.length_map] at z
  have e1 : (tl (Txt.join y ws)).length = (Txt.join y ws).length := Array.length_toList
  have e2 : (tl y).length = y.length := Array.length_toList
  have e3 : (ws.map ((fun l : List Nat => l.length) ∘ tl)) = ws.map (·.length) := List.map_congr_left fun w _ => Array.length_toList
  rw [e1, e2, e3] at z
  exact z
theorem line_len {l : PySem.Str} {n : Int} {r : Rl} (n2 : n ≤ 2000) (h : RlOk l n r) : (lineOf r).length ≤ 100 := by
  obtain ⟨a, b⟩ := words_len n2 h
  have z := join_len sp0 (wordsOf r)
  have y := sum_le a
  have e : sp0.length = 1 := by decide +kernel
  rw [e] at z
  unfold lineOf
  omega
theorem line_free {ws : List PySem.Str} (h : ∀ w ∈ ws, Plain w) : 10 ∉ tl (Txt.join sp0 ws) := fun m => by
  rw [tl_joinT] at m
  rcases joinL_mem _ m with m | ⟨p, mp, m⟩
  · rw [tl_sp] at m
    exact absurd (List.mem_singleton.mp m) (by decide)
  · obtain ⟨w, mw, rfl⟩ := List.mem_map.mp mp
    have := h w mw 10 m
    omega
end Mk
set_option Elab.async false
set_option maxRecDepth 100000
set_option maxHeartbeats 4000000
namespace Mk
open PySem L2 Pk
abbrev sRuleLine : Stmt := top 42
abbrev sWrite : Stmt := top 43
/-- the dict MOVE_WORDS -/
structure MW (K : PySem.W.Frag) (mg : PySem.Str → Option Value) : Prop where
  ex : ∃ (a : Addr) (es : Array DictEntry) (n : Nat) (u1 u2 u3 : Value), mg "MOVE_WORDS" = some (.ref a) ∧ Sx.KDI K a es n ∧ findBy Value.isInt es (-1) = some u1 ∧ findBy Value.isInt es 0 = some u2 ∧ findBy Value.isInt es 1 = some u3 ∧
    RelV (.str (PySem.Str.ofString "left")) u1 ∧ RelV (.str (PySem.Str.ofString "stay")) u2 ∧ RelV (.str (PySem.Str.ofString "right")) u3
theorem mv_three {s : PySem.Str} {v : Int} (h : Mv s v) : v = -1 ∨ v = 0 ∨ v = 1 := by
  have a := h.lo
  have b := h.hi
  omega
theorem log_small {n : Nat} (h : n ≤ 5000) : n.log2 < 1920 := by
  by_cases z : n = 0
  · rw [z]; decide
  · exact (Nat.log2_lt z).mpr (Nat.lt_of_le_of_lt h (Nat.lt_of_lt_of_le (show 5000 < 2 ^ 13 by decide) (Nat.pow_le_pow_right (show 0 < 2 by decide) (show 13 ≤ 1920 by decide))))
theorem len0 {x : PySem.Str} : x.length = 0 ↔ x = nil0 := by
  constructor
  · intro h
    have z : tl x = [] := (TL.len0_tl x).mp h
    exact str_eq (by rw [z]; decide +kernel)
  · intro h
    rw [h]
    decide +kernel
theorem tru_str {K : PySem.W.Frag} {H : Hp} {x : PySem.Str} (h : x.length ≤ 1000) : TruV K (.str x) H (!decide (x = nil0)) := by
  refine ⟨Nat.le_trans h (by decide), ?_⟩
  by_cases e : x = nil0
  · rw [decide_eq_true e, e]
    decide +kernel
  · rw [decide_eq_false e]
    have z : x.length ≠ 0 := fun z => e (len0.mp z)
    have y : ((x.length : Int) != 0) = true := by
      rw [bne_iff_ne]
      omega
    rw [y] <;> rfl
section
variable {P : Program} {w : World} {K : PySem.W.Frag} {mg : PySem.Str → Option Value} {base : Heap}
/-! rule_line -/
def spLineP : Sp := fun vs H Q _ => ∃ (t : Addr) (r : Rl) (l : PySem.Str) (n : Int), vs = [.ref t] ∧ H t = some (.tup r.vs) ∧ Alpha l ∧ RlOk l n r ∧ n ≤ 2000 ∧ ∀ H', Same H H' → Q (.str (lineOf r)) H'
abbrev nRL : List PySem.Str := ["rule", "state", "sign", "top", "after", "move", "deed", "symbol", "said", "words"]
theorem scRL : FnScope nRL ["rule"] (defScope sRuleLine) := ⟨rfl, rfl, rfl, by decide +kernel, rfl, by decide +kernel, by decide +kernel⟩
theorem join_small {l : PySem.Str} {n : Int} {r : Rl} (n2 : n ≤ 2000) (ok : RlOk l n r) : ((wordsOf r).map (·.length)).sum + (wordsOf r).length * sp0.length ≤ 16777216 := by
  obtain ⟨a, b⟩ := words_len n2 ok
  have y := sum_le a
  have e : sp0.length = 1 := by decide +kernel
  rw [e]
  omega
theorem ok_ruleline {f : Addr} {fd : FuncData} (F : Fun K "rule_line" "rule_line" sRuleLine f fd) (T : TM mg) (W : MW K mg) : FnOk P w K mg base CX0 1 f fd ["rule"] spLineP := by
  refine F.ok scRL (fun vs H Q E h => ?_) (fun cdv A outer s H vs Q E hr h => ?_)
  · obtain ⟨t, r, l, n, rfl, _⟩ := h
    rfl
  · obtain ⟨t, r, l, n, rfl, ht, al, ok, n2, k⟩ := h
    obtain ⟨aW, es, nW, u1, u2, u3, gW, KD, f1, f2, f3, r1, r2, r3⟩ := W.ex
    refine ⟨_, pss_cons (ps_asg (pv 0) (pg_sq false (by rfl) (pgs_cons (pg_name (i := 1) scRL.nd rfl (Or.inl rfl)) (pgs_cons (pg_name (i := 2) scRL.nd rfl (Or.inl rfl)) (pgs_cons (pg_name (i := 3) scRL.nd rfl (Or.inl rfl)) (pgs_cons (pg_name (i := 4) scRL.nd rfl (Or.inl rfl))
        (pgs_cons (pg_name (i := 5) scRL.nd rfl (Or.inl rfl)) (pgs_cons (pg_name (i := 6) scRL.nd rfl (Or.inl rfl)) (pgs_cons (pg_name (i := 7) scRL.nd rfl (Or.inl rfl)) (pgs_cons (pg_name (i := 8) scRL.nd rfl (Or.inl rfl)) pgs_nil))))))))))
      (C8.pss_cut (ps_set (i := 9) scRL.nd rfl (Or.inl rfl) (pe_lst (pa_cons (pe_callTy call_str_int (by rfl) T.str PyProof.Rows.Boot.str (pa_cons (pv 1) pa_nil)) (pa_cons (pv 2) (pa_cons (pe_orT (pv 3) (pe_one pe_str)) (pa_cons (pe_callTy call_str_int (by rfl) T.str PyProof.Rows.Boot.str (pa_cons (pv 4) pa_nil))
        (pa_cons (pe_ix Sx.ix_kdi (pe_glob (v := .ref aW) (by rfl) gW rfl) (pv 5) fun _ _ => rfl) (pa_cons (pv 6) pa_nil))))))))
      (C8.pss_cut (ps_if (pt_truth (pv 7) fun _ => rfl) (pss_one (ps_expr (pe_bm PySem.F.plainAttrs_list PySem.F.slot_list_append PySem.F.type_list_append mt_append (pv 9) (pa_cons (pv 7) pa_nil)))) pss_nil)
      (C8.pss_cut (ps_if (pt_truth (pv 8) fun _ => rfl) (pss_one (ps_expr (pe_bm PySem.F.plainAttrs_list PySem.F.slot_list_extend PySem.F.type_list_extend mt_extend (pv 9) (pa_cons (pe_lst (pa_cons pe_str (pa_cons (pv 8) pa_nil))) pa_nil)))) pss_nil)
      (pss_one (ps_ret (pe_join pe_str (pv 9))))))), ?_⟩
    have st2 : r.st ≤ 2000 := by have := ok.st.2; omega
    have af2 : r.af ≤ 2000 := by have := ok.af.2; omega
    have sm : ∀ {z : Int}, 0 ≤ z → z ≤ 2000 → z.natAbs.log2 < 1920 := fun h1 h2 => log_small (by omega)
    refine ⟨_, rfl, gsq_of ⟨t, r.vs, rfl, .inl (.inl ht), rfl, _, _, rfl, _, _, rfl, _, _, rfl, _, _, rfl, _, _, rfl, _, _, rfl, _, _, rfl, _, _, rfl, rfl, ?_⟩⟩
    obtain ⟨um, fm, rm⟩ : ∃ u, findBy Value.isInt es r.mv = some u ∧ RelV (.str (moveW r.mv)) u := by
      rcases mv_three ok.mv with e | e | e <;> rw [e]
      · exact ⟨u1, f1, r1⟩
      · exact ⟨u2, f2, r2⟩
      · exact ⟨u3, f3, r3⟩
    refine ⟨fun σ' H' => ∃ a, σ' = [some (.ref t), some (.int r.st), some (.str r.sg), some (.str r.tp), some (.int r.af), some (.int r.mv), some (.str r.de), some (.str r.sy), some (.str r.sa), some (.ref a)] ∧ Same H H' ∧ H a = none ∧ H' a = some (.lst (([num r.st, r.sg, topW r.tp, num r.af, moveW r.mv, r.de] : List PySem.Str).map V.str)), ?_, ?_⟩
    · refine ⟨_, rfl, r.st, rfl, sm ok.st.1 st2, _, rfl, _, rfl, _, tru_str (Nat.le_trans (top_len ok.tp) (by decide)), ?_⟩
      by_cases e : r.tp = nil0
      · have et : topW r.tp = PySem.Str.ofString "-" := by unfold topW; rw [if_pos e]
        rw [et, decide_eq_true e]
        refine iteF ⟨_, rfl, r.af, rfl, sm ok.af.1 af2, _, rfl, aW, r.mv, es, nW, um, _, rfl, rfl, KD, fm, rm, _, rfl, show 6 ≤ sizeLine by decide, fun a na => ?_⟩
        exact ⟨a, rfl, same_new na, na, upd_same⟩
      · have et : topW r.tp = r.tp := by unfold topW; rw [if_neg e]
        rw [et, decide_eq_false e]
        refine iteT ⟨_, rfl, r.af, rfl, sm ok.af.1 af2, _, rfl, aW, r.mv, es, nW, um, _, rfl, rfl, KD, fm, rm, _, rfl, show 6 ≤ sizeLine by decide, fun a na => ?_⟩
        exact ⟨a, rfl, same_new na, na, upd_same⟩
    rintro _ H1 ⟨a, rfl, s1, na, h1⟩
    -- the symbol
    refine ⟨fun σ' H' => σ' = [some (.ref t), some (.int r.st), some (.str r.sg), some (.str r.tp), some (.int r.af), some (.int r.mv), some (.str r.de), some (.str r.sy), some (.str r.sa), some (.ref a)] ∧ Same H H' ∧ H' a = some (.lst (([num r.st, r.sg, topW r.tp, num r.af, moveW r.mv, r.de] ++ if r.sy = nil0 then [] else [r.sy]).map V.str)), ?_, ?_⟩
    · have sy8 : r.sy.length ≤ 1000 := by
        by_cases e : r.sy = nil0
        · rw [e]; decide +kernel
        · exact Nat.le_trans (top_len (.inl (ok.de.sym ((deed_sym ok.de).mpr e)))) (by decide)
      refine ⟨_, rfl, _, tru_str sy8, ?_⟩
      by_cases e : r.sy = nil0
      · rw [decide_eq_true e, if_pos e]
        exact iteF ⟨rfl, s1, h1⟩
      · rw [decide_eq_false e, if_neg e]
        refine iteT ⟨_, rfl, .inl ⟨rfl, _, SqL.of h1⟩, _, rfl, a, _, _, rfl, rfl, h1, (by show 6 < sizeLine; decide), rfl, same_mut s1 na, ?_⟩
        rw [upd_same] <;> rfl
    rintro _ H2 ⟨rfl, s2, h2⟩
    refine ⟨fun σ' H' => σ' = [some (.ref t), some (.int r.st), some (.str r.sg), some (.str r.tp), some (.int r.af), some (.int r.mv), some (.str r.de), some (.str r.sy), some (.str r.sa), some (.ref a)] ∧ Same H H' ∧ H' a = some (.lst ((wordsOf r).map V.str)), ?_, ?_⟩
    · refine ⟨_, rfl, _, tru_str (Nat.le_trans ok.sa.2 (by decide)), ?_⟩
      by_cases e : r.sa = nil0
      · rw [decide_eq_true e]
        refine iteF ⟨rfl, s2, ?_⟩
        rw [h2]
        unfold wordsOf
        rw [if_pos e, List.append_nil]
      · rw [decide_eq_false e]
        refine iteT ⟨_, rfl, .inl ⟨rfl, _, SqL.of h2⟩, _, rfl, show 2 ≤ sizeLine by decide, fun b nb => ?_⟩
        have ab : a ≠ b := fun z => by rw [← z, h2] at nb; cases nb
        refine ⟨a, b, _, _, rfl, rfl, by rw [upd_ne ab]; exact h2, upd_same, ?_, rfl, same_mut (s2.trans (same_new nb)) na, ?_⟩
        · rw [List.length_map, List.length_append]
          refine Nat.le_trans (Nat.add_le_add_right (Nat.add_le_add_left (show _ ≤ 1 by split <;> simp) _) _) (show 6 + 1 + 2 ≤ sizeLine by decide)
        · rw [upd_same]
          unfold wordsOf
          rw [if_neg e, List.map_append, List.map_append, List.map_append, List.append_assoc] <;> rfl
    rintro _ H3 ⟨rfl, s3, h3⟩
    exact ⟨⟨_, rfl⟩, _, rfl, _, a, _, rfl, rfl, .inl (SqL.of h3), join_small n2 ok, k H3 s3⟩
end
end Mk
set_option Elab.async false
set_option maxRecDepth 100000
set_option maxHeartbeats 4000000
namespace Mk
open PySem L2 Pk
theorem join2 (a b : PySem.Str) : Txt.join sp0 [a, b] = a ++ sp0 ++ b := by
  refine str_eq ?_
  rw [tl_joinT]
  show TL.joinL (TL.tl sp0) [TL.tl a, TL.tl b] = TL.tl (a ++ sp0 ++ b)
  rw [TL.tl_append, TL.tl_append, List.append_assoc] <;> rfl
theorem headL_eq (l : PySem.Str) : PySem.Str.ofString "letters " ++ l = headL l := by
  unfold headL
  rw [join2]
  have z : PySem.Str.ofString "letters " = PySem.Str.ofString "letters" ++ sp0 := by decide +kernel
  rw [z]
theorem headS_eq (n : Int) : PySem.Str.ofString "states " ++ num n = headS n := by
  unfold headS
  rw [join2]
  have z : PySem.Str.ofString "states " = PySem.Str.ofString "states" ++ sp0 := by decide +kernel
  rw [z]
def Nums (ys : List Int) : Prop := ys.length ≤ 3000 ∧ ∀ y ∈ ys, 0 ≤ y ∧ y ≤ 2000
theorem nums_sum {ys : List Int} (h : Nums ys) : ((PySem.Str.ofString "yes" :: ys.map num).map (·.length)).sum + (PySem.Str.ofString "yes" :: ys.map num).length * sp0.length ≤ 20000 := by
  have e1 : (PySem.Str.ofString "yes").length = 3 := by decide +kernel
  have e2 : sp0.length = 1 := by decide +kernel
  have y := sum_le (k := 4) (ws := ys.map num) fun w m => by
    obtain ⟨z, mz, rfl⟩ := List.mem_map.mp m
    exact (num_len (h.2 z mz).1 (h.2 z mz).2).2
  have l := h.1
  rw [List.length_map] at y
  rw [List.map_cons, List.sum_cons, List.length_cons, e1, e2, List.length_map]
  omega
theorem headY_len {ys : List Int} (h : Nums ys) : (headY ys).length ≤ 20000 := Nat.le_trans (join_len _ _) (nums_sum h)
theorem str_len_app (a b : PySem.Str) : (a ++ b).length = a.length + b.length := by
  have e : (TL.tl (a ++ b)).length = (TL.tl a).length + (TL.tl b).length := by rw [TL.tl_append, List.length_append]
  have z : ∀ x : PySem.Str, (TL.tl x).length = x.length := fun x => Array.length_toList
  rw [z, z, z] at e
  exact e
theorem headL_len {l : PySem.Str} (h : l.length ≤ 26) : (headL l).length ≤ 100 := by
  rw [← headL_eq, str_len_app]
  have e : (PySem.Str.ofString "letters ").length = 8 := by decide +kernel
  omega
theorem headS_len {n : Int} (h : 0 ≤ n) (h2 : n ≤ 2000) : (headS n).length ≤ 100 := by
  rw [← headS_eq, str_len_app]
  have e : (PySem.Str.ofString "states ").length = 7 := by decide +kernel
  have := (num_len h h2).2
  omega
section
variable {P : Program} {w : World} {K : PySem.W.Frag} {mg : PySem.Str → Option Value} {base : Heap}
/-! _law_line -/
abbrev nLL : List PySem.Str := ["rule", "words"]
theorem scLL : FnScope nLL ["rule"] (defScope sLine) := ⟨rfl, rfl, rfl, by decide +kernel, rfl, by decide +kernel, by decide +kernel⟩
theorem ok_lline {f : Addr} {fd : FuncData} (F : Fun K "_law_line" "_law_line" sLine f fd) (T : TM mg) : FnOk P w K mg base CX0 1 f fd ["rule"] spLineP := by
  refine F.ok scLL (fun vs H Q E h => ?_) (fun cdv A outer s H vs Q E hr h => ?_)
  · obtain ⟨t, r, l, n, rfl, _⟩ := h
    rfl
  · obtain ⟨t, r, l, n, rfl, ht, al, ok, n2, k⟩ := h
    refine ⟨_, pss_cons (ps_set (i := 1) scLL.nd rfl (Or.inl rfl) (pe_lst (pa_cons (pe_callTy call_str_int (by rfl) T.str PyProof.Rows.Boot.str (pa_cons (pe_ix ix_tup (pv 0) pe_int fun _ _ => rfl) pa_nil)) (pa_cons (pe_ix ix_tup (pv 0) pe_int fun _ _ => rfl) (pa_cons (pe_ix ix_tup (pv 0) pe_int fun _ _ => rfl)
        (pa_cons (pe_callTy call_str_int (by rfl) T.str PyProof.Rows.Boot.str (pa_cons (pe_ix ix_tup (pv 0) pe_int fun _ _ => rfl) pa_nil)) (pa_cons (pe_ix ix_list (pe_lst (pa_cons pe_str (pa_cons pe_str (pa_cons pe_str pa_nil)))) (pe_op op_add (pe_ix ix_tup (pv 0) pe_int fun _ _ => rfl) pe_int) fun _ _ => rfl)
        (pa_cons (pe_ix ix_tup (pv 0) pe_int fun _ _ => rfl) pa_nil))))))))
      (C8.pss_cut (ps_if (pt_cmpR op_eq (pe_ix ix_tup (pv 0) pe_int fun _ _ => rfl) pe_str (nomark _)) (pss_one (ps_asg pe_str (pg_sub (pv 1) pe_int set_list))) pss_nil)
      (C8.pss_cut (ps_if (PW.pt (pw_or (pt_cmpR op_eq (pe_ix ix_tup (pv 0) pe_int fun _ _ => rfl) pe_str (nomark _)) (pw_or1 (pt_cmpR op_eq (pe_ix ix_tup (pv 0) pe_int fun _ _ => rfl) pe_str (nomark _)))))
        (pss_one (ps_expr (pe_bm PySem.F.plainAttrs_list PySem.F.slot_list_append PySem.F.type_list_append mt_append (pv 1) (pa_cons (pe_ix ix_tup (pv 0) pe_int fun _ _ => rfl) pa_nil)))) pss_nil)
      (C8.pss_cut (ps_if (pt_cmpR op_ne (pe_ix ix_tup (pv 0) pe_int fun _ _ => rfl) pe_str (nomark _)) (pss_one (ps_set (i := 1) scLL.nd rfl (Or.inl rfl) (pe_op op_cat (pv 1) (pe_lst (pa_cons pe_str (pa_cons (pe_ix ix_tup (pv 0) pe_int fun _ _ => rfl) pa_nil)))))) pss_nil)
      (pss_one (ps_ret (pe_join pe_str (pv 1))))))), ?_⟩
    have st2 : r.st ≤ 2000 := by have := ok.st.2; omega
    have af2 : r.af ≤ 2000 := by have := ok.af.2; omega
    have sm : ∀ {z : Int}, 0 ≤ z → z ≤ 2000 → z.natAbs.log2 < 1920 := fun h1 h2 => log_small (by omega)
    have sq : ∀ {H' : Hp}, Same H H' → SqT K H' t r.vs := fun s => .inl (.inl (s _ _ ht))
    have s0 := Same.refl H
    have mvs : atI [V.str (PySem.Str.ofString "left"), V.str (PySem.Str.ofString "stay"), V.str (PySem.Str.ofString "right")] (r.mv + 1) = some (.str (moveW r.mv)) := by
      rcases mv_three ok.mv with e | e | e <;> rw [e] <;> rfl
    refine ⟨_, rfl, t, _, 0, .int r.st, rfl, rfl, sq s0, rfl, r.st, rfl, sm ok.st.1 st2, _, rfl, t, _, 1, .str r.sg, rfl, rfl, sq s0, rfl, _, rfl, t, _, 2, .str r.tp, rfl, rfl, sq s0, rfl, _, rfl, t, _, 3, .int r.af, rfl, rfl, sq s0, rfl, r.af, rfl, sm ok.af.1 af2, show 3 ≤ sizeLine by decide, fun u nu => ?_⟩
    have su := same_new (o := HO.lst [V.str (PySem.Str.ofString "left"), V.str (PySem.Str.ofString "stay"), V.str (PySem.Str.ofString "right")]) nu
    refine ⟨_, rfl, t, _, 4, .int r.mv, rfl, rfl, sq su, rfl, _, _, rfl, rfl, u, _, _, .str (moveW r.mv), rfl, rfl, SqL.of upd_same, mvs, _, rfl, t, _, 5, .str r.de, rfl, rfl, sq su, rfl, show 6 ≤ sizeLine by decide, fun a na => ?_⟩
    have s1 := su.trans (same_new (o := HO.lst [V.str (num r.st), V.str r.sg, V.str r.tp, V.str (num r.af), V.str (moveW r.mv), V.str r.de]) na)
    have n0 := su.free na
    have h1 : (upd (upd H u (.lst [V.str (PySem.Str.ofString "left"), V.str (PySem.Str.ofString "stay"), V.str (PySem.Str.ofString "right")])) a (.lst [V.str (num r.st), V.str r.sg, V.str r.tp, V.str (num r.af), V.str (moveW r.mv), V.str r.de])) a = some (.lst [V.str (num r.st), V.str r.sg, V.str r.tp, V.str (num r.af), V.str (moveW r.mv), V.str r.de]) := upd_same
    dsimp only [gName]
    generalize upd (upd H u (.lst [V.str (PySem.Str.ofString "left"), V.str (PySem.Str.ofString "stay"), V.str (PySem.Str.ofString "right")])) a (.lst [V.str (num r.st), V.str r.sg, V.str r.tp, V.str (num r.af), V.str (moveW r.mv), V.str r.de]) = H1 at s1 h1 ⊢
    -- the top
    refine ⟨fun σ' H' => σ' = [some (.ref t), some (.ref a)] ∧ Same H H' ∧ H' a = some (.lst (([num r.st, r.sg, topW r.tp, num r.af, moveW r.mv, r.de] : List PySem.Str).map V.str)), ?_, ?_⟩
    · refine ⟨_, rfl, t, _, 2, .str r.tp, rfl, rfl, sq s1, rfl, rfl, _, rfl, ?_⟩
      refine ite2 (fun e => ?_) (fun e => ?_)
      · have e' : r.tp = nil0 := V.str.inj (of_decide_eq_true e)
        refine ⟨_, rfl, a, _, 2, 2, rfl, rfl, h1, rfl, rfl, same_mut s1 n0, ?_⟩
        rw [upd_same]
        unfold topW
        rw [if_pos e'] <;> rfl
      · have e' : ¬ r.tp = nil0 := fun z => e (decide_eq_true (by rw [z]))
        refine ⟨rfl, s1, ?_⟩
        rw [h1]
        unfold topW
        rw [if_neg e'] <;> rfl
    rintro _ H2 ⟨rfl, s2, h2⟩
    -- the symbol
    refine ⟨fun σ' H' => σ' = [some (.ref t), some (.ref a)] ∧ Same H H' ∧ H' a = some (.lst (([num r.st, r.sg, topW r.tp, num r.af, moveW r.mv, r.de] ++ if r.sy = nil0 then [] else [r.sy]).map V.str)), ?_, ?_⟩
    · have yes : (r.de = push0 ∨ r.de = swap0) → ∃ (x : V), True ∧ (∃ H', H' = upd H2 a (.lst (([num r.st, r.sg, topW r.tp, num r.af, moveW r.mv, r.de] : List PySem.Str).map V.str ++ [V.str r.sy])) ∧ H' a = some (.lst (([num r.st, r.sg, topW r.tp, num r.af, moveW r.mv, r.de] ++ if r.sy = nil0 then [] else [r.sy]).map V.str))) := by
        intro d
        have e := (deed_sym ok.de).mp d
        refine ⟨.non, trivial, _, rfl, ?_⟩
        rw [upd_same, if_neg e] <;> rfl
      have no : ¬ (r.de = push0 ∨ r.de = swap0) → H2 a = some (.lst (([num r.st, r.sg, topW r.tp, num r.af, moveW r.mv, r.de] ++ if r.sy = nil0 then [] else [r.sy]).map V.str)) := by
        intro d
        have e : r.sy = nil0 := Classical.byContradiction fun z => d ((deed_sym ok.de).mpr z)
        rw [h2, if_pos e, List.append_nil]
      refine ⟨_, rfl, t, _, 5, .str r.de, rfl, rfl, sq s2, rfl, rfl, _, rfl, ?_⟩
      refine ite2 (fun e => ?_) (fun e => ?_)
      · have e' : r.de = push0 := V.str.inj (of_decide_eq_true e)
        obtain ⟨_, _, H', eH, z⟩ := yes (.inl e')
        refine iteT ⟨_, rfl, .inl ⟨rfl, _, SqL.of h2⟩, _, rfl, t, _, 6, .str r.sy, rfl, rfl, sq s2, rfl, a, _, _, rfl, rfl, h2, (by show 6 < sizeLine; decide), rfl, same_mut s2 n0, ?_⟩
        rw [← eH]
        exact z
      · refine ⟨_, rfl, t, _, 5, .str r.de, rfl, rfl, sq s2, rfl, rfl, _, rfl, ?_⟩
        refine ite2 (fun e2 => ?_) (fun e2 => ?_)
        · have e' : r.de = swap0 := V.str.inj (of_decide_eq_true e2)
          obtain ⟨_, _, H', eH, z⟩ := yes (.inr e')
          refine ⟨_, rfl, .inl ⟨rfl, _, SqL.of h2⟩, _, rfl, t, _, 6, .str r.sy, rfl, rfl, sq s2, rfl, a, _, _, rfl, rfl, h2, (by show 6 < sizeLine; decide), rfl, same_mut s2 n0, ?_⟩
          rw [← eH]
          exact z
        · refine ⟨rfl, s2, no fun d => ?_⟩
          rcases d with d | d
          · exact e (decide_eq_true (by rw [d]))
          · exact e2 (decide_eq_true (by rw [d]))
    rintro _ H3 ⟨rfl, s3, h3⟩
    -- what is said
    refine ⟨fun σ' H' => ∃ a2, σ' = [some (.ref t), some (.ref a2)] ∧ Same H H' ∧ H' a2 = some (.lst ((wordsOf r).map V.str)), ?_, ?_⟩
    · refine ⟨_, rfl, t, _, 7, .str r.sa, rfl, rfl, sq s3, rfl, rfl, _, rfl, ?_⟩
      refine ite2 (fun e => ?_) (fun e => ?_)
      · have e' : ¬ r.sa = nil0 := fun z => by rw [z] at e; exact absurd e (by decide)
        refine ⟨_, rfl, _, rfl, t, _, 7, .str r.sa, rfl, rfl, sq s3, rfl, show 2 ≤ sizeLine by decide, fun b nb => ?_⟩
        have ab := same_new (o := HO.lst [V.str say0, V.str r.sa]) nb
        refine ⟨a, b, _, _, rfl, rfl, ab _ _ h3, upd_same, ?_, fun c nc => ⟨c, rfl, (s3.trans ab).trans (same_new nc), ?_⟩⟩
        · rw [List.length_map, List.length_append]
          refine Nat.le_trans (Nat.add_le_add_right (Nat.add_le_add_left (show _ ≤ 1 by split <;> simp) _) _) (show 6 + 1 + 2 ≤ sizeLine by decide)
        · rw [upd_same]
          unfold wordsOf
          rw [if_neg e', List.map_append, List.map_append, List.map_append, List.append_assoc] <;> rfl
      · have e' : r.sa = nil0 := Classical.byContradiction fun z => e (by
          show (!decide (V.str r.sa = V.str nil0)) = true
          rw [decide_eq_false fun q => z (V.str.inj q)] <;> rfl)
        refine ⟨a, rfl, s3, ?_⟩
        rw [h3]
        unfold wordsOf
        rw [if_pos e', List.append_nil]
    rintro _ H4 ⟨a2, rfl, s4, h4⟩
    exact ⟨⟨_, rfl⟩, _, rfl, _, a2, _, rfl, rfl, .inl (SqL.of h4), join_small n2 ok, k H4 s4⟩
end
end Mk
set_option Elab.async false
set_option maxRecDepth 100000
set_option maxHeartbeats 4000000
namespace Mk
open PySem L2 Pk
def noteOf (ls : List PySem.Str) : PySem.Str := Txt.join em0 (ls.map fun x => x ++ nl0)
theorem joinL_nil : ∀ ps : List (List Nat), TL.joinL [] ps = ps.flatten
  | [] => rfl
  | [p] => by simp [TL.joinL]
  | p :: q :: r => by
    show p ++ ([] ++ TL.joinL [] (q :: r)) = _
    rw [joinL_nil (q :: r), List.nil_append] <;> rfl
theorem joinL_last (S : List Nat) : ∀ ps : List (List Nat), ps ≠ [] → TL.joinL S (ps ++ [[]]) = (ps.map fun p => p ++ S).flatten
  | [], h => absurd rfl h
  | [p], _ => by
    show p ++ (S ++ []) = _
    simp
  | p :: q :: r, _ => by
    show p ++ (S ++ TL.joinL S ((q :: r) ++ [[]])) = _
    rw [joinL_last S (q :: r) (fun z => nomatch z)]
    simp [List.append_assoc]
theorem note_join {ls : List PySem.Str} (ne : ls ≠ []) : noteOf ls = Txt.join nl0 (ls ++ [em0]) := by
  refine str_eq ?_
  unfold noteOf
  rw [tl_joinT, tl_joinT, tl_em, tl_nl, joinL_nil, List.map_append]
  have e : ([em0].map tl) = [[]] := by rw [List.map_cons, tl_em] <;> rfl
  rw [e, joinL_last _ _ (fun z => ne (List.map_eq_nil_iff.mp z)), List.map_map, List.map_map]
  congr 1
  refine List.map_congr_left fun x _ => ?_
  show TL.tl (x ++ nl0) = TL.tl x ++ [10]
  rw [TL.tl_append]
  exact congrArg (TL.tl x ++ ·) tl_nl
theorem joinL_app (S : List Nat) : ∀ ps : List (List Nat), ps ≠ [] → TL.joinL S ps ++ S = TL.joinL S (ps ++ [[]])
  | [], h => absurd rfl h
  | [p], _ => by
    show p ++ S = p ++ (S ++ [])
    rw [List.append_nil]
  | p :: q :: r, _ => by
    show p ++ (S ++ TL.joinL S (q :: r)) ++ S = p ++ (S ++ TL.joinL S ((q :: r) ++ [[]]))
    rw [← joinL_app S (q :: r) (fun z => nomatch z), List.append_assoc, List.append_assoc]
theorem text_nl {ls : List PySem.Str} (ne : ls ≠ []) : Txt.join nl0 ls ++ nl0 = Txt.join nl0 (ls ++ [em0]) := by
  refine str_eq ?_
  show TL.tl (Txt.join nl0 ls ++ nl0) = _
  rw [TL.tl_append]
  have e : ([em0].map tl) = [[]] := by rw [List.map_cons, tl_em] <;> rfl
  have z := joinL_app (tl nl0) (ls.map tl) (fun z => ne (List.map_eq_nil_iff.mp z))
  rw [← tl_joinT] at z
  rw [tl_joinT nl0 (ls ++ [em0]), List.map_append, e, ← z]
theorem joinL_ne {S p : List Nat} {r : List (List Nat)} (h : p ≠ []) : TL.joinL S (p :: r) ≠ [] := by
  cases r with
  | nil => exact h
  | cons q r =>
    show p ++ (S ++ TL.joinL S (q :: r)) ≠ []
    intro z
    exact h (List.append_eq_nil_iff.mp z).1
theorem join_ne {y w : PySem.Str} {ws : List PySem.Str} (h : w ≠ nil0) : Txt.join y (w :: ws) ≠ nil0 := fun z => by
  have e := congrArg tl z
  rw [tl_joinT, List.map_cons] at e
  have t0 : tl nil0 = [] := tl_em
  rw [t0] at e
  exact joinL_ne (fun q => h (str_eq (by rw [q, t0]))) e
theorem num_ne {n : Int} (h : 0 ≤ n) (h2 : n ≤ 2000) : num n ≠ nil0 := fun z => by
  have := (num_len h h2).1
  rw [z] at this
  exact absurd this (by decide +kernel)
theorem line_ne {l : PySem.Str} {n : Int} {r : Rl} (n2 : n ≤ 2000) (h : RlOk l n r) : lineOf r ≠ nil0 := join_ne (num_ne h.st.1 (by have := h.st.2; omega))
/-- what the lines need -/
structure NoteOk (l : PySem.Str) (n : Int) (rs : List Rl) (ys : List Int) : Prop where
  al : Alpha l
  n1 : 1 ≤ n
  n2 : n ≤ 2000
  ok : ∀ r ∈ rs, RlOk l n r
  few : rs.length ≤ 100
  nums : Nums ys
theorem lines_free {l : PySem.Str} {n : Int} {rs : List Rl} {ys : List Int} (h : NoteOk l n rs ys) : ∀ w ∈ linesOf l n rs ys, 10 ∉ tl w ∧ w ≠ nil0 := by
  intro w m
  have pl : Plain (PySem.Str.ofString "letters") := by
    have z : ∀ c ∈ tl (PySem.Str.ofString "letters"), 33 ≤ c := by decide +kernel
    exact z
  have ps : Plain (PySem.Str.ofString "states") := by
    have z : ∀ c ∈ tl (PySem.Str.ofString "states"), 33 ≤ c := by decide +kernel
    exact z
  have py : Plain (PySem.Str.ofString "yes") := by
    have z : ∀ c ∈ tl (PySem.Str.ofString "yes"), 33 ≤ c := by decide +kernel
    exact z
  unfold linesOf at m
  rcases List.mem_cons.mp m with rfl | m
  · refine ⟨line_free fun v mv => ?_, join_ne (by decide +kernel)⟩
    rcases List.mem_cons.mp mv with rfl | mv
    · exact pl
    · rw [List.mem_singleton.mp mv]
      exact low_plain h.al.low
  rcases List.mem_cons.mp m with rfl | m
  · refine ⟨line_free fun v mv => ?_, join_ne (by decide +kernel)⟩
    rcases List.mem_cons.mp mv with rfl | mv
    · exact ps
    · rw [List.mem_singleton.mp mv]
      exact plain_num (by have := h.n1; omega)
  rcases List.mem_cons.mp m with rfl | m
  · refine ⟨line_free fun v mv => ?_, join_ne (by decide +kernel)⟩
    rcases List.mem_cons.mp mv with rfl | mv
    · exact py
    · obtain ⟨z, mz, rfl⟩ := List.mem_map.mp mv
      exact plain_num (h.nums.2 z mz).1
  · obtain ⟨r, mr, rfl⟩ := List.mem_map.mp m
    exact ⟨line_free (words_plain h.al (h.ok r mr)), line_ne h.n2 (h.ok r mr)⟩
theorem lines_sum {l : PySem.Str} {n : Int} {rs : List Rl} {ys : List Int} (h : NoteOk l n rs ys) : ((linesOf l n rs ys).map (·.length)).sum ≤ 40000 ∧ (linesOf l n rs ys).length ≤ 103 := by
  have a := headL_len (l := l) h.al.most
  have b := headS_len (n := n) (by have := h.n1; omega) h.n2
  have c := headY_len h.nums
  have d := sum_le (k := 100) (ws := rs.map lineOf) fun w m => by
    obtain ⟨r, mr, rfl⟩ := List.mem_map.mp m
    exact line_len h.n2 (h.ok r mr)
  rw [List.length_map] at d
  have few := h.few
  unfold linesOf
  refine ⟨?_, by rw [List.length_cons, List.length_cons, List.length_cons, List.length_map]; omega⟩
  rw [List.map_cons, List.map_cons, List.map_cons, List.sum_cons, List.sum_cons, List.sum_cons]
  have e : rs.length * 100 ≤ 10000 := by omega
  omega
theorem lines_small {l : PySem.Str} {n : Int} {rs : List Rl} {ys : List Int} (h : NoteOk l n rs ys) : (((linesOf l n rs ys).map fun x => x ++ nl0).map (·.length)).sum + ((linesOf l n rs ys).map fun x => x ++ nl0).length * em0.length ≤ 16777216 ∧ (noteOf (linesOf l n rs ys)).length ≤ 50000 := by
  obtain ⟨a, b⟩ := lines_sum h
  have e0 : em0.length = 0 := by decide +kernel
  have e1 : nl0.length = 1 := by decide +kernel
  have z : ∀ ls : List PySem.Str, ((ls.map fun x => x ++ nl0).map (·.length)).sum = (ls.map (·.length)).sum + ls.length := by
    intro ls
    induction ls with
    | nil => rfl
    | cons x r ih =>
      rw [List.map_cons, List.map_cons, List.sum_cons, ih, str_len_app, e1, List.map_cons, List.sum_cons, List.length_cons]
      omega
  have j := join_len em0 ((linesOf l n rs ys).map fun x => x ++ nl0)
  rw [z, e0] at j
  rw [z, e0]
  unfold noteOf
  omega
section
variable {P : Program} {w : World} {K : PySem.W.Frag} {mg : PySem.Str → Option Value} {base : Heap}
/-! _law_heads -/
def spHeads (K : PySem.W.Frag) : Sp := fun vs H Q _ => ∃ (l : PySem.Str) (n : Int) (aY : Addr) (b : Bool) (ys : List Int), vs = [.str l, .int n, .ref aY] ∧ l.length ≤ 26 ∧ 0 ≤ n ∧ n ≤ 2000 ∧ SqB b K H aY (ys.map V.int) ∧ Nums ys ∧
  ∀ (p : Addr) (H' : Hp), Same H H' → H p = none → H' p = some (.lst (([headL l, headS n, headY ys] : List PySem.Str).map V.str)) → Q (.ref p) H'
abbrev nHeads : List PySem.Str := ["letters", "states", "yes", "state"]
theorem scHeads : FnScope nHeads ["letters", "states", "yes"] (defScope sHeads) := ⟨rfl, rfl, rfl, by decide +kernel, rfl, by decide +kernel, by decide +kernel⟩
theorem nums_fill {ys : List Int} {i : Nat} {z : Int} {H1 H2 : Hp} {D : Addr} (ez : ys[i]? = some z) (s : Same H1 H2) (nD : H1 D = none) (hD : H2 D = some (.lst (((ys.take i).map num).map V.str))) (few : ys.length ≤ 3000) :
    ∃ acc, H2 D = some (.lst acc) ∧ acc.length < sizeLine ∧ Same H1 (upd H2 D (.lst (acc ++ [V.str (num z)]))) ∧ (upd H2 D (.lst (acc ++ [V.str (num z)]))) D = some (.lst (((ys.take (i + 1)).map num).map V.str)) := by
  refine ⟨_, hD, ?_, same_mut s nD, ?_⟩
  · rw [List.length_map, List.length_map, List.length_take]
    exact Nat.lt_of_le_of_lt (show min i ys.length ≤ 3000 by omega) (by decide)
  · rw [upd_same, take_at ez, List.map_append, List.map_append] <;> rfl
theorem ok_heads {f : Addr} {fd : FuncData} (F : Fun K "_law_heads" "_law_heads" sHeads f fd) (T : TM mg) : FnOk P w K mg base CX0 1 f fd ["letters", "states", "yes"] (spHeads K) := by
  refine F.ok scHeads (fun vs H Q E h => ?_) (fun cdv A outer s H vs Q E hr h => ?_)
  · obtain ⟨l, n, aY, b, ys, rfl, _⟩ := h
    rfl
  · obtain ⟨l, n, aY, b, ys, rfl, l26, n0, n2, hY, nu, k⟩ := h
    refine ⟨_, pss_one (ps_ret (pe_lst (pa_cons (pe_op op_add_str pe_str (pv 0)) (pa_cons (pe_op op_add_str pe_str (pe_callTy call_str_int (by rfl) T.str PyProof.Rows.Boot.str (pa_cons (pv 1) pa_nil)))
      (pa_cons (pe_join pe_str (pe_op op_cat (pe_lst (pa_cons pe_str pa_nil)) (pe_lc (own := [("state", 3)]) (g := gName 3) (tt := tYes) (by rfl) scHeads.nd (pi_sq b (pv 2))
        (blkOk_by (own := [("state", 3)]) (N := nHeads) (sc := defScope sHeads) (by decide +kernel)) (fun _ _ _ _ _ => pg_name (i := 3) scHeads.nd rfl (Or.inl rfl)) (fun _ _ _ _ _ => pts_nil)
        (fun _ _ _ _ _ => pe_callTy call_str_int (by rfl) T.str PyProof.Rows.Boot.str (pa_cons (pv 3) pa_nil))))) pa_nil))))), ?_⟩
    have e1 : (PySem.Str.ofString "letters ").length = 8 := by decide +kernel
    have e2 : (PySem.Str.ofString "states ").length = 7 := by decide +kernel
    have n4 := (num_len n0 n2).2
    have few10 : ∀ {m : Nat}, m ≤ 10000 → m ≤ sizeLine := fun h => Nat.le_trans h (by decide)
    refine ⟨_, rfl, _, _, rfl, rfl, few10 (by omega), _, rfl, n, rfl, log_small (by omega), _, _, rfl, rfl, few10 (show _ + (num n).length ≤ 10000 by omega), ?_⟩
    refine ⟨⟨_, rfl⟩, show 1 ≤ sizeLine by decide, fun u nu1 => ?_⟩
    have su := same_new (o := HO.lst [V.str (PySem.Str.ofString "yes")]) nu1
    have hu : (upd H u (.lst [V.str (PySem.Str.ofString "yes")])) u = some (.lst [V.str (PySem.Str.ofString "yes")]) := upd_same
    generalize upd H u (.lst [V.str (PySem.Str.ofString "yes")]) = H1 at su hu ⊢
    refine isq_of ⟨_, rfl, aY, rfl, ⟨_, hY.mono su⟩, fun D nD => lc_it (walk_sq (b := b) (K := K) (a := aY) (xs := ys.map V.int)) (fun i H' => Same H1 H' ∧ H' D = some (.lst (((ys.take i).map num).map V.str))) ⟨same_new nD, upd_same⟩ (fun i H' _ h => hY.mono (su.trans h.1)) ?_ ?_⟩
    · rintro i v H2 _ hi ⟨s2, hD⟩ ⟨rfl, ev⟩
      obtain ⟨z, ez, rfl⟩ := mapInt ev
      have bz := nu.2 z (List.mem_of_getElem? ez)
      refine ⟨rfl, ?_⟩
      exact ⟨_, rfl, z, rfl, log_small (by omega), nums_fill ez s2 nD hD nu.1⟩
    rintro H2 ⟨s2, hD⟩
    rw [List.length_map, List.take_of_length_le (Nat.le_refl _)] at hD
    have fw := nu.1
    refine ⟨u, D, _, _, rfl, rfl, s2 _ _ hu, hD, few10 (by rw [List.length_map, List.length_map]; show 1 + ys.length ≤ 10000; omega), fun q nq => ?_⟩
    have hq : (upd H2 q (.lst ([V.str (PySem.Str.ofString "yes")] ++ (ys.map num).map V.str))) q = some (.lst ((PySem.Str.ofString "yes" :: ys.map num).map V.str)) := upd_same
    have sq := (su.trans s2).trans (same_new (o := HO.lst ([V.str (PySem.Str.ofString "yes")] ++ (ys.map num).map V.str)) nq)
    refine ⟨_, q, _, rfl, rfl, .inl (SqL.of hq), Nat.le_trans (nums_sum nu) (by decide), ?_⟩
    refine ⟨show 3 ≤ sizeLine by decide, fun p np => k p _ (sq.trans (same_new np)) (sq.free np) ?_⟩
    rw [upd_same, ← headL_eq, ← headS_eq] <;> rfl
/-! write_machine -/
theorem ints_mem {ys : List Int} {y : Int} : y ∈ intsOf ys ↔ y ∈ ys := Sx.asc_mem _ _ _
theorem nums_ints {ys : List Int} (h : Nums ys) : Nums (intsOf ys) := ⟨Nat.le_trans (Sx.asc_len _ _) h.1, fun y m => h.2 y (ints_mem.mp m)⟩
theorem note_ord {l : PySem.Str} {n : Int} {rs : List Rl} {ys : List Int} (h : NoteOk l n rs ys) : NoteOk l n (rulesOf rs) (intsOf ys) :=
  ⟨h.al, h.n1, h.n2, fun r m => h.ok r ((rulesOf_mem rs r).mp m), Nat.le_trans (rulesOf_len rs) h.few, nums_ints h.nums⟩
def spWrite (K : PySem.W.Frag) (C : Addr) : Sp := fun vs H Q _ => ∃ (x : Addr) (l : PySem.Str) (n : Int) (rs : List Rl) (ys : List Int), vs = [.ref x] ∧ MachAt K H C x l n rs ys ∧ NoteOk l n rs ys ∧ ∀ H', Same H H' → Q (.str (noteOf (linesOf l n (rulesOf rs) (intsOf ys)))) H'
abbrev nWrite : List PySem.Str := ["machine", "lines", "state", "rule", "line"]
theorem scWrite : FnScope nWrite ["machine"] (defScope sWrite) := ⟨rfl, rfl, rfl, by decide +kernel, rfl, by decide +kernel, by decide +kernel⟩
theorem ok_write {f C : Addr} {fd : FuncData} (F : Fun K "write_machine" "write_machine" sWrite f fd) (T : TM mg) (M : MCls K C) (G : Got P w K mg base "rule_line" 1 ["rule"] spLineP) : FnOk P w K mg base CX0 2 f fd ["machine"] (spWrite K C) := by
  refine F.ok scWrite (fun vs H Q E h => ?_) (fun cdv A outer s H vs Q E hr h => ?_)
  · obtain ⟨x, l, n, rs, ys, rfl, _⟩ := h
    rfl
  · obtain ⟨x, l, n, rs, ys, rfl, hm, no, k⟩ := h
    obtain ⟨dx, aR, aY, aS, aA, g, R, hx, hR, kR, eR, hY, hS, _, hg⟩ := hm.ex
    refine ⟨_, pss_cons (ps_set (i := 1) scWrite.nd rfl (Or.inl rfl) (pe_lst (pa_cons (pe_joined (.cons pe_str (.cons (pe_fmt (pe_fld (pv 0) rfl)) .nil))) (pa_cons (pe_joined (.cons pe_str (.cons (pe_fmt (pe_fld (pv 0) rfl)) .nil)))
        (pa_cons (pe_join pe_str (pe_op op_cat (pe_lst (pa_cons pe_str pa_nil)) (pe_lc (own := [("state", 2)]) (g := gName 2) (tt := tYes) (by rfl) scWrite.nd (pi_tup (pe_fld (pv 0) rfl))
          (blkOk_by (own := [("state", 2)]) (N := nWrite) (sc := defScope sWrite) (by decide +kernel)) (fun _ _ _ _ _ => pg_name (i := 2) scWrite.nd rfl (Or.inl rfl)) (fun _ _ _ _ _ => pts_nil)
          (fun _ _ _ _ _ => pe_callTy call_str_int (by rfl) T.str PyProof.Rows.Boot.str (pa_cons (pv 2) pa_nil))))) pa_nil)))))
      (pss_cons (ps_expr (pe_bm PySem.F.plainAttrs_list PySem.F.slot_list_extend PySem.F.type_list_extend mt_extend (pv 1) (pa_cons (pe_lc (own := [("rule", 3)]) (g := gName 3) (tt := tYes) (by rfl) scWrite.nd (pi_tup (pe_fld (pv 0) rfl))
          (blkOk_by (own := [("rule", 3)]) (N := nWrite) (sc := defScope sWrite) (by decide +kernel)) (fun _ _ _ _ _ => pg_name (i := 3) scWrite.nd rfl (Or.inl rfl)) (fun _ _ _ _ _ => pts_nil)
          (fun _ _ _ _ _ => pe_got G hr (by rfl) (pa_cons (pv 3) pa_nil))) pa_nil)))
      (pss_one (ps_ret (pe_join pe_str (pe_lc (own := [("line", 4)]) (g := gName 4) (tt := tYes) (by rfl) scWrite.nd (pi_list (pv 1))
          (blkOk_by (own := [("line", 4)]) (N := nWrite) (sc := defScope sWrite) (by decide +kernel)) (fun _ _ _ _ _ => pg_name (i := 4) scWrite.nd rfl (Or.inl rfl)) (fun _ _ _ _ _ => pts_nil)
          (fun _ _ _ _ _ => pe_op op_add_str (pv 4) pe_str)))))), ?_⟩
    have no' := note_ord no
    have nu := no'.nums
    have fw := nu.1
    have l26 := no.al.most
    have e1 : (PySem.Str.ofString "letters ").length = 8 := by decide +kernel
    have e2 : (PySem.Str.ofString "states ").length = 7 := by decide +kernel
    have n0 : 0 ≤ n := by have := no.n1; omega
    have n2 := no.n2
    have n4 := (num_len n0 n2).2
    have few10 : ∀ {m : Nat}, m ≤ 10000 → m ≤ sizeLine := fun h => Nat.le_trans h (by decide)
    have em : ∀ x : PySem.Str, PySem.Str.empty ++ x = x := fun x => str_eq (by
      show TL.tl (PySem.Str.empty ++ x) = TL.tl x
      rw [TL.tl_append] <;> rfl)
    refine ⟨_, rfl, by rw [em]; exact few10 (by omega), _, rfl, x, C, dx, _, .str l, rfl, hx, M.cls, M.letters, rfl, .inl ⟨l, rfl, few10 (by omega), l, rfl, by rw [em, str_len_app]; exact few10 (by omega), ?_⟩⟩
    refine ⟨_, rfl, by rw [em]; exact few10 (by omega), _, rfl, x, C, dx, _, .int n, rfl, hx, M.cls, M.states, rfl, .inr ⟨n, rfl, log_small (by omega), _, rfl, by rw [em, str_len_app]; exact few10 (show _ + (num n).length ≤ 10000 by omega), ?_⟩⟩
    refine ⟨⟨_, rfl⟩, show 1 ≤ sizeLine by decide, fun u nu1 => ?_⟩
    have su := same_new (o := HO.lst [V.str (PySem.Str.ofString "yes")]) nu1
    have hu : (upd H u (.lst [V.str (PySem.Str.ofString "yes")])) u = some (.lst [V.str (PySem.Str.ofString "yes")]) := upd_same
    generalize upd H u (.lst [V.str (PySem.Str.ofString "yes")]) = H1 at su hu ⊢
    refine ⟨_, rfl, x, C, dx, _, .ref aY, rfl, su _ _ hx, M.cls, M.yes, rfl, aY, rfl, ⟨_, .inl (.inl (su _ _ hY))⟩, fun D nD => lc_it (walk_tup (K := K) (a := aY) (xs := (intsOf ys).map V.int)) (fun i H' => Same H1 H' ∧ H' D = some (.lst ((((intsOf ys).take i).map num).map V.str))) ⟨same_new nD, upd_same⟩ (fun i H' _ h => .inl (.inl (h.1 _ _ (su _ _ hY)))) ?_ ?_⟩
    · rintro i v H2 _ hi ⟨s2, hD⟩ ⟨rfl, ev⟩
      obtain ⟨z, ez, rfl⟩ := mapInt ev
      have bz := nu.2 z (List.mem_of_getElem? ez)
      refine ⟨rfl, ?_⟩
      exact ⟨_, rfl, z, rfl, log_small (by omega), nums_fill ez s2 nD hD fw⟩
    rintro H2 ⟨s2, hD⟩
    rw [List.length_map, List.take_of_length_le (Nat.le_refl _)] at hD
    refine ⟨u, D, _, _, rfl, rfl, s2 _ _ hu, hD, few10 (by rw [List.length_map, List.length_map]; show 1 + (intsOf ys).length ≤ 10000; omega), fun q nq => ?_⟩
    have hq : (upd H2 q (.lst ([V.str (PySem.Str.ofString "yes")] ++ ((intsOf ys).map num).map V.str))) q = some (.lst ((PySem.Str.ofString "yes" :: (intsOf ys).map num).map V.str)) := upd_same
    have sq := (su.trans s2).trans (same_new (o := HO.lst ([V.str (PySem.Str.ofString "yes")] ++ ((intsOf ys).map num).map V.str)) nq)
    refine ⟨_, q, _, rfl, rfl, .inl (SqL.of hq), Nat.le_trans (nums_sum nu) (by decide), ?_⟩
    refine ⟨show 3 ≤ sizeLine by decide, fun a na => ?_⟩
    generalize upd H2 q (.lst ([V.str (PySem.Str.ofString "yes")] ++ ((intsOf ys).map num).map V.str)) = H3 at sq na ⊢
    have sa := sq.trans (same_new (o := HO.lst [V.str (PySem.Str.empty ++ PySem.Str.ofString "letters " ++ l), V.str (PySem.Str.empty ++ PySem.Str.ofString "states " ++ num n), V.str (headY (intsOf ys))]) na)
    have n0a := sq.free na
    have ha : (upd H3 a (.lst [V.str (PySem.Str.empty ++ PySem.Str.ofString "letters " ++ l), V.str (PySem.Str.empty ++ PySem.Str.ofString "states " ++ num n), V.str (headY (intsOf ys))])) a = some (.lst (([headL l, headS n, headY (intsOf ys)] : List PySem.Str).map V.str)) := by
      rw [upd_same, em, em, headL_eq, headS_eq] <;> rfl
    show (tSeq _ _) _ _ (upd H3 a (.lst [V.str (PySem.Str.empty ++ PySem.Str.ofString "letters " ++ l), V.str (PySem.Str.empty ++ PySem.Str.ofString "states " ++ num n), V.str (headY (intsOf ys))]))
    generalize upd H3 a (.lst [V.str (PySem.Str.empty ++ PySem.Str.ofString "letters " ++ l), V.str (PySem.Str.empty ++ PySem.Str.ofString "states " ++ num n), V.str (headY (intsOf ys))]) = H4 at sa ha ⊢
    -- the rules' lines
    have hR4 := sa _ _ hR
    have lR : (refsK R).length = R.length := List.length_map ..
    have eR' : R.map (fun p => lineOf p.2) = (rulesOf rs).map lineOf := by rw [← eR, List.map_map] <;> rfl
    have fewR : R.length ≤ 100 := by
      have z := congrArg List.length eR
      rw [List.length_map] at z
      have y := no'.few
      omega
    refine ⟨_, rfl, .inl ⟨rfl, _, SqL.of ha⟩, _, rfl, x, C, dx, _, .ref aR, rfl, sa _ _ hx, M.cls, M.rules, rfl, aR, rfl, ⟨_, .inl (.inl hR4)⟩, fun D2 nD2 => lc_it (walk_tup (K := K) (a := aR) (xs := refsK R)) (fun i H' => Same H4 H' ∧ H' D2 = some (.lst (((R.take i).map fun p => lineOf p.2).map V.str))) ⟨same_new nD2, upd_same⟩ (fun i H' _ h => .inl (.inl (h.1 _ _ hR4))) ?_ ?_⟩
    · rintro i v H5 _ hi ⟨s5, hD2⟩ ⟨rfl, ev⟩
      obtain ⟨p, ep, rfl⟩ := at_refs ev
      have mp := List.mem_of_getElem? ep
      have okp : RlOk l n p.2 := no'.ok p.2 (by rw [← eR]; exact List.mem_map.mpr ⟨p, mp, rfl⟩)
      refine ⟨rfl, ?_⟩
      refine ⟨_, rfl, p.1, p.2, l, n, rfl, s5 _ _ (sa _ _ (kR p mp)), no.al, okp, n2, fun H6 s6 => ⟨_, s6 _ _ hD2, ?_, same_mut (s5.trans s6) nD2, ?_⟩⟩
      · rw [List.length_map, List.length_map, List.length_take]
        exact Nat.lt_of_le_of_lt (show min i R.length ≤ 100 by omega) (by decide)
      · rw [upd_same, take_at ep, List.map_append, List.map_append] <;> rfl
    rintro H5 ⟨s5, hD2⟩
    rw [lR, List.take_of_length_le (Nat.le_refl _), eR'] at hD2
    refine ⟨a, D2, _, _, rfl, rfl, s5 _ _ ha, hD2, few10 (by rw [List.length_map, List.length_map, List.length_map]; show 3 + (rulesOf rs).length ≤ 10000; have := no'.few; omega), ?_⟩
    have s6 := same_mut (o := HO.lst (([headL l, headS n, headY (intsOf ys)] : List PySem.Str).map V.str ++ ((rulesOf rs).map lineOf).map V.str)) (sa.trans s5) n0a
    have h6 : (upd H5 a (.lst (([headL l, headS n, headY (intsOf ys)] : List PySem.Str).map V.str ++ ((rulesOf rs).map lineOf).map V.str))) a = some (.lst ((linesOf l n (rulesOf rs) (intsOf ys)).map V.str)) := by
      rw [upd_same, ← List.map_append] <;> rfl
    generalize upd H5 a (.lst (([headL l, headS n, headY (intsOf ys)] : List PySem.Str).map V.str ++ ((rulesOf rs).map lineOf).map V.str)) = H6 at s6 h6 ⊢
    -- the whole text
    obtain ⟨sm1, sm2⟩ := lines_small no'
    obtain ⟨su1, su2⟩ := lines_sum no'
    generalize hls : linesOf l n (rulesOf rs) (intsOf ys) = ls at h6 sm1 sm2 su1 su2 k
    have each : ∀ z ∈ ls, z.length ≤ 40000 := fun z mz => by
      have gen : ∀ (ls : List PySem.Str), z ∈ ls → z.length ≤ (ls.map (·.length)).sum := by
        intro ls
        induction ls with
        | nil => intro m; exact absurd m List.not_mem_nil
        | cons y r ih =>
          intro m
          rw [List.map_cons, List.sum_cons]
          rcases List.mem_cons.mp m with rfl | m
          · omega
          · have := ih m; omega
      exact Nat.le_trans (gen ls mz) su1
    have en : nl0.length = 1 := by decide +kernel
    refine ⟨⟨_, rfl⟩, _, rfl, a, rfl, ⟨_, SqL.of h6⟩, fun D3 nD3 => lc_list (K := K) (a := a) (xs := ls.map V.str) (fun i H' => Same H6 H' ∧ H' D3 = some (.lst (((ls.take i).map fun x => x ++ nl0).map V.str))) ⟨same_new nD3, upd_same⟩ (fun i H' _ h => SqL.of (h.1 _ _ h6)) ?_ ?_⟩
    · rintro i v H7 hi ⟨s7, hD3⟩
      rw [List.getElem?_map] at hi
      obtain ⟨z, ez, rfl⟩ := Option.map_eq_some_iff.mp hi
      refine ⟨rfl, ?_⟩
      refine ⟨_, rfl, z, _, rfl, rfl, Nat.le_trans (show z.length + nl0.length ≤ 50000 by have := each z (List.mem_of_getElem? ez); omega) (by decide), _, hD3, ?_, same_mut s7 nD3, ?_⟩
      · rw [List.length_map, List.length_map, List.length_take]
        exact Nat.lt_of_le_of_lt (show min i ls.length ≤ 200 by omega) (by decide)
      · rw [upd_same, take_at ez, List.map_append, List.map_append] <;> rfl
    rintro H7 ⟨s7, hD3⟩
    rw [List.length_map, List.take_of_length_le (Nat.le_refl _)] at hD3
    exact ⟨_, D3, _, rfl, rfl, .inl (SqL.of hD3), sm1, k H7 (s6.trans s7)⟩
end
end Mk

set_option Elab.async false
set_option maxRecDepth 100000
set_option maxHeartbeats 4000000
namespace Mk
open PySem L2 Pk
abbrev sLinesOf : Stmt := top 44
abbrev sNumber : Stmt := top 45
abbrev sAfter : Stmt := top 46
theorem numL_head : ∀ (k : Nat), 0 < k → ∃ c r, TL.numL k = c :: r ∧ c ≠ 48 := by
  intro k
  induction k using Nat.strongRecOn with
  | _ k ih =>
    intro pos
    by_cases c : k < 10
    · refine ⟨48 + k, [], TL.numL_lt c, by omega⟩
    · obtain ⟨d, r, e, n⟩ := ih (k / 10) (by omega) (by omega)
      refine ⟨d, r ++ [48 + k % 10], ?_, n⟩
      rw [TL.numL_step (by omega), e] <;> rfl
theorem iteNo {c : Bool} {A B : Prop} (e : c = false) (h : B) : if c = true then A else B := by
  rw [e, if_neg Bool.false_ne_true]
  exact h
section
variable {P : Program} {w : World} {K : PySem.W.Frag} {mg : PySem.Str → Option Value} {base : Heap}
/-! lines_of -/
def spLinesOf : Sp := fun vs H Q _ => ∃ (t : PySem.Str) (ls : List PySem.Str), vs = [.str t] ∧ (t = Txt.join nl0 ls ∨ t = Txt.join nl0 (ls ++ [em0])) ∧ ls ≠ [] ∧ (∀ v ∈ ls, 10 ∉ tl v ∧ v ≠ nil0) ∧ t.length ≤ 1000000 ∧ ls.length ≤ 10000 ∧
  ∀ (p : Addr) (H' : Hp), Same H H' → H p = none → H' p = some (.lst (ls.map V.str)) → Q (.ref p) H'
theorem scLinesOf : FnScope ["text", "lines"] ["text"] (defScope sLinesOf) := ⟨rfl, rfl, rfl, by decide +kernel, rfl, by decide +kernel, by decide +kernel⟩
theorem last_at {xs : List V} {v : V} : atI (xs ++ [v]) (-1) = some v := by
  have e : (xs ++ [v]).length = xs.length + 1 := by rw [List.length_append] <;> rfl
  unfold atI ixN
  rw [e]
  rw [if_neg (by decide), if_pos (by omega)]
  show (xs ++ [v])[_]? = some v
  have z : (-1 + ((xs.length + 1 : Nat) : Int)).toNat = xs.length := by omega
  rw [z, List.getElem?_append_right (Nat.le_refl _), Nat.sub_self] <;> rfl
theorem ok_linesof {f : Addr} {fd : FuncData} (F : Fun K "lines_of" "lines_of" sLinesOf f fd) : FnOk P w K mg base CX0 1 f fd ["text"] spLinesOf := by
  refine F.ok scLinesOf (fun vs H Q E h => ?_) (fun cdv A outer s H vs Q E hr h => ?_)
  · obtain ⟨t, ls, rfl, _⟩ := h
    rfl
  · obtain ⟨t, ls, rfl, ht, ne, free, sz, few, k⟩ := h
    refine ⟨_, pss_cons (ps_set (i := 1) scLinesOf.nd rfl (Or.inl rfl) (pe_split (pv 0) pe_str))
      (pss_cons (ps_if (pt_cmpR op_eq (pe_ix ix_list (pv 1) (pe_un un_neg pe_int) fun _ _ => rfl) pe_str (nomark _)) (pss_one (ps_expr (pe_bm0 PySem.F.plainAttrs_list PySem.F.slot_list_pop PySem.F.type_list_pop mt_pop (pv 1)))) pss_nil)
      (pss_one (ps_ret (pv 1)))), ?_⟩
    have en : (nl0.length == 0) = false := by decide +kernel
    refine ⟨_, rfl, ⟨_, rfl⟩, t, nl0, rfl, rfl, en, Nat.le_trans (Nat.add_le_add_right sz 2) (by decide), fun p np => ?_⟩
    have s1 := same_new (o := HO.lst ((Txt.split t nl0).map V.str)) np
    have h1 : (upd H p (.lst ((Txt.split t nl0).map V.str))) p = some (.lst ((Txt.split t nl0).map V.str)) := upd_same
    generalize upd H p (.lst ((Txt.split t nl0).map V.str)) = H1 at s1 h1 ⊢
    have fr : ∀ v ∈ ls, 10 ∉ tl v := fun v m => (free v m).1
    rcases ht with rfl | rfl
    · rw [split_lines ne fr] at h1
      obtain ⟨ini, z, e⟩ : ∃ ini z, ls = ini ++ [z] := ⟨ls.dropLast, ls.getLast ne, (List.dropLast_concat_getLast ne).symm⟩
      have ez : z ≠ nil0 := (free z (by rw [e]; exact List.mem_append_right _ (List.mem_singleton.mpr rfl))).2
      have ea : ls.map V.str = ini.map V.str ++ [V.str z] := by rw [e, List.map_append] <;> rfl
      refine ⟨_, rfl, 1, rfl, p, _, -1, .str z, rfl, rfl, SqL.of h1, by rw [ea]; exact last_at, rfl, _, rfl, ?_⟩
      rw [decide_eq_false fun q => ez (V.str.inj q)]
      exact iteF ⟨_, rfl, k p H1 s1 np h1⟩
    · have fr2 : ∀ v ∈ ls ++ [em0], 10 ∉ tl v := fun v m => by
        rcases List.mem_append.mp m with m | m
        · exact fr v m
        · rw [List.mem_singleton.mp m, tl_em]
          exact List.not_mem_nil
      rw [split_lines (fun q => by simp at q) fr2, List.map_append] at h1
      refine ⟨_, rfl, 1, rfl, p, _, -1, .str em0, rfl, rfl, SqL.of h1, last_at, rfl, _, rfl, ?_⟩
      rw [decide_eq_true rfl]
      refine iteT ⟨_, rfl, .inl ⟨rfl, _, SqL.of h1⟩, p, _, .str em0, rfl, rfl, h1, ?_, ?_⟩
      · rw [List.length_append]
        show (ls.map V.str ++ [V.str em0])[(ls.map V.str).length + 1 - 1]? = _
        rw [Nat.add_sub_cancel, List.getElem?_append_right (Nat.le_refl _), Nat.sub_self] <;> rfl
      · refine ⟨_, rfl, k p _ (same_mut s1 np) np ?_⟩
        rw [upd_same]
        show some (HO.lst (ls.map V.str ++ [V.str em0]).dropLast) = _
        rw [List.dropLast_concat]
/-! number_of -/
def spNum : Sp := fun vs H Q _ => ∃ n : Int, vs = [.str (num n)] ∧ 0 ≤ n ∧ n ≤ 2000 ∧ ∀ H', Same H H' → Q (.int n) H'
theorem scNum : FnScope ["word", "digit"] ["word"] (defScope sNumber) := ⟨rfl, rfl, rfl, by decide +kernel, rfl, by decide +kernel, by decide +kernel⟩
theorem ok_number {f : Addr} {fd : FuncData} (F : Fun K "number_of" "number_of" sNumber f fd) (T : TM mg) : FnOk P w K mg base CX0 1 f fd ["word"] spNum := by
  refine F.ok scNum (fun vs H Q E h => ?_) (fun cdv A outer s H vs Q E hr h => ?_)
  · obtain ⟨n, rfl, _⟩ := h
    rfl
  · obtain ⟨n, rfl, n0, n2, k⟩ := h
    refine ⟨_, pss_cons (ps_if (PW.pt (pw_or (pt_not (pt_chain op_le op_le pe_int (pe_callB call_len_str (by rfl) T.len PySem.boot_len (pa_cons (pv 0) pa_nil)) pe_int))
        (pw_or1 (pt_not (pt_val (pe_callB (cr_all rfl) (by rfl) T.all (by decide +kernel) (pa_cons (pe_lc (own := [("digit", 1)]) (g := gName 1) (tt := tYes) (by rfl) scNum.nd (pi_str (pv 0))
          (blkOk_by (own := [("digit", 1)]) (N := ["word", "digit"]) (sc := defScope sNumber) (by decide +kernel)) (fun _ _ _ _ _ => pg_name (i := 1) scNum.nd rfl (Or.inl rfl)) (fun _ _ _ _ _ => pts_nil)
          (fun _ _ _ _ _ => pe_chain op_le_str op_le_str pe_str (pv 1) pe_str)) pa_nil))))))) (pss_one (ps_ret pe_non)) pss_nil)
      (pss_cons (ps_if (PW.pt (pw_and (pt_cmpR op_eq (pe_ix ix_str (pv 0) pe_int fun _ _ => rfl) pe_str (nomark _)) (pw_and1 (pt_cmpR op_ne (pv 0) pe_str (nomark _))))) (pss_one (ps_ret pe_non)) pss_nil)
      (pss_one (ps_ret (pe_callTy call_int_str (by rfl) T.int PyProof.Rows.Boot.int (pa_cons (pv 0) pa_nil))))), ?_⟩
    obtain ⟨l1, l4⟩ := num_len n0 n2
    obtain ⟨kk, rfl⟩ := Int.eq_ofNat_of_zero_le n0
    have tn : tl (num (kk : Int)) = TL.numL kk := TL.tl_num kk
    have sz : (num (kk : Int)).length ≤ sizeLine := Nat.le_trans l4 (by decide)
    have szn : (num (kk : Int)).cps.size = (num (kk : Int)).length := rfl
    refine ⟨_, rfl, num (kk : Int), rfl, sz, _, _, rfl, rfl, _, rfl, ite2 (fun _ => ?_) (fun c => absurd (decide_eq_true (by omega)) c)⟩
    refine ⟨_, _, rfl, rfl, _, rfl, ?_⟩
    refine iteNo (by rw [decide_eq_true (show ((num (kk : Int)).length : Int) ≤ 4 by omega)] <;> rfl) ?_
    refine ⟨_, rfl, num (kk : Int), rfl, fun D nD => lc_it walk_str (fun i H' => Same H H' ∧ H' D = some (.lst ((List.replicate i true).map V.bl))) ⟨same_new nD, upd_same⟩ (fun _ _ _ _ => trivial) ?_ ?_⟩
    · rintro i y H1 H2 hi ⟨s1, hD⟩ ⟨rfl, c0, hc0, rfl⟩
      have hc1 : (tl (num (kk : Int)))[i]? = some c0 := by rw [Array.getElem?_toList]; exact hc0
      rw [tn] at hc1
      have dg := TL.numL_digits kk c0 (List.mem_of_getElem? hc1)
      refine ⟨rfl, ?_⟩
      refine ⟨_, rfl, _, _, rfl, rfl, _, rfl, ?_⟩
      rw [ge_sign c0 48 _ (by decide +kernel)]
      refine ite2 (fun _ => ?_) (fun c => absurd (decide_eq_true dg.1) c)
      refine ⟨_, _, rfl, rfl, ?_⟩
      rw [le_sign c0 57 _ (by decide +kernel), decide_eq_true dg.2]
      refine ⟨_, hD, ?_, same_mut s1 nD, ?_⟩
      · rw [List.length_map, List.length_replicate]
        exact Nat.lt_of_le_of_lt (show i ≤ 10 by omega) (by decide)
      · rw [upd_same, List.replicate_succ', List.map_append] <;> rfl
    rintro H1 ⟨s1, hD⟩
    refine ⟨D, _, rfl, SqL.of hD, _, rfl, ?_⟩
    refine iteNo (by simp) ?_
    -- a zero in front
    obtain ⟨c0, r0, e0, z0⟩ : ∃ c r, tl (num (kk : Int)) = c :: r ∧ (c = 48 → num (kk : Int) = PySem.Str.ofString "0") := by
      by_cases p : 0 < kk
      · obtain ⟨c, r, e, n⟩ := numL_head kk p
        exact ⟨c, r, by rw [tn, e], fun q => absurd q n⟩
      · have k0 : kk = 0 := by omega
        subst k0
        exact ⟨48, [], by rw [tn]; decide +kernel, fun _ => rfl⟩
    refine ⟨_, rfl, num (kk : Int), 0, c0, rfl, rfl, sz, atI_nat (show (tl (num (kk : Int)))[0]? = some c0 by rw [e0] <;> rfl), rfl, _, rfl, ite2 (fun e => ?_) (fun _ => ?_)⟩
    · have e' : c0 = 48 := by
        have z := congrArg (fun t : PySem.Str => t.cps[0]?) (V.str.inj (of_decide_eq_true e))
        exact Option.some.inj z
      refine ⟨_, rfl, rfl, _, rfl, iteNo (by rw [z0 e', decide_eq_true rfl] <;> rfl) ?_⟩
      exact ⟨_, rfl, _, (kk : Int), rfl, TL.int_num (Nat.le_trans (TL.numL_len (k := 4) (by decide) (by omega)) (by decide)), Nat.le_trans l4 (by decide), k H1 s1⟩
    · refine iteF ?_
      exact ⟨_, rfl, _, (kk : Int), rfl, TL.int_num (Nat.le_trans (TL.numL_len (k := 4) (by decide) (by omega)) (by decide)), Nat.le_trans l4 (by decide), k H1 s1⟩
/-! words_after -/
def spAfter (K : PySem.W.Frag) : Sp := fun vs H Q _ => ∃ (aL : Addr) (ls : List PySem.Str) (i : Nat) (v : PySem.Str) (ws : List PySem.Str), vs = [.ref aL, .int (i : Int), .str v] ∧ SqL K H aL (ls.map V.str) ∧ ls[i]? = some (Txt.join sp0 (v :: ws)) ∧ (∀ x ∈ v :: ws, Plain x) ∧
  (Txt.join sp0 (v :: ws)).length ≤ 1000000 ∧ ls.length ≤ 10000 ∧ ∀ (p : Addr) (H' : Hp), Same H H' → H p = none → H' p = some (.lst (ws.map V.str)) → Q (.ref p) H'
abbrev nAfter : List PySem.Str := ["lines", "index", "head", "words"]
theorem scAfter : FnScope nAfter ["lines", "index", "head"] (defScope sAfter) := ⟨rfl, rfl, rfl, by decide +kernel, rfl, by decide +kernel, by decide +kernel⟩
theorem ok_after {f : Addr} {fd : FuncData} (F : Fun K "words_after" "words_after" sAfter f fd) (T : TM mg) : FnOk P w K mg base CX0 1 f fd ["lines", "index", "head"] (spAfter K) := by
  refine F.ok scAfter (fun vs H Q E h => ?_) (fun cdv A outer s H vs Q E hr h => ?_)
  · obtain ⟨aL, ls, i, v, ws, rfl, _⟩ := h
    rfl
  · obtain ⟨aL, ls, i, v, ws, rfl, hL, ei, pl, sz, few, k⟩ := h
    refine ⟨_, pss_cons (ps_set (i := 3) scAfter.nd rfl (Or.inl rfl) (pe_ifExp (pt_cmp (pc_lt (pv 1) (pe_callB call_len_seq (by rfl) T.len PySem.boot_len (pa_cons (pv 0) pa_nil)))) (pe_split (pe_ix ix_list (pv 0) (pv 1) fun _ _ => rfl) pe_str) (pe_lst pa_nil)))
      (pss_cons (ps_if (PW.pt (pw_or (pt_not (pt_truth (pv 3) fun _ => rfl)) (pw_or1 (pt_cmpR op_ne (pe_ix ix_list (pv 3) pe_int fun _ _ => rfl) (pv 2) (nomark _))))) pss_never pss_nil)
      (pss_one (ps_ret (pe_slice sl_list (pv 3) (po_some pe_int) po_none)))), ?_⟩
    have li : i < ls.length := (List.getElem?_eq_some_iff.mp ei).1
    have lm : (ls.map V.str).length = ls.length := List.length_map ..
    refine ⟨_, rfl, _, rfl, aL, _, rfl, .inl hL, _, _, rfl, rfl, _, rfl, ite2 (fun _ => ?_) (fun c => absurd (decide_eq_true (by rw [lm]; omega)) c)⟩
    have en : (sp0.length == 0) = false := by decide +kernel
    refine ⟨_, rfl, _, rfl, aL, _, _, .str (Txt.join sp0 (v :: ws)), rfl, rfl, hL, atI_nat (by rw [List.getElem?_map, ei] <;> rfl), ⟨_, rfl⟩, _, sp0, rfl, rfl, en, Nat.le_trans (Nat.add_le_add_right sz 2) (by decide), fun p np => ?_⟩
    have sw := split_words (List.cons_ne_nil v ws) pl
    have s1 := same_new (o := HO.lst ((Txt.split (Txt.join sp0 (v :: ws)) sp0).map V.str)) np
    have h1 : (upd H p (.lst ((Txt.split (Txt.join sp0 (v :: ws)) sp0).map V.str))) p = some (.lst ((v :: ws).map V.str)) := by rw [upd_same, sw]
    generalize upd H p (.lst ((Txt.split (Txt.join sp0 (v :: ws)) sp0).map V.str)) = H1 at s1 h1 ⊢
    refine ⟨_, rfl, true, .inl ⟨_, SqL.of h1, rfl⟩, ?_⟩
    refine iteF ?_
    refine ⟨_, rfl, p, _, 0, .str v, rfl, rfl, SqL.of h1, atI_nat (show ((v :: ws).map V.str)[0]? = some (V.str v) from rfl), _, rfl, rfl, _, rfl, ?_⟩
    refine iteNo (by rw [decide_eq_true rfl] <;> rfl) ?_
    refine ⟨_, rfl, 1, rfl, p, _, rfl, SqL.of h1, fun q nq => k q _ (s1.trans (same_new nq)) (s1.free nq) ?_⟩
    rw [upd_same]
    have z : cutV ((v :: ws).map V.str) (some 1) none = ws.map V.str := by
      have y : cutV ((v :: ws).map V.str) (some 1) none = ((v :: ws).map V.str).drop 1 := by
        unfold cutV
        rw [HT.sIx_none, show HT.sIx ((v :: ws).map V.str).length 0 (some 1) = min 1 ((v :: ws).map V.str).length from HT.sIx_nat _ 0 1]
        have e : min 1 ((v :: ws).map V.str).length = 1 := by rw [List.map_cons, List.length_cons]; omega
        rw [e]
        exact List.take_of_length_le (by rw [List.length_drop]; exact Nat.le_refl _)
      rw [y] <;> rfl
    rw [z]
end
end Mk
set_option Elab.async false
set_option maxRecDepth 100000
set_option maxHeartbeats 4000000
namespace Mk
open PySem L2 Pk
abbrev sRLetters : Stmt := top 47
abbrev sRStates : Stmt := top 48
abbrev sRYes : Stmt := top 49
abbrev sTopWord : Stmt := top 50
abbrev sSaid : Stmt := top 51
theorem plainW {x : PySem.Str} (h : ∀ c ∈ tl x, 33 ≤ c) : Plain x := h
section
variable {P : Program} {w : World} {K : PySem.W.Frag} {mg : PySem.Str → Option Value} {base : Heap}
/-! read_letters -/
def spRLetters (K : PySem.W.Frag) : Sp := fun vs H Q _ => ∃ (aL : Addr) (ls : List PySem.Str) (l : PySem.Str), vs = [.ref aL] ∧ SqL K H aL (ls.map V.str) ∧ ls[0]? = some (headL l) ∧ Alpha l ∧ ls.length ≤ 10000 ∧ ∀ H', Same H H' → Q (.str l) H'
theorem scRLetters : FnScope ["lines", "words"] ["lines"] (defScope sRLetters) := ⟨rfl, rfl, rfl, by decide +kernel, rfl, by decide +kernel, by decide +kernel⟩
theorem ok_rletters {f : Addr} {fd : FuncData} (F : Fun K "read_letters" "read_letters" sRLetters f fd) (T : TM mg) (GA : Got P w K mg base "words_after" 1 ["lines", "index", "head"] (spAfter K)) (GB : Got P w K mg base "is_alphabet" 2 ["value"] spAlphabet) : FnOk P w K mg base CX0 3 f fd ["lines"] (spRLetters K) := by
  refine F.ok scRLetters (fun vs H Q E h => ?_) (fun cdv A outer s H vs Q E hr h => ?_)
  · obtain ⟨aL, ls, l, rfl, _⟩ := h
    rfl
  · obtain ⟨aL, ls, l, rfl, hL, e0, al, few, k⟩ := h
    have h1 := hr.mono (show 1 ≤ 2 by decide)
    refine ⟨_, pss_cons (ps_set (i := 1) scRLetters.nd rfl (Or.inl rfl) (pe_got GA h1 (by rfl) (pa_cons (pv 0) (pa_cons pe_int (pa_cons pe_str pa_nil)))))
      (pss_cons (ps_if (PW.pt (pw_or (pt_cmpR op_ne (pe_callB call_len_seq (by rfl) T.len PySem.boot_len (pa_cons (pv 1) pa_nil)) pe_int (nomark _)) (pw_or1 (pt_not (pt_val (pe_got GB hr (by rfl) (pa_cons (pe_ix ix_list (pv 1) pe_int fun _ _ => rfl) pa_nil)))))))
        pss_never pss_nil)
      (pss_one (ps_ret (pe_ix ix_list (pv 1) pe_int fun _ _ => rfl)))), ?_⟩
    have pl : ∀ x ∈ [PySem.Str.ofString "letters", l], Plain x := fun x m => by
      rcases List.mem_cons.mp m with rfl | m
      · exact plainW (by decide +kernel)
      · rw [List.mem_singleton.mp m]; exact low_plain al.low
    refine ⟨_, rfl, aL, ls, 0, PySem.Str.ofString "letters", [l], rfl, hL, e0, pl, Nat.le_trans (headL_len al.most) (by decide), few, fun p H1 s1 np h1' => ?_⟩
    refine ⟨_, rfl, p, _, rfl, .inl (SqL.of h1'), rfl, _, rfl, iteNo (by rfl) ?_⟩
    refine ⟨_, rfl, p, _, 0, .str l, rfl, rfl, SqL.of h1', rfl, l, rfl, al, fun H2 s2 => ⟨_, rfl, iteF ?_⟩⟩
    exact ⟨_, rfl, p, _, 0, .str l, rfl, rfl, SqL.of (s2 _ _ h1'), rfl, k H2 (s1.trans s2)⟩
/-! read_states -/
def spRStates (K : PySem.W.Frag) : Sp := fun vs H Q _ => ∃ (aL : Addr) (ls : List PySem.Str) (n : Int), vs = [.ref aL] ∧ SqL K H aL (ls.map V.str) ∧ ls[1]? = some (headS n) ∧ 1 ≤ n ∧ n ≤ 2000 ∧ ls.length ≤ 10000 ∧ ∀ H', Same H H' → Q (.int n) H'
abbrev nRStates : List PySem.Str := ["lines", "numbers", "word"]
theorem scRStates : FnScope nRStates ["lines"] (defScope sRStates) := ⟨rfl, rfl, rfl, by decide +kernel, rfl, by decide +kernel, by decide +kernel⟩
theorem ok_rstates {f : Addr} {fd : FuncData} (F : Fun K "read_states" "read_states" sRStates f fd) (T : TM mg) (GA : Got P w K mg base "words_after" 1 ["lines", "index", "head"] (spAfter K)) (GN : Got P w K mg base "number_of" 1 ["word"] spNum)
    (GB : Got P w K mg base "is_between" 2 ["value", "least", "most"] spBetween) (gS : ∃ t, mg "MOST_STATES" = some (.int 2000 t)) : FnOk P w K mg base CX0 3 f fd ["lines"] (spRStates K) := by
  refine F.ok scRStates (fun vs H Q E h => ?_) (fun cdv A outer s H vs Q E hr h => ?_)
  · obtain ⟨aL, ls, n, rfl, _⟩ := h
    rfl
  · obtain ⟨aL, ls, n, rfl, hL, e0, n1, n2, few, k⟩ := h
    have h1 := hr.mono (show 1 ≤ 2 by decide)
    obtain ⟨t1, gS⟩ := gS
    refine ⟨_, pss_cons (ps_setLc (i := 1) (own := [("word", 2)]) (g := gName 2) (tt := tYes) (by rfl) scRStates.nd rfl rfl (sw_true rfl rfl rfl (by decide +kernel)) (pi_list (pe_got GA h1 (by rfl) (pa_cons (pv 0) (pa_cons pe_int (pa_cons pe_str pa_nil)))))
          (blkOk_by (own := [("word", 2)]) (N := nRStates) (sc := defScope sRStates) (by decide +kernel)) (fun _ _ _ _ _ => pg_name (i := 2) scRStates.nd rfl (Or.inl rfl)) (fun _ _ _ _ _ => pts_nil) (fun _ _ _ _ _ => pe_got GN h1 (by rfl) (pa_cons (pv 2) pa_nil)))
      (pss_cons (ps_if (PW.pt (pw_or (pt_cmpR op_ne (pe_callB call_len_seq (by rfl) T.len PySem.boot_len (pa_cons (pv 1) pa_nil)) pe_int (nomark _)) (pw_or1 (pt_not (pt_val (pe_got GB hr (by rfl) (pa_cons (pe_ix ix_list (pv 1) pe_int fun _ _ => rfl) (pa_cons pe_int (pa_cons (pe_glob (v := .int 2000) (by rfl) gS ⟨t1, rfl⟩) pa_nil)))))))))
        pss_never pss_nil)
      (pss_one (ps_ret (pe_ix ix_list (pv 1) pe_int fun _ _ => rfl)))), ?_⟩
    have pl : ∀ x ∈ [PySem.Str.ofString "states", num n], Plain x := fun x m => by
      rcases List.mem_cons.mp m with rfl | m
      · exact plainW (by decide +kernel)
      · rw [List.mem_singleton.mp m]; exact plain_num (by omega)
    refine ⟨_, rfl, aL, ls, 1, PySem.Str.ofString "states", [num n], rfl, hL, e0, pl, Nat.le_trans (headS_len (by omega) n2) (by decide), few, fun p H1 s1 np h1' => ?_⟩
    refine ⟨p, rfl, ⟨_, SqL.of h1'⟩, fun D nD => lc_list (K := K) (a := p) (xs := [V.str (num n)]) (fun i H' => Same H1 H' ∧ H' D = some (.lst (([n].take i).map V.int))) ⟨same_new nD, upd_same⟩ (fun i H' _ h => SqL.of (h.1 _ _ h1')) ?_ ?_⟩
    · rintro i v H2 hi ⟨s2, hD⟩
      have i0 : i = 0 := by
        have z := (List.getElem?_eq_some_iff.mp hi).1
        have y : i < 1 := z
        omega
      subst i0
      have ev : V.str (num n) = v := Option.some.inj hi
      subst ev
      refine ⟨rfl, ?_⟩
      refine ⟨_, rfl, n, rfl, by omega, n2, fun H3 s3 => ⟨_, s3 _ _ hD, (by show 0 < sizeLine; decide), same_mut (s2.trans s3) nD, ?_⟩⟩
      rw [upd_same] <;> rfl
    rintro H2 ⟨s2, hD⟩
    have hD' : H2 D = some (.lst [V.int n]) := hD
    refine ⟨_, rfl, D, _, rfl, .inl (SqL.of hD'), rfl, _, rfl, iteNo (by rfl) ?_⟩
    refine ⟨_, rfl, D, _, 0, .int n, rfl, rfl, SqL.of hD', rfl, n, 1, 2000, rfl, _, rfl, ?_⟩
    rw [decide_eq_true n1, decide_eq_true n2]
    refine iteF ?_
    exact ⟨_, rfl, D, _, 0, .int n, rfl, rfl, SqL.of hD', rfl, k H2 (s1.trans s2)⟩
/-! read_yes -/
def spRYes (K : PySem.W.Frag) : Sp := fun vs H Q _ => ∃ (aL : Addr) (ls : List PySem.Str) (n : Int) (ys : List Int), vs = [.ref aL, .int n] ∧ SqL K H aL (ls.map V.str) ∧ ls[2]? = some (headY ys) ∧ n ≤ 2000 ∧ Nums ys ∧ (∀ y ∈ ys, y ≤ n - 1) ∧ ls.length ≤ 10000 ∧
  ∀ (p : Addr) (H' : Hp), Same H H' → H p = none → H' p = some (.lst (ys.map V.int)) → Q (.ref p) H'
abbrev nRYes : List PySem.Str := ["lines", "states", "numbers", "word", "number"]
theorem scRYes : FnScope nRYes ["lines", "states"] (defScope sRYes) := ⟨rfl, rfl, rfl, by decide +kernel, rfl, by decide +kernel, by decide +kernel⟩
theorem ok_ryes {f : Addr} {fd : FuncData} (F : Fun K "read_yes" "read_yes" sRYes f fd) (T : TM mg) (GA : Got P w K mg base "words_after" 1 ["lines", "index", "head"] (spAfter K)) (GN : Got P w K mg base "number_of" 1 ["word"] spNum)
    (GS : Got P w K mg base "is_state" 3 ["states", "value"] spState) : FnOk P w K mg base CX0 4 f fd ["lines", "states"] (spRYes K) := by
  refine F.ok scRYes (fun vs H Q E h => ?_) (fun cdv A outer s H vs Q E hr h => ?_)
  · obtain ⟨aL, ls, n, ys, rfl, _⟩ := h
    rfl
  · obtain ⟨aL, ls, n, ys, rfl, hL, e0, n2, nu, yn, few, k⟩ := h
    have h1 := hr.mono (show 1 ≤ 3 by decide)
    refine ⟨_, pss_cons (ps_setLc (i := 2) (own := [("word", 3)]) (g := gName 3) (tt := tYes) (by rfl) scRYes.nd rfl rfl (sw_true rfl rfl rfl (by decide +kernel)) (pi_list (pe_got GA h1 (by rfl) (pa_cons (pv 0) (pa_cons pe_int (pa_cons pe_str pa_nil)))))
          (blkOk_by (own := [("word", 3)]) (N := nRYes) (sc := defScope sRYes) (by decide +kernel)) (fun _ _ _ _ _ => pg_name (i := 3) scRYes.nd rfl (Or.inl rfl)) (fun _ _ _ _ _ => pts_nil) (fun _ _ _ _ _ => pe_got GN h1 (by rfl) (pa_cons (pv 3) pa_nil)))
      (pss_cons (ps_if (pt_not (pt_val (pe_callB (cr_all rfl) (by rfl) T.all (by decide +kernel) (pa_cons (pe_lc (own := [("number", 4)]) (g := gName 4) (tt := tYes) (by rfl) scRYes.nd (pi_list (pv 2))
          (blkOk_by (own := [("number", 4)]) (N := nRYes) (sc := defScope sRYes) (by decide +kernel)) (fun _ _ _ _ _ => pg_name (i := 4) scRYes.nd rfl (Or.inl rfl)) (fun _ _ _ _ _ => pts_nil)
          (fun _ _ _ _ _ => pe_got GS hr (by rfl) (pa_cons (pv 1) (pa_cons (pv 4) pa_nil)))) pa_nil)))) pss_never pss_nil)
      (pss_one (ps_ret (pv 2)))), ?_⟩
    have fw := nu.1
    have pl : ∀ x ∈ PySem.Str.ofString "yes" :: ys.map num, Plain x := fun x m => by
      rcases List.mem_cons.mp m with rfl | m
      · exact plainW (by decide +kernel)
      · obtain ⟨z, mz, rfl⟩ := List.mem_map.mp m
        exact plain_num (nu.2 z mz).1
    refine ⟨_, rfl, aL, ls, 2, PySem.Str.ofString "yes", ys.map num, rfl, hL, e0, pl, Nat.le_trans (headY_len nu) (by decide), few, fun p H1 s1 np h1' => ?_⟩
    refine ⟨p, rfl, ⟨_, SqL.of h1'⟩, fun D nD => lc_list (K := K) (a := p) (xs := (ys.map num).map V.str) (fun i H' => Same H1 H' ∧ H' D = some (.lst ((ys.take i).map V.int))) ⟨same_new nD, upd_same⟩ (fun i H' _ h => SqL.of (h.1 _ _ h1')) ?_ ?_⟩
    · rintro i v H2 hi ⟨s2, hD⟩
      rw [List.getElem?_map, List.getElem?_map] at hi
      obtain ⟨x, ex, rfl⟩ := Option.map_eq_some_iff.mp hi
      obtain ⟨z, ez, rfl⟩ := Option.map_eq_some_iff.mp ex
      have bz := nu.2 z (List.mem_of_getElem? ez)
      refine ⟨rfl, ?_⟩
      refine ⟨_, rfl, z, rfl, bz.1, bz.2, fun H3 s3 => ⟨_, s3 _ _ hD, ?_, same_mut (s2.trans s3) nD, ?_⟩⟩
      · rw [List.length_map, List.length_take]
        exact Nat.lt_of_le_of_lt (show min i ys.length ≤ 3000 by omega) (by decide)
      · rw [upd_same, take_at ez, List.map_append] <;> rfl
    rintro H2 ⟨s2, hD⟩
    rw [List.length_map, List.length_map, List.take_of_length_le (Nat.le_refl _)] at hD
    refine ⟨_, rfl, D, rfl, ⟨_, SqL.of hD⟩, fun D2 nD2 => lc_list (K := K) (a := D) (xs := ys.map V.int) (fun i H' => Same H2 H' ∧ H' D2 = some (.lst ((List.replicate i true).map V.bl))) ⟨same_new nD2, upd_same⟩ (fun i H' _ h => SqL.of (h.1 _ _ hD)) ?_ ?_⟩
    · rintro i v H3 hi ⟨s3, hD2⟩
      obtain ⟨z, ez, rfl⟩ := mapInt hi
      have mz := List.mem_of_getElem? ez
      have li := (List.getElem?_eq_some_iff.mp ez).1
      refine ⟨rfl, ?_⟩
      refine ⟨_, rfl, _, rfl, n, z, rfl, _, hD2, ?_, same_mut s3 nD2, ?_⟩
      · rw [List.length_map, List.length_replicate]
        exact Nat.lt_of_le_of_lt (show i ≤ 3000 by omega) (by decide)
      · rw [upd_same, List.replicate_succ', List.map_append, decide_eq_true (nu.2 z mz).1, decide_eq_true (yn z mz)]
        rfl
    rintro H3 ⟨s3, hD2⟩
    refine ⟨D2, _, rfl, SqL.of hD2, _, rfl, iteNo (by simp) ?_⟩
    exact ⟨_, rfl, k D H3 ((s1.trans s2).trans s3) (s1.free nD) (s3 _ _ hD)⟩
/-! top_of_word, said_of_words -/
def spTopWord : Sp := fun vs H Q _ => ∃ t : PySem.Str, vs = [.str (topW t)] ∧ Top t ∧ Q (.str t) H
theorem scTopWord : FnScope ["word"] ["word"] (defScope sTopWord) := ⟨rfl, rfl, rfl, by decide +kernel, rfl, by decide +kernel, by decide +kernel⟩
theorem ok_topword {f : Addr} {fd : FuncData} (F : Fun K "top_of_word" "top_of_word" sTopWord f fd) : FnOk P w K mg base CX0 1 f fd ["word"] spTopWord := by
  refine F.ok scTopWord (fun vs H Q E h => ?_) (fun cdv A outer s H vs Q E hr h => ?_)
  · obtain ⟨t, rfl, _⟩ := h
    rfl
  · obtain ⟨t, rfl, tp, k⟩ := h
    refine ⟨_, pss_cons (ps_if (pt_cmpR op_eq (pv 0) pe_str (nomark _)) (pss_one (ps_ret pe_str)) pss_nil) (pss_one (ps_ret (pe_ifExp (pt_truth (pv 0) fun _ => rfl) (pv 0) pe_non))), ?_⟩
    by_cases e : t = nil0
    · have et : topW t = PySem.Str.ofString "-" := by unfold topW; rw [if_pos e]
      rw [et]
      refine ⟨_, rfl, rfl, _, rfl, ite2 (fun _ => ?_) (fun c => absurd (decide_eq_true rfl) c)⟩
      rw [e] at k
      exact k
    · have et : topW t = t := by unfold topW; rw [if_neg e]
      rw [et]
      have sy := tp.resolve_right e
      have ne : t ≠ PySem.Str.ofString "-" := fun z => by
        rw [z] at sy
        exact absurd sy (by decide +kernel)
      refine ⟨_, rfl, rfl, _, rfl, iteNo (decide_eq_false fun z => ne (V.str.inj z)) ?_⟩
      refine ⟨_, rfl, _, tru_str (Nat.le_trans (top_len tp) (by decide)), ?_⟩
      rw [decide_eq_false e]
      exact iteT ⟨_, rfl, k⟩
def saidW (sa : PySem.Str) : List PySem.Str := if sa = nil0 then [] else [say0, sa]
def spSaid (K : PySem.W.Frag) : Sp := fun vs H Q _ => ∃ (a : Addr) (sa : PySem.Str), vs = [.ref a] ∧ SqL K H a ((saidW sa).map V.str) ∧ Q (.str sa) H
theorem scSaid : FnScope ["words"] ["words"] (defScope sSaid) := ⟨rfl, rfl, rfl, by decide +kernel, rfl, by decide +kernel, by decide +kernel⟩
theorem ok_said {f : Addr} {fd : FuncData} (F : Fun K "said_of_words" "said_of_words" sSaid f fd) (T : TM mg) : FnOk P w K mg base CX0 1 f fd ["words"] (spSaid K) := by
  refine F.ok scSaid (fun vs H Q E h => ?_) (fun cdv A outer s H vs Q E hr h => ?_)
  · obtain ⟨a, sa, rfl, _⟩ := h
    rfl
  · obtain ⟨a, sa, rfl, hS, k⟩ := h
    refine ⟨_, pss_cons (ps_if (pt_not (pt_truth (pv 0) fun _ => rfl)) (pss_one (ps_ret pe_str)) pss_nil)
      (pss_cons (ps_if (PW.pt (pw_or (pt_cmpR op_ne (pe_callB call_len_seq (by rfl) T.len PySem.boot_len (pa_cons (pv 0) pa_nil)) pe_int (nomark _)) (pw_or (pt_cmpR op_ne (pe_ix ix_list (pv 0) pe_int fun _ _ => rfl) pe_str (nomark _))
        (pw_or1 (pt_cmpR op_eq (pe_ix ix_list (pv 0) pe_int fun _ _ => rfl) pe_str (nomark _)))))) (pss_one (ps_ret pe_non)) pss_nil)
      (pss_one (ps_ret (pe_ix ix_list (pv 0) pe_int fun _ _ => rfl)))), ?_⟩
    by_cases e : sa = nil0
    · have ew : (saidW sa).map V.str = [] := by unfold saidW; rw [if_pos e] <;> rfl
      rw [ew] at hS
      refine ⟨_, rfl, false, .inl ⟨_, hS, rfl⟩, ?_⟩
      rw [e] at k
      exact iteT k
    · have ew : (saidW sa).map V.str = [V.str say0, V.str sa] := by unfold saidW; rw [if_neg e] <;> rfl
      rw [ew] at hS
      refine ⟨_, rfl, true, .inl ⟨_, hS, rfl⟩, iteF ?_⟩
      refine ⟨_, rfl, a, _, rfl, .inl hS, rfl, _, rfl, iteNo (by rfl) ?_⟩
      refine ⟨_, rfl, a, _, 0, .str say0, rfl, rfl, hS, rfl, rfl, _, rfl, iteNo (by rw [decide_eq_true rfl] <;> rfl) ?_⟩
      refine ⟨_, rfl, a, _, 1, .str sa, rfl, rfl, hS, rfl, rfl, _, rfl, iteNo (decide_eq_false fun z => e (V.str.inj z)) ?_⟩
      exact ⟨_, rfl, a, _, 1, .str sa, rfl, rfl, hS, rfl, k⟩
end
end Mk
set_option Elab.async false
set_option maxRecDepth 100000
set_option maxHeartbeats 4000000
namespace Mk
open PySem L2 Pk
def isLst : HO → Bool
  | .lst _ => true
  | _ => false
/-- all but lists stays -/
def Lk (H H' : Hp) : Prop := ∀ b o, isLst o = false → H b = some o → H' b = some o
theorem Lk.of {H H' : Hp} (s : Same H H') : Lk H H' := fun b o _ e => s b o e
theorem Lk.refl (H : Hp) : Lk H H := fun _ _ _ e => e
theorem Lk.trans {H H' H'' : Hp} (a : Lk H H') (b : Lk H' H'') : Lk H H'' := fun c o n e => b c o n (a c o n e)
theorem Lk.put {H : Hp} {q : Addr} {xs : List V} {o' : HO} (h : H q = some (.lst xs)) : Lk H (upd H q o') := fun b o n e => by
  have ne : b ≠ q := fun z => by
    rw [z, h] at e
    cases e
    cases n
  rw [upd_ne ne]
  exact e
theorem Lk.tk {H H' : Hp} (l : Lk H H') : Tk H H' := fun b _ e => l b _ rfl e
theorem MachAt.lk {K : PySem.W.Frag} {H H' : Hp} {C x : Addr} {l : PySem.Str} {n : Int} {rs : List Rl} {ys : List Int} (h : MachAt K H C x l n rs ys) (e : Lk H H') : MachAt K H' C x l n rs ys := by
  obtain ⟨dx, aR, aY, aS, aA, g, R, hx, hR, kR, eR, hY, hS, hA, hg⟩ := h.ex
  refine ⟨dx, aR, aY, aS, aA, g, R, e _ _ rfl hx, e _ _ rfl hR, fun p m => e _ _ rfl (kR p m), eR, e _ _ rfl hY, e _ _ rfl hS, ?_, hg.tk e.tk⟩
  obtain ⟨kvs, h1, h2⟩ := hA
  exact ⟨kvs, e _ _ rfl h1, Paired.mapP h2 fun a b z => z.mono fun c xs y => e _ _ rfl y⟩
theorem ArgsOk.mono {K : PySem.W.Frag} {H H' : Hp} {l : PySem.Str} {n : Int} {aR aY : Addr} {bR bY : Bool} {R : Hand} {ys : List Int} (h : ArgsOk K H l n aR aY bR bY R ys) (e : Same H H') : ArgsOk K H' l n aR aY bR bY R ys :=
  ⟨h.alpha, h.num, h.rs.mono e, h.hand.mono e, h.yes.mono e, h.in_, h.few⟩
theorem Right.mono {K : PySem.W.Frag} {H H' : Hp} {l : PySem.Str} {n : Int} {aR aY : Addr} {bR bY : Bool} {R : Hand} {ys : List Int} (h : Right K H l n aR aY bR bY R ys) (e : Same H H') : Right K H' l n aR aY bR bY R ys :=
  ⟨h.args.mono e, fun p m b => e _ _ (h.raw p m b), h.few, h.fewY⟩
theorem made_same {H H' : Hp} {x dx C : Addr} (nx : H x = none) (nd : H dx = none) (o : Off x (upd (upd H dx (.own x)) x (.ins C dx [])) H') : Same H H' := fun b u e =>
  o b u (ne_of_none e nx) (by rw [upd_ne (ne_of_none e nx), upd_ne (ne_of_none e nd)]; exact e)
theorem made_new {H : Hp} {x dx C : Addr} (nx : H x = none) (nd : H dx = none) : Same H (upd (upd H dx (.own x)) x (.ins C dx [])) := fun b u e => by
  rw [upd_ne (ne_of_none e nx), upd_ne (ne_of_none e nd)]
  exact e
section
variable {P : Program} {w : World} {K : PySem.W.Frag} {mg : PySem.Str → Option Value} {base : Heap}
/-- the class Machine and its ways to be called -/
structure MDef (P : Program) (w : World) (K : PySem.W.Frag) (mg : PySem.Str → Option Value) (base : Heap) (C fI e0 : Addr) (fd : FuncData) : Prop where
  cls : MCls K C
  maker : L2.Mk K C fI
  name : mg "Machine" = some (.ref C)
  init : FnOk P w K mg base CX0 6 fI fd ["self", "letters", "states", "rules", "yes"] (spInit K C)
  b4 : Binds K fd ["self", "letters", "states", "rules", "yes"] []
  b3 : ∃ ds, Vals [V.ref e0] ds ∧ Binds K fd ["self", "letters", "states", "rules", "yes"] ds
  kw : KBn K fd ["self", "letters", "states", "rules", "yes"] 4 ["yes"] (fun us ws => us ++ ws) (fun vs zs => vs ++ zs)
  empty : ∀ H : Hp, SqT K H e0 []
/-- a right call makes a machine -/
theorem made_of {H : Hp} {C x dx : Addr} {l : PySem.Str} {n : Int} {aR aY : Addr} {bR bY : Bool} {R : Hand} {ys : List Int} {Q : VK} {E : XK} (nx : H x = none) (nd : H dx = none) (r : Right K H l n aR aY bR bY R ys)
    (k : ∀ H', Same H H' → MachAt K H' C x l n (rsOf R) ys → Q (.ref x) H') :
    spInit K C [.ref x, .str l, .int n, .ref aR, .ref aY] (upd (upd H dx (.own x)) x (.ins C dx [])) (fun v H2 => v = .non ∧ Q (.ref x) H2) E :=
  ⟨x, dx, l, n, aR, aY, bR, bY, R, ys, rfl, upd_same, r.mono (made_new nx nd), fun H' o m => ⟨rfl, k H' (made_same nx nd o) m⟩⟩
theorem made_as {H : Hp} {C x dx : Addr} {l : PySem.Str} {n : Int} {aR aY : Addr} {bR bY : Bool} {R : Hand} {ys : List Int} {vs : List V} {Q : VK} {E : XK} (nx : H x = none) (nd : H dx = none) (hv : vs = [.ref x, .str l, .int n, .ref aR, .ref aY]) (r : Right K H l n aR aY bR bY R ys)
    (k : ∀ H', Same H H' → MachAt K H' C x l n (rsOf R) ys → Q .non H') : spInit K C vs (upd (upd H dx (.own x)) x (.ins C dx [])) Q E := by
  subst hv
  exact ⟨x, dx, l, n, aR, aY, bR, bY, R, ys, rfl, upd_same, r.mono (made_new nx nd), fun H' o m => k H' (made_same nx nd o) m⟩
end
theorem alpha_ok {l : PySem.Str} (al : Alpha l) : ∀ c ∈ l.cps.toList, c < 1114112 := fun c m => by
  have z := al.low
  unfold lowB at z
  have y := List.all_eq_true.mp z c m
  unfold lowC at y
  rw [Bool.and_eq_true, decide_eq_true_eq, decide_eq_true_eq] at y
  omega
theorem sym_ok {x : PySem.Str} (h : symB x = true) : ∀ c ∈ x.cps.toList, c < 1114112 := fun c m => by
  unfold symB at h
  rw [Bool.and_eq_true] at h
  have y := List.all_eq_true.mp h.2 c m
  unfold markC at y
  simp only [Bool.or_eq_true, Bool.and_eq_true, decide_eq_true_eq] at y
  omega
theorem top_ok {x : PySem.Str} (h : Top x) : ∀ c ∈ x.cps.toList, c < 1114112 := by
  rcases h with h | h
  · exact sym_ok h
  · rw [h]
    intro c m
    exact absurd m List.not_mem_nil
theorem sgn_ok {l x : PySem.Str} (al : Alpha l) (h : Sgn l x) : ∀ c ∈ x.cps.toList, c < 1114112 := by
  obtain ⟨c, rfl, h⟩ := h
  intro d m
  have e : d = c := List.mem_singleton.mp m
  rw [e]
  rcases h with h | h | h
  · omega
  · omega
  · exact alpha_ok al c h
theorem low_ok {x : PySem.Str} (h : lowB x = true) : ∀ c ∈ x.cps.toList, c < 1114112 := fun c m => by
  unfold lowB at h
  have y := List.all_eq_true.mp h c m
  unfold lowC at y
  rw [Bool.and_eq_true, decide_eq_true_eq, decide_eq_true_eq] at y
  omega

theorem deed_ok {t d x : PySem.Str} (h : Deed t d x) : (∀ c ∈ d.cps.toList, c < 1114112) ∧ ∀ c ∈ x.cps.toList, c < 1114112 := by
  have k1 : ∀ c ∈ (keep0).cps.toList, c < 1114112 := by decide +kernel
  have k2 : ∀ c ∈ (pop0).cps.toList, c < 1114112 := by decide +kernel
  have k3 : ∀ c ∈ (push0).cps.toList, c < 1114112 := by decide +kernel
  have k4 : ∀ c ∈ (swap0).cps.toList, c < 1114112 := by decide +kernel
  have k0 : ∀ c ∈ (nil0).cps.toList, c < 1114112 := by decide +kernel
  rcases h.one with e | e | e | e
  · exact ⟨by rw [e]; exact k1, by rw [h.no (.inl e)]; exact k0⟩
  · exact ⟨by rw [e]; exact k2, by rw [h.no (.inr e)]; exact k0⟩
  · exact ⟨by rw [e]; exact k3, sym_ok (h.sym (.inl e))⟩
  · exact ⟨by rw [e]; exact k4, sym_ok (h.sym (.inr e))⟩
theorem rl_ok {l : PySem.Str} {n : Int} {r : Rl} (al : Alpha l) (h : RlOk l n r) : ∀ x ∈ r.key, KeyOk x := by
  intro x m
  have m' : x ∈ [Sum.inl r.st, Sum.inr r.sg, Sum.inr r.tp, Sum.inl r.af, Sum.inl r.mv, Sum.inr r.de, Sum.inr r.sy, Sum.inr r.sa] := m
  simp only [List.mem_cons, List.not_mem_nil, or_false] at m'
  rcases m' with rfl | rfl | rfl | rfl | rfl | rfl | rfl | rfl
  · exact trivial
  · exact sgn_ok al h.sg
  · exact top_ok h.tp
  · exact trivial
  · exact trivial
  · exact (deed_ok h.de).1
  · exact (deed_ok h.de).2
  · exact low_ok h.sa.1
theorem k3_sub {r : Rl} (h : ∀ x ∈ r.key, KeyOk x) : ∀ x ∈ r.k3, KeyOk x := fun x m => h x (by
  have e : r.key = r.k3 ++ r.a5 := rfl
  rw [e]
  exact List.mem_append_left _ m)
end Mk
set_option Elab.async false
set_option maxRecDepth 100000
set_option maxHeartbeats 4000000
namespace Mk
open PySem L2 Pk
abbrev sOfLine : Stmt := top 52
theorem cut_fromV {xs : List V} {a : Nat} (h : a ≤ xs.length) : cutV xs (some (a : Int)) none = xs.drop a := by
  unfold cutV
  rw [HT.sIx_none, HT.sIx_nat, Nat.min_eq_left h]
  exact List.take_of_length_le (by rw [List.length_drop]; exact Nat.le_refl _)
theorem cut_toV {xs : List V} {b : Nat} (h : b ≤ xs.length) : cutV xs none (some (b : Int)) = xs.take b := by
  unfold cutV
  rw [HT.sIx_none, HT.sIx_nat, Nat.min_eq_left h] <;> rfl
/-- the dict MOVES -/
structure MVS (K : PySem.W.Frag) (w : World) (mg : PySem.Str → Option Value) : Prop where
  ex : ∃ (a : Addr) (es : Array DictEntry) (n : Nat) (u1 u2 u3 : Value), mg "MOVES" = some (.ref a) ∧ KDict K w a es n ∧ PySem.W.nsIn K a (PySem.Str.ofString "left") = some (some u1) ∧ PySem.W.nsIn K a (PySem.Str.ofString "stay") = some (some u2) ∧
    PySem.W.nsIn K a (PySem.Str.ofString "right") = some (some u3) ∧ RelV (.int (-1)) u1 ∧ RelV (.int 0) u2 ∧ RelV (.int 1) u3
theorem mvs_get {K : PySem.W.Frag} {w : World} {mg : PySem.Str → Option Value} (M : MVS K w mg) : ∃ (a : Addr) (es : Array DictEntry) (n : Nat), mg "MOVES" = some (.ref a) ∧ KDict K w a es n ∧ ∀ {s : PySem.Str} {v : Int}, Mv s v → ∃ r, PySem.W.nsIn K a (moveW v) = some r ∧ RelV (.int v) (r.getD .none) := by
  obtain ⟨a, es, n, u1, u2, u3, g, D, f1, f2, f3, r1, r2, r3⟩ := M.ex
  refine ⟨a, es, n, g, D, fun h => ?_⟩
  rcases mv_three h with e | e | e <;> rw [e]
  · exact ⟨_, f1, r1⟩
  · exact ⟨_, f2, r2⟩
  · exact ⟨_, f3, r3⟩
section
variable {P : Program} {w : World} {K : PySem.W.Frag} {mg : PySem.Str → Option Value} {base : Heap}
def spOfLine : Sp := fun vs H Q _ => ∃ (r : Rl) (l : PySem.Str) (n : Int), vs = [.str (lineOf r)] ∧ Alpha l ∧ RlOk l n r ∧ n ≤ 2000 ∧ ∀ (p : Addr) (H' : Hp), Same H H' → H p = none → H' p = some (.tup r.vs) → Q (.ref p) H'
abbrev nOL : List PySem.Str := ["line", "words", "state", "sign", "top", "after", "move", "deed", "rest", "symbol", "parts"]
theorem scOL : FnScope nOL ["line"] (defScope sOfLine) := ⟨rfl, rfl, rfl, by decide +kernel, rfl, by decide +kernel, by decide +kernel⟩
theorem ok_ofline {f : Addr} {fd : FuncData} (F : Fun K "rule_of_line" "rule_of_line" sOfLine f fd) (T : TM mg) (M : MVS K w mg) (GN : Got P w K mg base "number_of" 1 ["word"] spNum) (GT : Got P w K mg base "top_of_word" 1 ["word"] spTopWord)
    (GS : Got P w K mg base "said_of_words" 1 ["words"] (spSaid K)) : FnOk P w K mg base CX0 2 f fd ["line"] spOfLine := by
  refine F.ok scOL (fun vs H Q E h => ?_) (fun cdv A outer s H vs Q E hr h => ?_)
  · obtain ⟨r, l, n, rfl, _⟩ := h
    rfl
  · obtain ⟨r, l, n, rfl, al, ok, n2, k⟩ := h
    obtain ⟨aM, es, nM, gM, KD, mv⟩ := mvs_get M
    refine ⟨_, pss_cons (ps_set (i := 1) scOL.nd rfl (Or.inl rfl) (pe_split (pv 0) pe_str))
      (pss_cons (ps_if (pt_cmp (pc_lt (pe_callB call_len_seq (by rfl) T.len PySem.boot_len (pa_cons (pv 1) pa_nil)) pe_int)) (pss_one (ps_ret pe_non)) pss_nil)
      (pss_cons (ps_asg (pe_slice sl_list (pv 1) po_none (po_some pe_int)) (pg_sq true (by rfl) (pgs_cons (pg_name (i := 2) scOL.nd rfl (Or.inl rfl)) (pgs_cons (pg_name (i := 3) scOL.nd rfl (Or.inl rfl)) (pgs_cons (pg_name (i := 4) scOL.nd rfl (Or.inl rfl))
        (pgs_cons (pg_name (i := 5) scOL.nd rfl (Or.inl rfl)) (pgs_cons (pg_name (i := 6) scOL.nd rfl (Or.inl rfl)) (pgs_cons (pg_name (i := 7) scOL.nd rfl (Or.inl rfl)) pgs_nil))))))))
      (pss_cons (ps_set (i := 8) scOL.nd rfl (Or.inl rfl) (pe_slice sl_list (pv 1) (po_some pe_int) po_none))
      (pss_cons (ps_set (i := 9) scOL.nd rfl (Or.inl rfl) pe_str)
      (C8.pss_cut (ps_if (PW.pt (pw_and (pt_cmpR op_in_seq (pv 7) (pe_tup (pa_cons pe_str (pa_cons pe_str pa_nil))) rfl) (pw_and1 (pt_truth (pv 8) fun _ => rfl))))
        (pss_one (ps_set (i := 9) scOL.nd rfl (Or.inl rfl) (pe_bm PySem.F.plainAttrs_list PySem.F.slot_list_pop PySem.F.type_list_pop mt_popAt (pv 8) (pa_cons pe_int pa_nil)))) pss_nil)
      (pss_cons (ps_set (i := 10) scOL.nd rfl (Or.inl rfl) (pe_tup (pa_cons (pe_got GN hr (by rfl) (pa_cons (pv 2) pa_nil)) (pa_cons (pv 3) (pa_cons (pe_got GT hr (by rfl) (pa_cons (pv 4) pa_nil)) (pa_cons (pe_got GN hr (by rfl) (pa_cons (pv 5) pa_nil)) pa_nil))))))
      (pss_one (ps_ret (pe_op op_catA (pv 10) (pe_tup (pa_cons (Sx.pe_kget (pe_glob (v := .ref aM) (by rfl) gM rfl) (pv 6) ⟨rfl, rfl, rfl, rfl⟩) (pa_cons (pv 7) (pa_cons (pv 9) (pa_cons (pe_got GS hr (by rfl) (pa_cons (pv 8) pa_nil)) pa_nil)))))))))))))), ?_⟩
    have st2 : r.st ≤ 2000 := by have := ok.st.2; omega
    have af2 : r.af ≤ 2000 := by have := ok.af.2; omega
    have en : (sp0.length == 0) = false := by decide +kernel
    have six : ([num r.st, r.sg, topW r.tp, num r.af, moveW r.mv, r.de] : List PySem.Str).map V.str = [V.str (num r.st), V.str r.sg, V.str (topW r.tp), V.str (num r.af), V.str (moveW r.mv), V.str r.de] := rfl
    have ew : (wordsOf r).map V.str = [V.str (num r.st), V.str r.sg, V.str (topW r.tp), V.str (num r.af), V.str (moveW r.mv), V.str r.de] ++ ((if r.sy = nil0 then [] else [r.sy]) ++ saidW r.sa).map V.str := by
      unfold wordsOf saidW
      rw [List.map_append, six]
    generalize htl : ((if r.sy = nil0 then [] else [r.sy]) ++ saidW r.sa).map V.str = tls at ew
    have lw : ((wordsOf r).map V.str).length = 6 + tls.length := by rw [ew, List.length_append] <;> rfl
    refine ⟨_, rfl, ⟨_, rfl⟩, lineOf r, sp0, rfl, rfl, en, Nat.le_trans (Nat.add_le_add_right (line_len n2 ok) 2) (by decide), fun p np => ?_⟩
    have s1 := same_new (o := HO.lst ((Txt.split (lineOf r) sp0).map V.str)) np
    have h1 : (upd H p (.lst ((Txt.split (lineOf r) sp0).map V.str))) p = some (.lst ((wordsOf r).map V.str)) := by
      unfold lineOf
      rw [upd_same, split_words (words_ne r) (words_plain al ok)]
    generalize upd H p (.lst ((Txt.split (lineOf r) sp0).map V.str)) = H1 at s1 h1 ⊢
    refine ⟨_, rfl, p, _, rfl, .inl (SqL.of h1), _, _, rfl, rfl, _, rfl, iteNo (decide_eq_false (by rw [lw]; omega)) ?_⟩
    refine ⟨_, rfl, 6, rfl, p, _, rfl, SqL.of h1, fun q nq => ?_⟩
    have s2 := s1.trans (same_new (o := HO.lst (cutV ((wordsOf r).map V.str) none (some 6))) nq)
    have h2 : (upd H1 q (.lst (cutV ((wordsOf r).map V.str) none (some 6)))) q = some (.lst [V.str (num r.st), V.str r.sg, V.str (topW r.tp), V.str (num r.af), V.str (moveW r.mv), V.str r.de]) := by
      rw [upd_same]
      have z := cut_toV (xs := (wordsOf r).map V.str) (b := 6) (by omega)
      rw [show cutV ((wordsOf r).map V.str) none (some 6) = ((wordsOf r).map V.str).take 6 from z, ew] <;> rfl
    have h1' := same_new (o := HO.lst (cutV ((wordsOf r).map V.str) none (some 6))) nq _ _ h1
    generalize upd H1 q (.lst (cutV ((wordsOf r).map V.str) none (some 6))) = H2 at s2 h2 h1' ⊢
    refine gsq_of ⟨q, _, rfl, SqL.of h2, rfl, _, _, rfl, _, _, rfl, _, _, rfl, _, _, rfl, _, _, rfl, _, _, rfl, rfl, ?_⟩
    refine ⟨_, rfl, 6, rfl, p, _, rfl, SqL.of h1', fun a na => ?_⟩
    have naH := s2.free na
    have s3 := s2.trans (same_new (o := HO.lst (cutV ((wordsOf r).map V.str) (some 6) none)) na)
    have h3 : (upd H2 a (.lst (cutV ((wordsOf r).map V.str) (some 6) none))) a = some (.lst tls) := by
      rw [upd_same]
      have z := cut_fromV (xs := (wordsOf r).map V.str) (a := 6) (by omega)
      rw [show cutV ((wordsOf r).map V.str) (some 6) none = ((wordsOf r).map V.str).drop 6 from z, ew] <;> rfl
    generalize upd H2 a (.lst (cutV ((wordsOf r).map V.str) (some 6) none)) = H3 at s3 h3 ⊢
    clear h1 h1' h2 s1 s2
    refine ⟨fun σ' H' => σ' = [some (.str (lineOf r)), some (.ref p), some (.str (num r.st)), some (.str r.sg), some (.str (topW r.tp)), some (.str (num r.af)), some (.str (moveW r.mv)), some (.str r.de), some (.ref a), some (.str r.sy), none] ∧ Same H H' ∧ H' a = some (.lst ((saidW r.sa).map V.str)), ?_, ?_⟩
    · refine ⟨_, rfl, by decide, fun pt npt => ?_⟩
      have s4 := s3.trans (same_new (o := HO.tup [V.str push0, V.str swap0]) npt)
      have h4 := same_new (o := HO.tup [V.str push0, V.str swap0]) npt _ _ h3
      have ht : (upd H3 pt (.tup [V.str push0, V.str swap0])) pt = some (.tup [V.str push0, V.str swap0]) := upd_same
      refine ⟨pt, _, rfl, .inr (.inl (.inl ht)), rfl, rfl, _, rfl, ?_⟩
      generalize upd H3 pt (.tup [V.str push0, V.str swap0]) = H4 at s4 h4 ht ⊢
      by_cases e : r.sy = nil0
      · have nd : ¬ (r.de = push0 ∨ r.de = swap0) := fun z => ((deed_sym ok.de).mp z) e
        have ni : inV (.str r.de) [V.str push0, V.str swap0] = false := by
          rcases ok.de.one with z | z | z | z
          · rw [z]; decide +kernel
          · rw [z]; decide +kernel
          · exact absurd (.inl z) nd
          · exact absurd (.inr z) nd
        refine iteNo (by rw [ni] <;> rfl) ?_
        rw [if_pos e] at htl
        refine ⟨by rw [e] <;> rfl, s4, ?_⟩
        rw [h4, ← htl] <;> rfl
      · have yd : r.de = push0 ∨ r.de = swap0 := (deed_sym ok.de).mpr e
        have yi : inV (.str r.de) [V.str push0, V.str swap0] = true := by
          rcases yd with z | z <;> rw [z] <;> decide +kernel
        rw [if_neg e] at htl
        have el : tls = V.str r.sy :: (saidW r.sa).map V.str := by rw [← htl] <;> rfl
        refine ite2 (fun _ => ?_) (fun c => absurd (by rw [yi] <;> rfl) c)
        refine ⟨_, rfl, true, .inl ⟨_, SqL.of h4, by rw [el] <;> rfl⟩, ?_⟩
        refine iteT ?_
        refine ⟨_, rfl, .inl ⟨rfl, _, SqL.of h4⟩, a, tls, 0, 0, .str r.sy, rfl, rfl, h4, by decide, by decide, ?_, by rw [el] <;> rfl, rfl, same_mut s4 naH, ?_⟩
        · unfold seqIndex?
          rw [el]
          simp
        · rw [upd_same, el] <;> rfl
    rintro _ H5 ⟨rfl, s5, h5⟩
    refine ⟨_, rfl, r.st, rfl, ok.st.1, st2, fun H6 s6 => ?_⟩
    refine ⟨_, rfl, _, rfl, r.tp, rfl, ok.tp, ?_⟩
    refine ⟨_, rfl, r.af, rfl, ok.af.1, af2, fun H7 s7 => ?_⟩
    refine ⟨show 4 ≤ sizeLine by decide, fun t4 n4 => ?_⟩
    have s8 := ((s5.trans s6).trans s7).trans (same_new (o := HO.tup [V.int r.st, V.str r.sg, V.str r.tp, V.int r.af]) n4)
    have h8 := same_new (o := HO.tup [V.int r.st, V.str r.sg, V.str r.tp, V.int r.af]) n4 _ _ (s7 _ _ (s6 _ _ h5))
    have ht4 : (upd H7 t4 (.tup [V.int r.st, V.str r.sg, V.str r.tp, V.int r.af])) t4 = some (.tup [V.int r.st, V.str r.sg, V.str r.tp, V.int r.af]) := upd_same
    generalize upd H7 t4 (.tup [V.int r.st, V.str r.sg, V.str r.tp, V.int r.af]) = H8 at s8 h8 ht4 ⊢
    obtain ⟨um, fm, rm⟩ := mv ok.mv
    refine ⟨_, rfl, aM, es, nM, rfl, KD, _, rfl, moveW r.mv, um, _, rfl, fm, rm, ?_⟩
    refine ⟨_, rfl, _, rfl, _, rfl, a, r.sa, rfl, SqL.of h8, ?_⟩
    refine ⟨show 4 ≤ sizeLine by decide, fun t5 n5 => ?_⟩
    have s9 := s8.trans (same_new (o := HO.tup [V.int r.mv, V.str r.de, V.str r.sy, V.str r.sa]) n5)
    have ht49 := same_new (o := HO.tup [V.int r.mv, V.str r.de, V.str r.sy, V.str r.sa]) n5 _ _ ht4
    have ht5 : (upd H8 t5 (.tup [V.int r.mv, V.str r.de, V.str r.sy, V.str r.sa])) t5 = some (.tup [V.int r.mv, V.str r.de, V.str r.sy, V.str r.sa]) := upd_same
    generalize upd H8 t5 (.tup [V.int r.mv, V.str r.de, V.str r.sy, V.str r.sa]) = H9 at s9 ht49 ht5 ⊢
    refine ⟨t4, t5, _, _, rfl, rfl, .inl (.inl ht49), .inl (.inl ht5), show 8 ≤ sizeLine by decide, fun z => (nomatch z), fun _ z => (nomatch z), fun _ _ u nu => ?_⟩
    exact k u _ (s9.trans (same_new nu)) (s9.free nu) (by rw [upd_same] <;> rfl)
end
end Mk
set_option Elab.async false
set_option maxRecDepth 100000
set_option maxHeartbeats 4000000
namespace Mk
open PySem L2 Pk
abbrev sRead : Stmt := top 53
section
variable {P : Program} {w : World} {K : PySem.W.Frag} {mg : PySem.Str → Option Value} {base : Heap}
def spRead (K : PySem.W.Frag) (C : Addr) : Sp := fun vs H Q _ => ∃ (t l : PySem.Str) (n : Int) (rs : List Rl) (ys : List Int), vs = [.str t] ∧ (t = Txt.join nl0 (linesOf l n rs ys) ∨ t = Txt.join nl0 (linesOf l n rs ys ++ [em0])) ∧ NoteOk l n rs ys ∧ (∀ y ∈ ys, y ≤ n - 1) ∧ t.length ≤ 1000000 ∧
  ∀ (x : Addr) (H' : Hp), Same H H' → MachAt K H' C x l n rs ys → Q (.ref x) H'
abbrev nRead : List PySem.Str := ["text", "lines", "letters", "states", "yes", "rules", "index", "rule"]
theorem scRead : FnScope nRead ["text"] (defScope sRead) := ⟨rfl, rfl, rfl, by decide +kernel, rfl, by decide +kernel, by decide +kernel⟩
structure ReadDefs (P : Program) (w : World) (K : PySem.W.Frag) (mg : PySem.Str → Option Value) (base : Heap) : Prop where
  lines : Got P w K mg base "lines_of" 1 ["text"] spLinesOf
  letters : Got P w K mg base "read_letters" 3 ["lines"] (spRLetters K)
  states : Got P w K mg base "read_states" 3 ["lines"] (spRStates K)
  yes : Got P w K mg base "read_yes" 4 ["lines", "states"] (spRYes K)
  line : Got P w K mg base "rule_of_line" 2 ["line"] spOfLine
  rule : Got P w K mg base "is_rule" 4 ["letters", "states", "value"] (spRule K)
  mr : ∃ t, mg "MOST_RULES" = some (.int 20000 t)
theorem ok_read {f : Addr} {fd : FuncData} {C fI e0 : Addr} {fdI : FuncData} (F : Fun K "read_machine" "read_machine" sRead f fd) (T : TM mg) (G : ReadDefs P w K mg base) (M : MDef P w K mg base C fI e0 fdI) : FnOk P w K mg base CX0 8 f fd ["text"] (spRead K C) := by
  refine F.ok scRead (fun vs H Q E h => ?_) (fun cdv A outer s H vs Q E hr h => ?_)
  · obtain ⟨t, l, n, rs, ys, rfl, _⟩ := h
    rfl
  · obtain ⟨t, l, n, rs, ys, rfl, ht, no, yn, sz, k⟩ := h
    obtain ⟨t2, gR⟩ := G.mr
    have h1 := hr.mono (show 1 ≤ 7 by decide)
    have h2 := hr.mono (show 2 ≤ 7 by decide)
    have h3 := hr.mono (show 3 ≤ 7 by decide)
    have h4 := hr.mono (show 4 ≤ 7 by decide)
    refine ⟨_, pss_cons (ps_set (i := 1) scRead.nd rfl (Or.inl rfl) (pe_got G.lines h1 (by rfl) (pa_cons (pv 0) pa_nil)))
      (pss_cons (ps_set (i := 2) scRead.nd rfl (Or.inl rfl) (pe_got G.letters h3 (by rfl) (pa_cons (pv 1) pa_nil)))
      (pss_cons (ps_set (i := 3) scRead.nd rfl (Or.inl rfl) (pe_got G.states h3 (by rfl) (pa_cons (pv 1) pa_nil)))
      (pss_cons (ps_set (i := 4) scRead.nd rfl (Or.inl rfl) (pe_got G.yes h4 (by rfl) (pa_cons (pv 1) (pa_cons (pv 3) pa_nil))))
      (pss_cons (ps_set (i := 5) scRead.nd rfl (Or.inl rfl) (pe_lst pa_nil))
      (pss_cons (ps_for PassesOwn.never rfl (pi_range2 (by rfl) T.range (pa_cons pe_int (pa_cons (pe_callB call_len_seq (by rfl) T.len PySem.boot_len (pa_cons (pv 1) pa_nil)) pa_nil))) (pg_name (i := 6) scRead.nd rfl (Or.inl rfl))
        (pss_cons (ps_set (i := 7) scRead.nd rfl (Or.inl rfl) (pe_got G.line h2 (by rfl) (pa_cons (pe_ix ix_list (pv 1) (pv 6) fun _ _ => rfl) pa_nil)))
        (pss_cons (ps_if (PW.pt (pw_or (pt_cmpR op_eq (pe_callB call_len_seq (by rfl) T.len PySem.boot_len (pa_cons (pv 5) pa_nil)) (pe_glob (v := .int 20000) (by rfl) gR ⟨t2, rfl⟩) (nomark _))
            (pw_or1 (pt_not (pt_val (pe_got G.rule h4 (by rfl) (pa_cons (pv 2) (pa_cons (pv 3) (pa_cons (pv 7) pa_nil))))))))) pss_never pss_nil)
        (pss_one (ps_expr (pe_bm PySem.F.plainAttrs_list PySem.F.slot_list_append PySem.F.type_list_append mt_append (pv 5) (pa_cons (pv 7) pa_nil)))))))
      (pss_one (ps_ret (pe_make M.maker M.init hr (by rfl) M.name M.b4 .nil pass0 (pa_cons (pv 2) (pa_cons (pv 3) (pa_cons (pv 5) (pa_cons (pv 4) pa_nil)))))))))))), ?_⟩
    have fewL : (linesOf l n rs ys).length = 3 + rs.length := by
      show (headL l :: headS n :: headY ys :: rs.map lineOf).length = _
      rw [List.length_cons, List.length_cons, List.length_cons, List.length_map]
      omega
    have few := no.few
    generalize hls : linesOf l n rs ys = ls at ht fewL
    refine ⟨_, rfl, t, ls, rfl, ht, fun q => ?_, ?_, sz, by omega, fun a H1 s1 na hL => ?_⟩
    · rw [q] at fewL
      simp at fewL
      omega
    · rw [← hls]
      exact lines_free no
    refine ⟨_, rfl, a, ls, l, rfl, SqL.of hL, by rw [← hls] <;> rfl, no.al, by omega, fun H2 s2 => ?_⟩
    replace hL := s2 _ _ hL
    refine ⟨_, rfl, a, ls, n, rfl, SqL.of hL, by rw [← hls] <;> rfl, no.n1, no.n2, by omega, fun H3 s3 => ?_⟩
    replace hL := s3 _ _ hL
    refine ⟨_, rfl, _, rfl, a, ls, n, ys, rfl, SqL.of hL, by rw [← hls] <;> rfl, no.n2, no.nums, yn, by omega, fun aY H4 s4 naY hY => ?_⟩
    replace hL := s4 _ _ hL
    refine ⟨Nat.zero_le _, fun aR nR => ?_⟩
    have s5 := ((s1.trans s2).trans s3).trans s4
    have nRH := s5.free nR
    have aN : a ≠ aR := fun z => by rw [z, nR] at hL; cases hL
    have aYN : aY ≠ aR := fun z => by rw [z, nR] at hY; cases hY
    have sR := same_new (o := HO.lst []) nR
    replace hL := sR _ _ hL
    replace hY := sR _ _ hY
    have hR0 : (upd H4 aR (.lst [])) aR = some (.lst []) := upd_same
    replace s5 := s5.trans sR
    generalize upd H4 aR (.lst []) = H5 at s5 hL hY hR0 ⊢
    have lm : (ls.map V.str).length = ls.length := List.length_map ..
    refine ⟨_, rfl, a, _, rfl, .inl (SqL.of hL), 3, ((ls.map V.str).length : Int), rfl, ⟨by decide, by decide, by omega, by omega⟩, for_range (lo := 3) (n := (((ls.map V.str).length : Int) - 3).toNat) (fun i σ H' => Same H H' ∧ ∃ (R : Kept) (v6 v7 : Option V), σ = [some (.str t), some (.ref a), some (.str l), some (.int n), some (.ref aY), some (.ref aR), v6, v7] ∧
      H' a = some (.lst (ls.map V.str)) ∧ H' aY = some (.lst (ys.map V.int)) ∧ H' aR = some (.lst (refsK R)) ∧ KeptAt H' R ∧ R.map (·.2) = rs.take i)
      ⟨s5, [], none, none, rfl, hL, hY, hR0, fun p m => absurd m List.not_mem_nil, rfl⟩ ?_ ?_⟩
    · rintro i σ H6 hi ⟨s6, R, v6, v7, rfl, hL6, hY6, hR6, kR, eR⟩
      have li : i < rs.length := by omega
      have er : rs[i]? = some rs[i] := List.getElem?_eq_getElem li
      have mr : rs[i] ∈ rs := List.getElem_mem li
      generalize rs[i] = r at er mr
      have el : (ls.map V.str)[3 + i]? = some (.str (lineOf r)) := by
        rw [← hls, List.getElem?_map]
        have z : (linesOf l n rs ys)[3 + i]? = (rs.map lineOf)[i]? := by
          show (headL l :: headS n :: headY ys :: rs.map lineOf)[3 + i]? = _
          rw [show 3 + i = i + 1 + 1 + 1 by omega, List.getElem?_cons_succ, List.getElem?_cons_succ, List.getElem?_cons_succ]
        rw [z, List.getElem?_map, er] <;> rfl
      have lR : R.length = i := by
        have z := congrArg List.length eR
        rw [List.length_map, List.length_take] at z
        omega
      refine ⟨_, rfl, _, rfl, a, _, _, _, rfl, rfl, SqL.of hL6, by rw [show (3 : Int) + (i : Int) = ((3 + i : Nat) : Int) by omega]; exact atI_nat el, r, l, n, rfl, no.al, no.ok r mr, no.n2, fun q H7 s7 nq hq => ?_⟩
      refine ⟨_, rfl, aR, _, rfl, .inl (SqL.of (s7 _ _ hR6)), rfl, _, rfl, iteNo ?_ ?_⟩
      · have z : (refsK R).length = R.length := List.length_map ..
        rw [z]
        refine decide_eq_false fun e => ?_
        have e' := V.int.inj e
        omega
      refine ⟨_, rfl, _, rfl, _, rfl, l, n, q, false, r, rfl, .inl (.inl hq), no.ok r mr, fun H8 s8 => ⟨_, rfl, iteF ?_⟩⟩
      have s78 := s7.trans s8
      have hR8 := s78 _ _ hR6
      have ne : ∀ {b : Addr} {o : HO}, H8 b = some o → (∀ xs, o ≠ .lst xs) → b ≠ aR := fun e h z => by
        rw [z, hR8] at e
        exact h _ (Option.some.inj e).symm
      refine ⟨_, rfl, .inl ⟨rfl, _, SqL.of hR8⟩, _, rfl, aR, _, _, rfl, rfl, hR8, ?_, ?_⟩
      · show (refsK R).length < sizeLine
        have z : (refsK R).length = R.length := List.length_map ..
        rw [z]
        exact Nat.lt_of_le_of_lt (show R.length ≤ 100 by omega) (by decide)
      refine ⟨same_mut (s6.trans s78) nRH, R ++ [(q, r)], _, _, rfl, by rw [upd_ne aN]; exact s78 _ _ hL6, by rw [upd_ne aYN]; exact s78 _ _ hY6, ?_, fun p m => ?_, ?_⟩
      · rw [upd_same]
        unfold refsK
        rw [List.map_append] <;> rfl
      · rcases List.mem_append.mp m with m | m
        · have z := s78 _ _ (kR p m)
          rw [upd_ne (ne z fun xs y => nomatch y)]
          exact z
        · rw [List.mem_singleton.mp m]
          have z := s8 _ _ hq
          rw [upd_ne (ne z fun xs y => nomatch y)]
          exact z
      · rw [List.map_append, eR, take_at er] <;> rfl
    · rintro σ H6 ⟨s6, R, v6, v7, rfl, hL6, hY6, hR6, kR, eR⟩
      have full : R.map (·.2) = rs := by rw [eR, List.take_of_length_le (by omega)]
      have lR : R.length = rs.length := by
        have z := congrArg List.length full
        rwa [List.length_map] at z
      have memR : ∀ p ∈ R, RlOk l n p.2 := fun p m => no.ok p.2 (by rw [← full]; exact List.mem_map.mpr ⟨p, m, rfl⟩)
      have RT : Right K H6 l n aR aY true true (R.map fun p => (p.1, false, p.2)) ys := {
        args := {
          alpha := no.al
          num := ⟨no.n1, no.n2⟩
          rs := by
            have e : refsH (R.map fun p => (p.1, false, p.2)) = refsK R := by
              unfold refsH refsK
              rw [List.map_map] <;> rfl
            rw [e]
            exact SqL.of hR6
          hand := {
            at_ := fun p m => by
              obtain ⟨q, mq, rfl⟩ := List.mem_map.mp m
              exact .inl (.inl (kR q mq))
            ok := fun p m => by
              obtain ⟨q, mq, rfl⟩ := List.mem_map.mp m
              exact memR q mq
            most := by rw [List.length_map]; omega }
          yes := SqL.of hY6
          in_ := fun y m => ⟨(no.nums.2 y m).1, yn y m⟩
          few := by have := no.nums.1; omega }
        raw := fun p m _ => by
          obtain ⟨q, mq, rfl⟩ := List.mem_map.mp m
          exact kR q mq
        few := by rw [List.length_map]; omega
        fewY := by have := no.nums.1; omega }
      refine ⟨_, rfl, _, rfl, _, rfl, _, rfl, fun x dx nx nd ne => ?_⟩
      refine made_as nx nd rfl RT fun H12 s12 hM => ⟨rfl, ?_⟩
      have e : rsOf (R.map fun p => (p.1, false, p.2)) = rs := by
        unfold rsOf
        rw [List.map_map]
        exact full
      rw [e] at hM
      exact k x H12 (s6.trans s12) hM
end
end Mk
set_option Elab.async false
set_option maxRecDepth 100000
set_option maxHeartbeats 4000000
namespace Mk
open PySem L2 Pk
theorem lay_rules : ∀ {rs : List Rl}, (∀ r ∈ rs, ∀ x ∈ r.key, KeyOk x) → PyData.canLayAll0 (rs.map rlD) = true ∧ PyData.depthAll (rs.map rlD) ≤ 1
  | [], _ => ⟨by simp [PyData.canLayAll0], by simp [PyData.depthAll]⟩
  | r :: rs, h => by
    have ih := lay_rules (rs := rs) fun q m => h q (List.mem_cons_of_mem _ m)
    have lp := lay_keys r.key (h r List.mem_cons_self)
    have one : PyData.canLay0 (rlD r) = true ∧ PyData.depth (rlD r) = 1 := by
      show PyData.canLay0 (.tuple (r.key.map keyD)) = true ∧ PyData.depth (.tuple (r.key.map keyD)) = 1
      exact ⟨by rw [PyData.canLay0]; exact lp.1, by rw [PyData.depth, lp.2]⟩
    rw [List.map_cons]
    refine ⟨by rw [PyData.canLayAll0, one.1, ih.1]; rfl, ?_⟩
    rw [PyData.depthAll, one.2]
    omega
theorem lay_ints : ∀ ys : List Int, PyData.canLayAll0 (ys.map .int) = true ∧ PyData.depthAll (ys.map .int) = 0
  | [] => ⟨by simp [PyData.canLayAll0], by simp [PyData.depthAll]⟩
  | y :: ys => by
    have ih := lay_ints ys
    exact ⟨by simp only [List.map_cons, PyData.canLayAll0, PyData.canLay0, ih.1]; rfl, by simp only [List.map_cons, PyData.depthAll, PyData.depth, ih.2]; rfl⟩
def rulesD (rs : List Rl) : PyData := .tuple ((rulesOf rs).map rlD)
def yesD (ys : List Int) : PyData := .tuple ((intsOf ys).map .int)
def fourD (l : PySem.Str) (n : Int) (rs : List Rl) (ys : List Int) : PyData := .tuple [.str l, .int n, rulesD rs, yesD ys]
def OkKeys (rs : List Rl) : Prop := ∀ r ∈ rs, ∀ x ∈ r.key, KeyOk x
theorem okRules {rs : List Rl} (h : OkKeys rs) : OkKeys (rulesOf rs) := fun r m => h r ((rulesOf_mem rs r).mp m)
theorem shaped_of {d : PyData} {n : Nat} (a : PyData.canLay0 d = true) (b : PyData.depth d ≤ n) (c : n ≤ 64) : SeqAt.shaped d = true := by
  unfold SeqAt.shaped
  rw [a]
  exact decide_eq_true (by omega)
theorem lay_rulesD {rs : List Rl} (h : OkKeys rs) : PyData.canLay0 (rulesD rs) = true ∧ PyData.depth (rulesD rs) ≤ 2 := by
  obtain ⟨a, b⟩ := lay_rules (okRules h)
  unfold rulesD
  exact ⟨by rw [PyData.canLay0]; exact a, by rw [PyData.depth]; omega⟩
theorem lay_yesD (ys : List Int) : PyData.canLay0 (yesD ys) = true ∧ PyData.depth (yesD ys) ≤ 2 := by
  obtain ⟨a, b⟩ := lay_ints (intsOf ys)
  unfold yesD
  exact ⟨by rw [PyData.canLay0]; exact a, by rw [PyData.depth]; omega⟩
theorem lay_four {l : PySem.Str} {n : Int} {rs : List Rl} {ys : List Int} (al : Alpha l) (h : OkKeys rs) : PyData.canLay0 (fourD l n rs ys) = true ∧ PyData.depth (fourD l n rs ys) ≤ 3 := by
  obtain ⟨a1, b1⟩ := lay_rulesD h
  obtain ⟨a2, b2⟩ := lay_yesD ys
  have s : PyData.strOk l = true := strOk_of (alpha_ok al)
  unfold fourD
  refine ⟨?_, ?_⟩
  · simp only [PyData.canLay0, PyData.canLayAll0, a1, a2, s, Bool.and_true]
  · simp only [PyData.depth, PyData.depthAll]
    omega
theorem eqv_four {l l2 : PySem.Str} {n n2 : Int} {rs rs2 : List Rl} {ys ys2 : List Int} : PyData.eqv (fourD l n rs ys) (fourD l2 n2 rs2 ys2) = (decide (l = l2) && (decide (n = n2) && (PyData.eqv (rulesD rs) (rulesD rs2) && PyData.eqv (yesD ys) (yesD ys2)))) := by
  unfold fourD
  have e1 : PyData.eqv (.str l) (.str l2) = decide (l = l2) := eqv_key (.inr l) (.inr l2) |>.trans (by
    by_cases c : l = l2
    · rw [decide_eq_true (by rw [c]), decide_eq_true c]
    · rw [decide_eq_false (fun z => c (Sum.inr.inj z)), decide_eq_false c])
  have e2 : PyData.eqv (.int n) (.int n2) = decide (n = n2) := eqv_key (.inl n) (.inl n2) |>.trans (by
    by_cases c : n = n2
    · rw [decide_eq_true (by rw [c]), decide_eq_true c]
    · rw [decide_eq_false (fun z => c (Sum.inl.inj z)), decide_eq_false c])
  rw [PyData.eqv, PyData.eqvAll, PyData.eqvAll, PyData.eqvAll, PyData.eqvAll, PyData.eqvAll, e1, e2, Bool.and_true]
section
variable {P : Program} {w : World} {K : PySem.W.Frag} {mg : PySem.Str → Option Value} {base : Heap}
abbrev sEqM : Stmt := inClass (top 38) 2
/-! Machine.__eq__ -/
theorem scEqM : FnScope ["self", "other"] ["self", "other"] (defScope sEqM) := ⟨rfl, rfl, rfl, by decide +kernel, rfl, by decide +kernel, by decide +kernel⟩
def spEqM (K : PySem.W.Frag) (C : Addr) : Sp := fun vs H Q _ => ∃ (x x2 : Addr) (l l2 : PySem.Str) (n n2 : Int) (rs rs2 : List Rl) (ys ys2 : List Int), vs = [.ref x, .ref x2] ∧ MachAt K H C x l n rs ys ∧ MachAt K H C x2 l2 n2 rs2 ys2 ∧ OkKeys rs ∧ OkKeys rs2 ∧
  Q (.bl (PyData.eqv (fourD l n rs ys) (fourD l2 n2 rs2 ys2))) H
theorem ok_eqM {f C : Addr} {fd : FuncData} (F : Fun K "__eq__" "Machine.__eq__" sEqM f fd) (T : TM mg) (M : MCls K C) (IC : C8.InsC K C) (nm : mg "Machine" = some (.ref C)) : FnOk P w K mg base CX0 1 f fd ["self", "other"] (spEqM K C) := by
  refine F.ok scEqM (fun vs H Q E h => ?_) (fun cdv A outer s H vs Q E hr h => ?_)
  · obtain ⟨x, x2, l, l2, n, n2, rs, rs2, ys, ys2, rfl, _⟩ := h
    rfl
  · obtain ⟨x, x2, l, l2, n, n2, rs, rs2, ys, ys2, rfl, hm, hm2, ok, ok2, k⟩ := h
    have hu64 := hr.units
    obtain ⟨dx, aR, aY, aS, aA, g, R, hx, hR, kR, eR, hY, hS, _, hg⟩ := hm.ex
    obtain ⟨dx2, aR2, aY2, aS2, aA2, g2, R2, hx2, hR2, kR2, eR2, hY2, hS2, _, hg2⟩ := hm2.ex
    refine ⟨_, pss_one (ps_ret (pe_and (pe_callB (C8.call_isC IC) (by rfl) T.isi (by decide +kernel) (pa_cons (pv 1) (pa_cons (pe_glob (v := .ref C) (by rfl) nm rfl) pa_nil)))
      (pe_and (pe_cmpR op_eq (pe_fld (pv 0) rfl) (pe_fld (pv 1) rfl) (nomark _)) (pe_and (pe_cmpR op_eq (pe_fld (pv 0) rfl) (pe_fld (pv 1) rfl) (nomark _))
      (pe_and (pe_cmpR (op_eqD hu64) (pe_fld (pv 0) rfl) (pe_fld (pv 1) rfl) (nomark _)) (pe_one (pe_cmpR (op_eqD hu64) (pe_fld (pv 0) rfl) (pe_fld (pv 1) rfl) (nomark _)))))))), ?_⟩
    rw [eqv_four] at k
    refine ⟨_, rfl, x2, dx2, _, rfl, hx2, true, rfl, iteT ?_⟩
    refine ⟨_, rfl, x, C, dx, _, .str l, rfl, hx, M.cls, M.letters, rfl, _, rfl, x2, C, dx2, _, .str l2, rfl, hx2, M.cls, M.letters, rfl, rfl, _, rfl, ?_⟩
    rw [dec_str]
    refine ite2 (fun c => ?_) (fun c => ?_)
    · have c' : l = l2 := beq_iff_eq.mp c
      rw [decide_eq_true c', Bool.true_and] at k
      refine ⟨_, rfl, x, C, dx, _, .int n, rfl, hx, M.cls, M.states, rfl, _, rfl, x2, C, dx2, _, .int n2, rfl, hx2, M.cls, M.states, rfl, rfl, _, rfl, ?_⟩
      rw [dec_int]
      refine ite2 (fun d => ?_) (fun d => ?_)
      · have d' : n = n2 := beq_iff_eq.mp d
        rw [decide_eq_true d', Bool.true_and] at k
        have dR : Dp K H (.ref aR) (rulesD rs) := by
          unfold rulesD
          rw [← eR]
          exact .tup (.inl (.inl hR)) (dpa_rules kR)
        have dR2 : Dp K H (.ref aR2) (rulesD rs2) := by
          unfold rulesD
          rw [← eR2]
          exact .tup (.inl (.inl hR2)) (dpa_rules kR2)
        have sR := lay_rulesD ok
        have sR2 := lay_rulesD ok2
        refine ⟨_, rfl, x, C, dx, _, .ref aR, rfl, hx, M.cls, M.rules, rfl, _, rfl, x2, C, dx2, _, .ref aR2, rfl, hx2, M.cls, M.rules, rfl, _, _, dR, dR2, shaped_of sR.1 sR.2 (by decide), shaped_of sR2.1 sR2.2 (by decide), _, rfl, ?_⟩
        refine ite2 (fun e => ?_) (fun e => ?_)
        · rw [e, Bool.true_and] at k
          have sY := lay_yesD ys
          have sY2 := lay_yesD ys2
          exact ⟨_, rfl, x, C, dx, _, .ref aY, rfl, hx, M.cls, M.yes, rfl, _, rfl, x2, C, dx2, _, .ref aY2, rfl, hx2, M.cls, M.yes, rfl, _, _, .tup (.inl (.inl hY)) (dpa_ints _), .tup (.inl (.inl hY2)) (dpa_ints _), shaped_of sY.1 sY.2 (by decide), shaped_of sY2.1 sY2.2 (by decide), k⟩
        · rw [Bool.eq_false_iff.mpr e, Bool.false_and] at k
          exact k
      · rw [decide_eq_false (fun z => d (beq_iff_eq.mpr z)), Bool.false_and] at k
        exact k
    · rw [decide_eq_false (fun z => c (beq_iff_eq.mpr z)), Bool.false_and] at k
      exact k
end
end Mk
set_option Elab.async false
set_option maxRecDepth 100000
set_option maxHeartbeats 4000000
namespace Mk
open PySem L2 Pk
section
variable {P : Program} {w : World} {K : PySem.W.Frag} {mg : PySem.Str → Option Value} {base : Heap}
/-! _law_fields -/
theorem scFields : FnScope ["machine"] ["machine"] (defScope sFields) := ⟨rfl, rfl, rfl, by decide +kernel, rfl, by decide +kernel, by decide +kernel⟩
def spFields (K : PySem.W.Frag) : Sp := fun vs H Q _ => ∃ (C x : Addr) (l : PySem.Str) (n : Int) (rs : List Rl) (ys : List Int), vs = [.ref x] ∧ MCls K C ∧ MachAt K H C x l n rs ys ∧ ∀ (p : Addr) (H' : Hp), Same H H' → H p = none → DueAt H' p l n rs ys → Q (.ref p) H'
theorem ok_fields {f : Addr} {fd : FuncData} (F : Fun K "_law_fields" "_law_fields" sFields f fd) : FnOk P w K mg base CX0 1 f fd ["machine"] (spFields K) := by
  refine F.ok scFields (fun vs H Q E h => ?_) (fun cdv A outer s H vs Q E hr h => ?_)
  · obtain ⟨C, x, l, n, rs, ys, rfl, _⟩ := h
    rfl
  · obtain ⟨C, x, l, n, rs, ys, rfl, M, hm, k⟩ := h
    obtain ⟨dx, aR, aY, aS, aA, g, R, hx, hR, kR, eR, hY, hS, hA, hg⟩ := hm.ex
    refine ⟨_, pss_one (ps_ret (pe_tup (pa_cons (pe_fld (pv 0) rfl) (pa_cons (pe_fld (pv 0) rfl) (pa_cons (pe_fld (pv 0) rfl) (pa_cons (pe_fld (pv 0) rfl) (pa_cons (pe_fld (pv 0) rfl) (pa_cons (pe_fld (pv 0) rfl) pa_nil)))))))), ?_⟩
    refine ⟨_, rfl, x, C, dx, _, .str l, rfl, hx, M.cls, M.letters, rfl, ?_⟩
    refine ⟨_, rfl, x, C, dx, _, .int n, rfl, hx, M.cls, M.states, rfl, ?_⟩
    refine ⟨_, rfl, x, C, dx, _, .ref aR, rfl, hx, M.cls, M.rules, rfl, ?_⟩
    refine ⟨_, rfl, x, C, dx, _, .ref aY, rfl, hx, M.cls, M.yes, rfl, ?_⟩
    refine ⟨_, rfl, x, C, dx, _, .ref aS, rfl, hx, M.cls, M.symbols, rfl, ?_⟩
    refine ⟨_, rfl, x, C, dx, _, g, rfl, hx, M.cls, M.guess, rfl, ?_⟩
    refine ⟨show 6 ≤ sizeLine by decide, fun p np => ?_⟩
    have s := same_new (o := HO.tup [V.str l, V.int n, V.ref aR, V.ref aY, V.ref aS, g]) np
    refine k p _ s np ⟨aR, aY, aS, g, R, upd_same, s _ _ hR, fun q m => s _ _ (kR q m), eR, s _ _ hY, ?_, ?_⟩
    · rw [← syms_same]
      exact s _ _ hS
    · rw [← guess_same]
      exact hg.tk (Tk.of s)

end
theorem depth_due {l : PySem.Str} {n : Int} {rs : List Rl} {ys : List Int} (h1 : rs.length ≤ 100) (h2 : ys.length ≤ 2000) : depthOk 3 (dueD l n rs ys) := by
  have keyO : ∀ (m : Nat) (k : Key), depthOk m (keyD k) := fun m k => by cases k <;> cases m <;> trivial
  refine ⟨show 6 ≤ 100000 by decide, fun d m => ?_⟩
  simp only [List.mem_cons, List.not_mem_nil, or_false] at m
  rcases m with rfl | rfl | rfl | rfl | rfl | rfl
  · trivial
  · trivial
  · refine ⟨?_, fun d m => ?_⟩
    · rw [List.length_map]
      exact Nat.le_trans (rulesOf_len rs) (by omega)
    · obtain ⟨r, _, rfl⟩ := List.mem_map.mp m
      refine ⟨show 8 ≤ 100000 by decide, fun d m => ?_⟩
      obtain ⟨k, _, rfl⟩ := List.mem_map.mp m
      exact keyO _ k
  · refine ⟨?_, fun d m => ?_⟩
    · rw [List.length_map]
      exact Nat.le_trans (Sx.asc_len _ _) (by omega)
    · obtain ⟨r, _, rfl⟩ := List.mem_map.mp m
      trivial
  · refine ⟨?_, fun d m => ?_⟩
    · rw [List.length_map]
      refine Nat.le_trans (Sx.asc_len _ _) (Nat.le_trans (List.length_filter_le _ _) ?_)
      rw [List.length_append, List.length_map, List.length_map]
      omega
    · obtain ⟨r, _, rfl⟩ := List.mem_map.mp m
      trivial
  · cases hg : adjK ((rulesOf rs).map Rl.k3) with
    | none => trivial
    | some k =>
      have mem : k ∈ (rulesOf rs).map Rl.k3 := by
        have gen : ∀ l : List (List Key), adjK l = some k → k ∈ l := by
          intro l
          induction l with
          | nil => intro z; cases z
          | cons a l ih =>
            intro z
            cases l with
            | nil => cases z
            | cons b r =>
              have z' : (if a = b then some a else adjK (b :: r)) = some k := z
              by_cases c : a = b
              · rw [if_pos c] at z'
                rw [← Option.some.inj z']
                exact List.mem_cons_self
              · rw [if_neg c] at z'
                exact List.mem_cons_of_mem _ (ih z')
        exact gen _ hg
      obtain ⟨r, _, rfl⟩ := List.mem_map.mp mem
      refine ⟨show 3 ≤ 100000 by decide, fun d m => ?_⟩
      obtain ⟨k, _, rfl⟩ := List.mem_map.mp m
      exact keyO _ k
theorem menu_states {d1 : Nat} (h1 : (d1 : Int) < 2000) {d : Nat} (h : (d : Int) < 8) : ∃ n : Int, atI [V.int 1, V.int 2, V.int 3, V.int 4, V.int 12, V.int 2000, V.int (1 + (d1 : Int)), V.int 5] (d : Int) = some (.int n) ∧ 1 ≤ n ∧ n ≤ 2000 := by
  have c : d = 0 ∨ d = 1 ∨ d = 2 ∨ d = 3 ∨ d = 4 ∨ d = 5 ∨ d = 6 ∨ d = 7 := by omega
  rcases c with rfl | rfl | rfl | rfl | rfl | rfl | rfl | rfl
  · exact ⟨1, rfl, by omega, by omega⟩
  · exact ⟨2, rfl, by omega, by omega⟩
  · exact ⟨3, rfl, by omega, by omega⟩
  · exact ⟨4, rfl, by omega, by omega⟩
  · exact ⟨12, rfl, by omega, by omega⟩
  · exact ⟨2000, rfl, by omega, by omega⟩
  · exact ⟨1 + (d1 : Int), rfl, by omega, by omega⟩
  · exact ⟨5, rfl, by omega, by omega⟩
theorem menu_many {d3 : Nat} (h3 : (d3 : Int) < 41) {d : Nat} (h : (d : Int) < 10) : ∃ m : Nat, atI [V.int 6, V.int 3, V.int 9, V.int 1, V.int 12, V.int 7, V.int 4, V.int 2, V.int (d3 : Int), V.int (d3 : Int)] (d : Int) = some (.int (m : Int)) ∧ m ≤ 41 := by
  have c : d = 0 ∨ d = 1 ∨ d = 2 ∨ d = 3 ∨ d = 4 ∨ d = 5 ∨ d = 6 ∨ d = 7 ∨ d = 8 ∨ d = 9 := by omega
  rcases c with rfl | rfl | rfl | rfl | rfl | rfl | rfl | rfl | rfl | rfl
  · exact ⟨6, rfl, by omega⟩
  · exact ⟨3, rfl, by omega⟩
  · exact ⟨9, rfl, by omega⟩
  · exact ⟨1, rfl, by omega⟩
  · exact ⟨12, rfl, by omega⟩
  · exact ⟨7, rfl, by omega⟩
  · exact ⟨4, rfl, by omega⟩
  · exact ⟨2, rfl, by omega⟩
  · exact ⟨d3, rfl, by omega⟩
  · exact ⟨d3, rfl, by omega⟩

theorem rs_one {B : Kept} : rsOf (B.map fun p => (p.1, false, p.2)) = B.map (·.2) := by
  unfold rsOf
  rw [List.map_map] <;> rfl
theorem asc_ext {α : Type} [DecidableEq α] {lt : α → α → Bool} (O : Sx.Lin lt) {a b : List α} (e : ∀ x, x ∈ a ↔ x ∈ b) : Sx.asc lt a = Sx.asc lt b :=
  O.is_asc (Sx.asc_nodup lt a) (O.asc_up a) fun x => (Sx.asc_mem lt a x).trans (e x)
theorem rulesOf_ext {a b : List Rl} (e : ∀ r, r ∈ a ↔ r ∈ b) : rulesOf a = rulesOf b := by
  unfold rulesOf
  rw [asc_ext Sx.lin_tup (a := a.map Rl.key) (b := b.map Rl.key) fun x => ?_]
  constructor
  · intro m
    obtain ⟨r, mr, rfl⟩ := List.mem_map.mp m
    exact List.mem_map.mpr ⟨r, (e r).mp mr, rfl⟩
  · intro m
    obtain ⟨r, mr, rfl⟩ := List.mem_map.mp m
    exact List.mem_map.mpr ⟨r, (e r).mpr mr, rfl⟩
theorem intsOf_ext {a b : List Int} (e : ∀ r, r ∈ a ↔ r ∈ b) : intsOf a = intsOf b := asc_ext lin_int e
theorem symsL_ext {a b : List Rl} (e : ∀ r, r ∈ a ↔ r ∈ b) : symsL a = symsL b := by
  rw [← syms_same, ← syms_same, rulesOf_ext e]
theorem dueD_ext {l : PySem.Str} {n : Int} {a b : List Rl} {x y : List Int} (e : ∀ r, r ∈ a ↔ r ∈ b) (f : ∀ r, r ∈ x ↔ r ∈ y) : dueD l n a x = dueD l n b y := by
  unfold dueD
  rw [rulesOf_ext e, intsOf_ext f, symsL_ext e]
theorem fourD_ext {l : PySem.Str} {n : Int} {a b : List Rl} {x y : List Int} (e : ∀ r, r ∈ a ↔ r ∈ b) (f : ∀ r, r ∈ x ↔ r ∈ y) : fourD l n a x = fourD l n b y := by
  unfold fourD rulesD yesD
  rw [rulesOf_ext e, intsOf_ext f]
theorem eqv_same {l : PySem.Str} {n : Int} {a b : List Rl} {x y : List Int} (al : Alpha l) (ok : OkKeys a) (e : ∀ r, r ∈ a ↔ r ∈ b) (f : ∀ r, r ∈ x ↔ r ∈ y) : PyData.eqv (fourD l n a x) (fourD l n b y) = true := by
  rw [← fourD_ext (l := l) (n := n) e f]
  exact SeqAt.eqv_refl _ (lay_four al ok).1
theorem app_nil (x : PySem.Str) : x ++ nil0 = x := str_eq (by
  show TL.tl (x ++ nil0) = TL.tl x
  have z : TL.tl nil0 = [] := by decide +kernel
  rw [TL.tl_append, z, List.append_nil])
theorem right_of {K : PySem.W.Frag} {H : Hp} {l : PySem.Str} {n : Int} {aB aY : Addr} {B : Kept} {ys : List Int} (al : Alpha l) (n1 : 1 ≤ n) (n2 : n ≤ 2000) (hB : H aB = some (.lst (refsK B))) (dB : Drawn H l n B) (few : B.length ≤ 41) (hY : H aY = some (.lst (ys.map V.int))) (okY : ∀ y ∈ ys, 0 ≤ y ∧ y ≤ n - 1) (fewY : ys.length ≤ 2000) :
    Right K H l n aB aY true true (B.map fun p => (p.1, false, p.2)) ys where
  args := {
    alpha := al
    num := ⟨n1, n2⟩
    rs := by
      have e : refsH (B.map fun p => (p.1, false, p.2)) = refsK B := by
        unfold refsH refsK
        rw [List.map_map] <;> rfl
      rw [e]
      exact SqL.of hB
    hand := {
      at_ := fun p m => by
        obtain ⟨q, mq, rfl⟩ := List.mem_map.mp m
        exact .inl (.inl (dB.at_ q mq))
      ok := fun p m => by
        obtain ⟨q, mq, rfl⟩ := List.mem_map.mp m
        exact dB.ok q mq
      most := by rw [List.length_map]; omega }
    yes := SqL.of hY
    in_ := okY
    few := by omega }
  raw := fun p m _ => by
    obtain ⟨q, mq, rfl⟩ := List.mem_map.mp m
    exact dB.at_ q mq
  few := by rw [List.length_map]; omega
  fewY := by omega
end Mk
set_option Elab.async false
set_option maxRecDepth 100000
set_option maxHeartbeats 32000000
namespace Mk
open PySem L2 Pk
abbrev sLaw : Stmt := top 70
abbrev nLaw : List PySem.Str := ["script", "head", "letters", "states", "many", "rules", "yes", "due", "machine", "note", "back", "places", "lines", "k", "third", "rule", "line"]
theorem scLaw : FnScope nLaw ["script"] (defScope sLaw) := ⟨rfl, rfl, rfl, by decide +kernel, rfl, by decide +kernel, by decide +kernel⟩
structure LawDefs (P : Program) (w : World) (K : PySem.W.Frag) (mg : PySem.Str → Option Value) (base : Heap) (C : Addr) : Prop where
  cell : Got P w K mg base "_law_cell" 1 ["script", "k"] (spCellA K)
  digits : Got P w K mg base "_law_digits" 1 ["cell", "sizes"] (spDigits K)
  letters : Got P w K mg base "_law_any_letters" 2 ["cell"] spAny
  pool : Got P w K mg base "_law_pool" 2 ["cell"] spPool
  rules : Got P w K mg base "_law_rules" 3 ["script", "at", "many", "letters", "states", "pool"] (spLRules K)
  yes : Got P w K mg base "_law_yes" 2 ["cell", "states"] spYes
  due : Got P w K mg base "_law_due" 2 ["letters", "states", "rules", "yes"] (spDue K)
  fields : Got P w K mg base "_law_fields" 1 ["machine"] (spFields K)
  line : Got P w K mg base "_law_line" 1 ["rule"] spLineP
  heads : Got P w K mg base "_law_heads" 1 ["letters", "states", "yes"] (spHeads K)
  same : Got P w K mg base "_law_same" 5 ["told", "due"] (spSame K 3)
  write : Got P w K mg base "write_machine" 2 ["machine"] (spWrite K C)
  read : Got P w K mg base "read_machine" 8 ["text"] (spRead K C)
structure MDef3 (P : Program) (w : World) (K : PySem.W.Frag) (mg : PySem.Str → Option Value) (base : Heap) (C fI e0 fE : Addr) (fd fdE : FuncData) : Prop where
  make : MDef P w K mg base C fI e0 fd
  eqAt : PySem.W.findIn K (.ref C) "__eq__" = some (some (.ref fE))
  eqFn : PySem.W.isFn K (.ref fE) = true
  eqOk : FnOk P w K mg base CX0 1 fE fdE ["self", "other"] (spEqM K C)
  eqB : Binds K fdE ["self", "other"] []
def spLaw (K : PySem.W.Frag) : Sp := fun vs H Q _ => ∃ (a : Addr) (ns : List Int), vs = [.ref a] ∧ SqL K H a (ns.map V.int) ∧ ∀ H', Q (.bl true) H'
structure LS (K : PySem.W.Frag) (H : Hp) (C sc : Addr) (ns head : List Int) (x : Addr) (l : PySem.Str) (n : Int) (B : Kept) (ys : List Int) (aD aB aY pD : Addr) : Prop where
  hS : SqL K H sc (ns.map V.int)
  hD : H aD = some (.lst (head.map V.int))
  d4 : ∃ d : Nat, head[4]? = some (d : Int) ∧ d < 2
  al : Alpha l
  n1 : 1 ≤ n
  n2 : n ≤ 2000
  hM : MachAt K H C x l n (B.map (·.2)) ys
  hB : H aB = some (.lst (refsK B))
  dB : Drawn H l n B
  few : B.length ≤ 41
  hY : H aY = some (.lst (ys.map V.int))
  okY : ∀ y ∈ ys, 0 ≤ y ∧ y ≤ n - 1
  fewY : ys.length ≤ 2000
  hU : DueAt H pD l n (B.map (·.2)) ys
theorem LS.mono {K : PySem.W.Frag} {H H' : Hp} {C sc : Addr} {ns head : List Int} {x : Addr} {l : PySem.Str} {n : Int} {B : Kept} {ys : List Int} {aD aB aY pD : Addr} (h : LS K H C sc ns head x l n B ys aD aB aY pD) (s : Same H H') : LS K H' C sc ns head x l n B ys aD aB aY pD :=
  { h with hS := s.seq h.hS, hD := s _ _ h.hD, hM := h.hM.lk (Lk.of s), hB := s _ _ h.hB, dB := h.dB.mono s, hY := s _ _ h.hY, hU := h.hU.tk (Tk.of s) }
theorem LS.nums {K : PySem.W.Frag} {H : Hp} {C sc : Addr} {ns head : List Int} {x : Addr} {l : PySem.Str} {n : Int} {B : Kept} {ys : List Int} {aD aB aY pD : Addr} (h : LS K H C sc ns head x l n B ys aD aB aY pD) : Nums ys :=
  ⟨by have := h.fewY; omega, fun y m => by have := h.okY y m; have := h.n2; omega⟩
theorem LS.okR {K : PySem.W.Frag} {H : Hp} {C sc : Addr} {ns head : List Int} {x : Addr} {l : PySem.Str} {n : Int} {B : Kept} {ys : List Int} {aD aB aY pD : Addr} (h : LS K H C sc ns head x l n B ys aD aB aY pD) : ∀ r ∈ B.map (·.2), RlOk l n r := fun r m => by
  obtain ⟨p, mp, rfl⟩ := List.mem_map.mp m
  exact h.dB.ok p mp
theorem LS.note {K : PySem.W.Frag} {H : Hp} {C sc : Addr} {ns head : List Int} {x : Addr} {l : PySem.Str} {n : Int} {B : Kept} {ys : List Int} {aD aB aY pD : Addr} (h : LS K H C sc ns head x l n B ys aD aB aY pD) : NoteOk l n (B.map (·.2)) ys :=
  ⟨h.al, h.n1, h.n2, h.okR, by rw [List.length_map]; have := h.few; omega, h.nums⟩
theorem LS.keys {K : PySem.W.Frag} {H : Hp} {C sc : Addr} {ns head : List Int} {x : Addr} {l : PySem.Str} {n : Int} {B : Kept} {ys : List Int} {aD aB aY pD : Addr} (h : LS K H C sc ns head x l n B ys aD aB aY pD) : OkKeys (B.map (·.2)) := fun r m => rl_ok h.al (h.okR r m)
theorem note_len {l : PySem.Str} {n : Int} {rs : List Rl} {ys : List Int} (h : NoteOk l n rs ys) : (noteOf (linesOf l n rs ys)).length ≤ 50000 := (lines_small h).2
theorem lines_ne (l : PySem.Str) (n : Int) (rs : List Rl) (ys : List Int) : linesOf l n rs ys ≠ [] := by
  show headL l :: headS n :: headY ys :: rs.map lineOf ≠ []
  exact List.cons_ne_nil _ _
section
variable {P : Program} {w : World} {K : PySem.W.Frag} {mg : PySem.Str → Option Value} {base : Heap}
theorem eq_bool (C : Addr) : ∀ vs H (Q : VK) E, spEqM K C vs H Q E → spEqM K C vs H (fun v H' => (∃ r, v = .bl r) ∧ Q v H') E := by
  rintro vs H Q E ⟨x, x2, l, l2, n, n2, rs, rs2, ys, ys2, h1, h2, h3, h4, h5, k⟩
  exact ⟨x, x2, l, l2, n, n2, rs, rs2, ys, ys2, h1, h2, h3, h4, h5, ⟨_, rfl⟩, k⟩
theorem law_C {C fI e0 fE f : Addr} {fdI fdE : FuncData} (T : TM mg) (G : LawDefs P w K mg base C) (M3 : MDef3 P w K mg base C fI e0 fE fdI fdE) (cdv : Value) (A : Around) (outer : List Env) (s : Shared) (H : Hp) (E : XK)
    (hr : Room 8 (A.deeper (PyProof.Rows.envOfC "law" (defScope sLaw) s.heap.objs.size f cdv))) :
    ∃ t : TS, PSs (cxOf CX0 P w K mg base nLaw "law" (defScope sLaw) f cdv A outer s H E).nox ((defBody sLaw).drop 12) t ∧
      ∀ (D : Ends) (k : ∀ H', D.rt (.bl true) H') (H0 : Hp) (sc aD aB aY pD x b : Addr) (ns head : List Int) (l : PySem.Str) (n : Int) (B : Kept) (ys : List Int) (e11 e12 e13 e14 e15 e16 : Option V),
        LS K H0 C sc ns head x l n B ys aD aB aY pD → MachAt K H0 C b l n (rulesOf (B.map (·.2))) (intsOf ys) →
        t D [some (.ref sc), some (.ref aD), some (.str l), some (.int n), some (.int (B.length : Int)), some (.ref aB), some (.ref aY), some (.ref pD), some (.ref x), some (.str (noteOf (linesOf l n (rulesOf (B.map (·.2))) (intsOf ys)))), some (.ref b), e11, e12, e13, e14, e15, e16] H0 := by
  have M := M3.make
  have h1 := hr.mono (show 1 ≤ 8 by decide)
  have h2 := hr.mono (show 2 ≤ 8 by decide)
  have h5 := hr.mono (show 5 ≤ 8 by decide)
  refine ⟨_, pss_cons (ps_set (i := 11) scLaw.nd rfl (Or.inl rfl) (pe_got G.digits h1 (by rfl) (pa_cons (pe_got G.cell h1 (by rfl) (pa_cons (pv 0) (pa_cons pe_int pa_nil))) (pa_cons (pe_op op_rep (pe_lst (pa_cons pe_int pa_nil)) pe_int) pa_nil))))
      (pss_cons (ps_set (i := 12) scLaw.nd rfl (Or.inl rfl) (pe_lst pa_nil))
      (pss_cons (ps_for PassesOwn.never rfl (pi_range1 (by rfl) T.range (pa_cons (pv 4) pa_nil)) (pg_name (i := 13) scLaw.nd rfl (Or.inl rfl))
        (pss_one (ps_expr (pe_bm PySem.F.plainAttrs_list PySem.F.slot_list_insert PySem.F.type_list_insert mt_insert (pv 12) (pa_cons (pe_op op_mod (pe_callTy call_int1 (by rfl) T.int PyProof.Rows.Boot.int (pa_cons (pe_ix ix_list (pv 11) (pv 13) fun _ _ => rfl) pa_nil))
            (pe_op op_add (pe_callB call_len_seq (by rfl) T.len PySem.boot_len (pa_cons (pv 12) pa_nil)) pe_int)) (pa_cons (pe_got G.line h1 (by rfl) (pa_cons (pe_ix ix_list (pv 5) (pv 13) fun _ _ => rfl) pa_nil)) pa_nil))))))
      (pss_cons (ps_set (i := 14) scLaw.nd rfl (Or.inl rfl) (pe_got G.read hr (by rfl) (pa_cons (pe_op op_add_str (pe_join pe_str (pe_op op_cat (pe_got G.heads h1 (by rfl) (pa_cons (pv 2) (pa_cons (pv 3) (pa_cons (pv 6) pa_nil)))) (pv 12)))
          (pe_ix ix_list (pe_lst (pa_cons pe_str (pa_cons pe_str pa_nil))) (pe_ix ix_list (pv 1) pe_int fun _ _ => rfl) fun _ _ => rfl)) pa_nil)))
      (pss_cons (ps_if (PW.pt (pw_or (pt_not (pt_val (pe_got G.same h5 (by rfl) (pa_cons (pe_got G.fields h1 (by rfl) (pa_cons (pv 14) pa_nil)) (pa_cons (pv 7) pa_nil)))))
          (pw_or1 (pt_not (pt_val (pe_got G.same h5 (by rfl) (pa_cons (pe_cmpR (Sx.op_eqI M3.eqOk M3.eqAt M3.eqFn M3.eqB pass0 h1 (eq_bool C)) (pv 8) (pv 14) (nomark _)) (pa_cons pe_bl pa_nil)))))))) (pss_one (ps_ret pe_bl)) pss_nil)
      (pss_one (ps_ret (pe_got G.same h5 (by rfl) (pa_cons (pe_tup (pa_cons (pe_got G.write h2 (by rfl) (pa_cons (pv 14) pa_nil)) (pa_cons (pe_got G.write h2 (by rfl) (pa_cons (pv 10) pa_nil)) (pa_cons (pe_got G.write h2 (by rfl) (pa_cons (pv 8) pa_nil)) pa_nil))))
          (pa_cons (pe_tup (pa_cons (pv 9) (pa_cons (pv 9) (pa_cons (pv 9) pa_nil)))) pa_nil))))))))), ?_⟩
  intro D k H0 sc aD aB aY pD x b ns head l n B ys e11 e12 e13 e14 e15 e16 S hb
  have few := S.few
  have n1 := S.n1
  have n2 := S.n2
  have lb : (refsK B).length = B.length := List.length_map ..
  generalize hN : noteOf (linesOf l n (rulesOf (B.map (·.2))) (intsOf ys)) = note
  -- places
  refine ⟨_, rfl, sc, ns, 4, rfl, S.hS, fun z4 => ⟨show 1 ≤ sizeLine by decide, fun l2 hl2 => ?_⟩⟩
  refine ⟨l2, 41, _, rfl, rfl, upd_same, by decide, by decide, by decide, fun l3 hl3 => ?_⟩
  refine ⟨z4, l3, List.replicate 41 997, rfl, SqL.of upd_same, by decide, by decide, fun row aP H1 dg hp s1 hrow => ?_⟩
  have sA : Same H0 H1 := ((same_new hl2).trans (same_new hl3)).trans s1
  clear s1 hl2 hl3 hp
  have len41 : row.length = 41 := dg.1
  have dig : ∀ (j : Nat), j < 41 → ∃ d : Nat, row[j]? = some (d : Int) := fun j lj => by
    obtain ⟨d, e1, e2, e3⟩ := dg.2 j 997 (by rw [List.getElem?_replicate]; rw [if_pos lj])
    exact ⟨d.toNat, by rw [e1, Int.toNat_of_nonneg e2]⟩
  replace S := S.mono sA
  replace hb := hb.lk (Lk.of sA)
  -- lines
  refine ⟨Nat.zero_le _, fun aL nL => ?_⟩
  have sL := same_new (o := HO.lst []) nL
  have hL0 : (upd H1 aL (.lst [])) aL = some (.lst []) := upd_same
  have keep : ∀ {H' : Hp} {o : HO}, Same H1 H' → Same H1 (upd H' aL o) := fun s => same_mut s nL
  generalize upd H1 aL (.lst []) = H2 at hL0 sL ⊢
  refine ⟨_, rfl, _, rfl, by omega, by omega, for_range (lo := 0) (n := ((B.length : Int)).toNat) (fun i σ H' => Same H1 H' ∧ ∃ (rs3 : List Rl) (v13 : Option V), σ = [some (.ref sc), some (.ref aD), some (.str l), some (.int n), some (.int (B.length : Int)), some (.ref aB), some (.ref aY), some (.ref pD), some (.ref x), some (.str note), some (.ref b), some (.ref aP), some (.ref aL), v13, e14, e15, e16] ∧
      H' aL = some (.lst ((rs3.map lineOf).map V.str)) ∧ rs3.Perm ((B.take i).map (·.2)))
      ⟨sL, [], _, rfl, hL0, List.Perm.refl _⟩ ?_ ?_⟩
  · rintro i σ H3 hi ⟨s3, rs3, v13, rfl, hL3, pm⟩
    have li : i < B.length := by omega
    have lr : rs3.length = i := by
      have z := pm.length_eq
      rw [List.length_map, List.length_take] at z
      omega
    obtain ⟨d, ed⟩ := dig i (by omega)
    have eb : B[i]? = some B[i] := List.getElem?_eq_getElem li
    have mb : B[i] ∈ B := List.getElem_mem li
    generalize B[i] = p at eb mb
    have i0 : (0 : Int) + (i : Int) = ((i : Nat) : Int) := by omega
    have hrow3 := s3 _ _ hrow
    have hB3 := s3 _ _ S.hB
    have hp3 := s3 _ _ (S.dB.at_ p mb)
    have lx : ((rs3.map lineOf).map V.str).length = i := by rw [List.length_map, List.length_map, lr]
    have pos : (0 : Int) < (((rs3.map lineOf).map V.str).length : Int) + 1 := by omega
    refine ⟨_, rfl, .inl ⟨rfl, _, SqL.of hL3⟩, _, rfl, _, rfl, aP, _, _, _, rfl, rfl, SqL.of hrow3, by rw [i0]; exact atI_nat (by rw [List.getElem?_map, ed] <;> rfl), .inl ⟨_, rfl, _, rfl, aL, _, rfl, .inl (SqL.of hL3), _, _, rfl, rfl, _, _, rfl, rfl, pos, ?_⟩⟩
    refine ⟨_, rfl, _, rfl, aB, _, _, _, rfl, rfl, SqL.of hB3, by rw [i0]; exact atI_nat (by unfold refsK; rw [List.getElem?_map, eb] <;> rfl), p.1, p.2, l, n, rfl, hp3, S.al, S.dB.ok p mb, n2, fun H4 s4 => ?_⟩
    have rng : 0 ≤ (d : Int) % ((((rs3.map lineOf).map V.str).length : Int) + 1) ∧ (d : Int) % ((((rs3.map lineOf).map V.str).length : Int) + 1) < 100 := by
      have a := Int.emod_nonneg (d : Int) (b := (((rs3.map lineOf).map V.str).length : Int) + 1) (by omega)
      have b := Int.emod_lt_of_pos (d : Int) pos
      omega
    obtain ⟨j, ej⟩ : ∃ j : Int, (d : Int) % ((((rs3.map lineOf).map V.str).length : Int) + 1) = j := ⟨_, rfl⟩
    rw [ej] at rng
    refine ⟨aL, _, j, .str (lineOf p.2), rfl, by rw [← ej], s4 _ _ hL3, ?_, rng.1, by omega, ?_⟩
    · rw [lx]
      exact Nat.lt_of_le_of_lt (show i ≤ 100 by omega) (by decide)
    refine ⟨keep (s3.trans s4), rs3.take j.toNat ++ [p.2] ++ rs3.drop j.toNat, _, rfl, ?_, ?_⟩
    · rw [upd_same, List.map_append, List.map_append, List.map_append, List.map_append, List.map_take, List.map_take, List.map_drop, List.map_drop] <;> rfl
    · rw [take_at eb, List.map_append]
      have z : (rs3.take j.toNat ++ [p.2] ++ rs3.drop j.toNat).Perm (p.2 :: rs3) := by
        rw [List.append_assoc]
        have y := List.perm_middle (a := p.2) (l₁ := rs3.take j.toNat) (l₂ := rs3.drop j.toNat)
        rw [List.take_append_drop] at y
        exact y
      refine z.trans ?_
      refine (List.Perm.cons p.2 pm).trans ?_
      exact (List.perm_append_singleton p.2 _).symm
  rintro σ H3 ⟨s3, rs3, v13, rfl, hL3, pm⟩
  rw [List.take_of_length_le (by omega)] at pm
  have hNO := S.note
  have okK := S.keys
  have nu := S.nums
  have same3 : ∀ r, r ∈ rs3 ↔ r ∈ B.map (·.2) := fun r => pm.mem_iff
  have lr3 : rs3.length ≤ 41 := by
    rw [pm.length_eq, List.length_map]
    omega
  have no3 : NoteOk l n rs3 ys := ⟨S.al, n1, n2, fun r m => S.okR r ((same3 r).mp m), by omega, nu⟩
  have okK3 : OkKeys rs3 := fun r m => okK r ((same3 r).mp m)
  replace S := S.mono s3
  replace hb := hb.lk (Lk.of s3)
  -- third
  obtain ⟨d4, ed4, ld4⟩ := S.d4
  obtain ⟨z, az, hz⟩ : ∃ z : PySem.Str, atI [V.str nil0, V.str nl0] (d4 : Int) = some (.str z) ∧ (z = nil0 ∨ z = nl0) := by
    have c : d4 = 0 ∨ d4 = 1 := by omega
    rcases c with rfl | rfl
    · exact ⟨nil0, rfl, .inl rfl⟩
    · exact ⟨nl0, rfl, .inr rfl⟩
  refine ⟨⟨_, rfl⟩, _, rfl, _, rfl, _, rfl, l, n, aY, true, ys, rfl, S.al.most, by omega, n2, SqL.of S.hY, nu, fun ph H4 s4 nph hph => ?_⟩
  replace S := S.mono s4
  replace hb := hb.lk (Lk.of s4)
  have hL4 := s4 _ _ hL3
  refine ⟨_, rfl, ph, aL, _, _, rfl, rfl, hph, hL4, ?_, fun q nq => ?_⟩
  · rw [List.length_map, List.length_map, List.length_map]
    exact Nat.le_trans (show 3 + rs3.length ≤ 100 by omega) (by decide)
  have sq := same_new (o := HO.lst (([headL l, headS n, headY ys] : List PySem.Str).map V.str ++ (rs3.map lineOf).map V.str)) nq
  have hq : (upd H4 q (.lst (([headL l, headS n, headY ys] : List PySem.Str).map V.str ++ (rs3.map lineOf).map V.str))) q = some (.lst ((linesOf l n rs3 ys).map V.str)) := by
    rw [upd_same, ← List.map_append] <;> rfl
  replace S := S.mono sq
  replace hb := hb.lk (Lk.of sq)
  generalize upd H4 q (.lst (([headL l, headS n, headY ys] : List PySem.Str).map V.str ++ (rs3.map lineOf).map V.str)) = H5 at S hb hq ⊢
  clear hL4 hph sq s4 hL3 s3 nq nph
  obtain ⟨su1, su2⟩ := lines_sum no3
  have en : nl0.length = 1 := by decide +kernel
  have lj : (Txt.join nl0 (linesOf l n rs3 ys)).length ≤ 50000 := by
    refine Nat.le_trans (join_len _ _) ?_
    rw [en]
    omega
  have lz : z.length ≤ 1 := by
    rcases hz with e | e <;> rw [e] <;> decide +kernel
  have tx : Txt.join nl0 (linesOf l n rs3 ys) ++ z = Txt.join nl0 (linesOf l n rs3 ys) ∨ Txt.join nl0 (linesOf l n rs3 ys) ++ z = Txt.join nl0 (linesOf l n rs3 ys ++ [em0]) := by
    rcases hz with e | e <;> rw [e]
    · exact .inl (app_nil _)
    · exact .inr (text_nl (lines_ne _ _ _ _))
  refine ⟨_, q, _, rfl, rfl, .inl (SqL.of hq), by rw [en]; omega, ?_⟩
  refine ⟨show 2 ≤ sizeLine by decide, fun u nu1 => ?_⟩
  have s6 := same_new (o := HO.lst [V.str nil0, V.str nl0]) nu1
  have hu : (upd H5 u (.lst [V.str nil0, V.str nl0])) u = some (.lst [V.str nil0, V.str nl0]) := upd_same
  replace S := S.mono s6
  replace hb := hb.lk (Lk.of s6)
  generalize upd H5 u (.lst [V.str nil0, V.str nl0]) = H6 at S hb hu ⊢
  refine ⟨_, rfl, aD, _, _, _, rfl, rfl, SqL.of S.hD, atI_nat (j := 4) (by rw [List.getElem?_map, ed4] <;> rfl), u, _, _, .str z, rfl, rfl, SqL.of hu, az, _, _, rfl, rfl, ?_, ?_⟩
  · exact Nat.le_trans (show (Txt.join nl0 (linesOf l n rs3 ys)).length + z.length ≤ 60000 by omega) (by decide)
  refine ⟨_, l, n, rs3, ys, rfl, tx, no3, fun y m => (S.okY y m).2, by show (Txt.join nl0 (linesOf l n rs3 ys) ++ z).length ≤ 1000000; rw [str_len_app]; omega, fun y H7 s7 hM3 => ?_⟩
  replace S := S.mono s7
  replace hb := hb.lk (Lk.of s7)
  -- the fields
  refine ⟨_, rfl, C, y, l, n, rs3, ys, rfl, M.cls, hM3, fun pf H8 s8 npf hF => ?_⟩
  replace S := S.mono s8
  replace hb := hb.lk (Lk.of s8)
  replace hM3 := hM3.lk (Lk.of s8)
  have dpF : Dp K H8 (.ref pf) (dueD l n (B.map (·.2)) ys) := by
    rw [← dueD_ext (l := l) (n := n) same3 fun _ => Iff.rfl]
    exact hF.dp
  refine ⟨_, rfl, _, _, dueD l n (B.map (·.2)) ys, rfl, dpF, S.hU.dp, depth_due (by rw [List.length_map]; omega) S.fewY, _, rfl, ?_⟩
  refine iteF ?_
  obtain ⟨dx, _, _, _, _, _, _, hx, _⟩ := S.hM.ex
  obtain ⟨dy, _, _, _, _, _, _, hy, _⟩ := hM3.ex
  have eqs : PyData.eqv (fourD l n (B.map (·.2)) ys) (fourD l n rs3 ys) = true := eqv_same S.al okK (fun r => (same3 r).symm) fun _ => Iff.rfl
  refine ⟨_, rfl, _, rfl, x, y, dx, dy, _, _, rfl, rfl, hx, hy, x, y, l, l, n, n, _, _, ys, ys, rfl, S.hM, hM3, okK, okK3, _, _, .bool true, rfl, ?_, .bl _, trivial, _, rfl, ?_⟩
  · rw [eqs]
    exact .bl _
  refine iteF ?_
  -- written once more
  have e3 : noteOf (linesOf l n (rulesOf rs3) (intsOf ys)) = note := by rw [rulesOf_ext same3, hN]
  have eb : noteOf (linesOf l n (rulesOf (rulesOf (B.map (·.2)))) (intsOf (intsOf ys))) = note := by rw [rulesOf_ext (rulesOf_mem (B.map (·.2))), intsOf_ext fun _ => ints_mem, hN]
  refine ⟨_, rfl, y, l, n, rs3, ys, rfl, hM3, no3, fun H9 s9 => ?_⟩
  rw [e3]
  refine ⟨_, rfl, b, l, n, _, _, rfl, hb.lk (Lk.of s9), note_ord hNO, fun H10 s10 => ?_⟩
  rw [eb]
  refine ⟨_, rfl, x, l, n, _, _, rfl, S.hM.lk (Lk.of (s9.trans s10)), hNO, fun H11 s11 => ?_⟩
  rw [hN]
  refine ⟨show 3 ≤ sizeLine by decide, fun t1 nt1 => ?_⟩
  refine ⟨_, rfl, _, rfl, _, rfl, show 3 ≤ sizeLine by decide, fun t2 nt2 => ?_⟩
  have ht1 := same_new (o := HO.tup [V.str note, V.str note, V.str note]) nt2 _ _ (show (upd H11 t1 (.tup [V.str note, V.str note, V.str note])) t1 = _ from upd_same)
  refine ⟨_, _, .tuple [.str note, .str note, .str note], rfl, .tup (.inl (.inl ht1)) (.cons (.str _) (.cons (.str _) (.cons (.str _) .nil))), .tup (.inl (.inl upd_same)) (.cons (.str _) (.cons (.str _) (.cons (.str _) .nil))), ⟨show 3 ≤ 100000 by decide, fun d m => ?_⟩, k _⟩
  simp only [List.mem_cons, List.not_mem_nil, or_false, or_self] at m
  rw [m]
  trivial
end
end Mk
set_option Elab.async false
set_option linter.unusedVariables false
set_option maxRecDepth 100000
set_option maxHeartbeats 32000000
namespace Mk
open PySem L2 Pk
section
variable {P : Program} {w : World} {K : PySem.W.Frag} {mg : PySem.Str → Option Value} {base : Heap}
theorem law_B {C fI e0 fE f : Addr} {fdI fdE : FuncData} (T : TM mg) (G : LawDefs P w K mg base C) (M3 : MDef3 P w K mg base C fI e0 fE fdI fdE) (cdv : Value) (A : Around) (outer : List Env) (s : Shared) (H : Hp) (E : XK)
    (hr : Room 8 (A.deeper (PyProof.Rows.envOfC "law" (defScope sLaw) s.heap.objs.size f cdv))) :
    ∃ t : TS, PSs (cxOf CX0 P w K mg base nLaw "law" (defScope sLaw) f cdv A outer s H E).nox ((defBody sLaw).drop 8) t ∧
      ∀ (D : Ends) (k : ∀ H', D.rt (.bl true) H') (H0 : Hp) (sc aD aB aY pD x : Addr) (ns head : List Int) (l : PySem.Str) (n : Int) (B : Kept) (ys : List Int) (e9 e10 e11 e12 e13 e14 e15 e16 : Option V),
        LS K H0 C sc ns head x l n B ys aD aB aY pD →
        t D [some (.ref sc), some (.ref aD), some (.str l), some (.int n), some (.int (B.length : Int)), some (.ref aB), some (.ref aY), some (.ref pD), some (.ref x), e9, e10, e11, e12, e13, e14, e15, e16] H0 := by
  have M := M3.make
  have h1 := hr.mono (show 1 ≤ 8 by decide)
  have h2 := hr.mono (show 2 ≤ 8 by decide)
  have h5 := hr.mono (show 5 ≤ 8 by decide)
  obtain ⟨tC, hC, kC⟩ := law_C (f := f) T G M3 cdv A outer s H E hr
  refine ⟨_, pss_cons (ps_set (i := 9) scLaw.nd rfl (Or.inl rfl) (pe_join pe_str (pe_lc (own := [("line", 16)]) (g := gName 16) (tt := tYes) (by rfl) scLaw.nd
        (pi_list (pe_op op_cat (pe_got G.heads h1 (by rfl) (pa_cons (pv 2) (pa_cons (pv 3) (pa_cons (pe_ix ix_tup (pv 7) pe_int fun _ _ => rfl) pa_nil))))
          (pe_lc (own := [("rule", 15)]) (g := gName 15) (tt := tYes) (by rfl) scLaw.nd (pi_tup (pe_ix ix_tup (pv 7) pe_int fun _ _ => rfl))
            (blkOk_by (own := [("rule", 15)]) (N := nLaw) (sc := defScope sLaw) (by decide +kernel)) (fun _ _ _ _ _ => pg_name (i := 15) scLaw.nd rfl (Or.inl rfl)) (fun _ _ _ _ _ => pts_nil)
            (fun _ _ _ _ _ => pe_got G.line h1 (by rfl) (pa_cons (pv 15) pa_nil)))))
          (blkOk_by (own := [("line", 16)]) (N := nLaw) (sc := defScope sLaw) (by decide +kernel)) (fun _ _ _ _ _ => pg_name (i := 16) scLaw.nd rfl (Or.inl rfl)) (fun _ _ _ _ _ => pts_nil)
          (fun _ _ _ _ _ => pe_op op_add_str (pv 16) pe_str))))
      (pss_cons (ps_if (pt_not (pt_val (pe_got G.same h5 (by rfl) (pa_cons (pe_got G.write h2 (by rfl) (pa_cons (pv 8) pa_nil)) (pa_cons (pv 9) pa_nil))))) (pss_one (ps_ret pe_bl)) pss_nil)
      (pss_cons (ps_set (i := 10) scLaw.nd rfl (Or.inl rfl) (pe_got G.read hr (by rfl) (pa_cons (pv 9) pa_nil)))
      (pss_cons (ps_if (PW.pt (pw_or (pt_not (pt_val (pe_got G.same h5 (by rfl) (pa_cons (pe_got G.fields h1 (by rfl) (pa_cons (pv 10) pa_nil)) (pa_cons (pv 7) pa_nil)))))
          (pw_or1 (pt_not (pt_val (pe_got G.same h5 (by rfl) (pa_cons (pe_cmpR (Sx.op_eqI M3.eqOk M3.eqAt M3.eqFn M3.eqB pass0 h1 (eq_bool C)) (pv 10) (pv 8) (nomark _)) (pa_cons pe_bl pa_nil)))))))) (pss_one (ps_ret pe_bl)) pss_nil)
      hC))), ?_⟩
  intro D k H0 sc aD aB aY pD x ns head l n B ys e9 e10 e11 e12 e13 e14 e15 e16 S
  have few := S.few
  have n1 := S.n1
  have n2 := S.n2
  have al := S.al
  have okY := S.okY
  have fewY := S.fewY
  have hNO := S.note
  have no' := note_ord hNO
  have nu := no'.nums
  have okK := S.keys
  have few10 : ∀ {m : Nat}, m ≤ 10000 → m ≤ sizeLine := fun h => Nat.le_trans h (by decide)
  obtain ⟨aR, aY2, aS, g, R, hp, hR, kR, eR, hY2, hSy, hg⟩ := S.hU.ex
  have lR : (refsK R).length = R.length := List.length_map ..
  have eR' : R.map (fun p => lineOf p.2) = (rulesOf (B.map (·.2))).map lineOf := by rw [← eR, List.map_map] <;> rfl
  have fewR : R.length ≤ 100 := by
    have z := congrArg List.length eR
    rw [List.length_map] at z
    have y := no'.few
    omega
  -- the note
  refine ⟨⟨_, rfl⟩, _, rfl, _, rfl, _, rfl, pD, _, 3, .ref aY2, rfl, rfl, .inl (.inl hp), rfl, l, n, aY2, false, intsOf ys, rfl, al.most, by omega, n2, .inl (.inl hY2), nu, fun ph H1 s1 nph hph => ?_⟩
  have hR1 := s1 _ _ hR
  refine ⟨_, rfl, pD, _, 2, .ref aR, rfl, rfl, .inl (.inl (s1 _ _ hp)), rfl, aR, rfl, ⟨_, .inl (.inl hR1)⟩, fun D2 nD2 => lc_it (walk_tup (K := K) (a := aR) (xs := refsK R)) (fun i H' => Same H1 H' ∧ H' D2 = some (.lst (((R.take i).map fun p => lineOf p.2).map V.str))) ⟨same_new nD2, upd_same⟩ (fun i H' _ h => .inl (.inl (h.1 _ _ hR1))) ?_ ?_⟩
  · rintro i v H5 _ hi ⟨s5, hD2⟩ ⟨rfl, ev⟩
    obtain ⟨p, ep, rfl⟩ := at_refs ev
    have mp := List.mem_of_getElem? ep
    have okp : RlOk l n p.2 := no'.ok p.2 (by rw [← eR]; exact List.mem_map.mpr ⟨p, mp, rfl⟩)
    refine ⟨rfl, ?_⟩
    refine ⟨_, rfl, p.1, p.2, l, n, rfl, s5 _ _ (s1 _ _ (kR p mp)), al, okp, n2, fun H6 s6 => ⟨_, s6 _ _ hD2, ?_, same_mut (s5.trans s6) nD2, ?_⟩⟩
    · rw [List.length_map, List.length_map, List.length_take]
      exact Nat.lt_of_le_of_lt (show min i R.length ≤ 100 by omega) (by decide)
    · rw [upd_same, take_at ep, List.map_append, List.map_append] <;> rfl
  rintro H5 ⟨s5, hD2⟩
  rw [lR, List.take_of_length_le (Nat.le_refl _), eR'] at hD2
  refine ⟨ph, D2, _, _, rfl, rfl, s5 _ _ hph, hD2, few10 (by rw [List.length_map, List.length_map, List.length_map]; show 3 + (rulesOf (B.map (·.2))).length ≤ 10000; have := no'.few; omega), fun q nq => ?_⟩
  have sq := (s1.trans s5).trans (same_new (o := HO.lst (([headL l, headS n, headY (intsOf ys)] : List PySem.Str).map V.str ++ ((rulesOf (B.map (·.2))).map lineOf).map V.str)) nq)
  have h6 : (upd H5 q (.lst (([headL l, headS n, headY (intsOf ys)] : List PySem.Str).map V.str ++ ((rulesOf (B.map (·.2))).map lineOf).map V.str))) q = some (.lst ((linesOf l n (rulesOf (B.map (·.2))) (intsOf ys)).map V.str)) := by
    rw [upd_same, ← List.map_append] <;> rfl
  generalize upd H5 q (.lst (([headL l, headS n, headY (intsOf ys)] : List PySem.Str).map V.str ++ ((rulesOf (B.map (·.2))).map lineOf).map V.str)) = H6 at sq h6 ⊢
  clear s5 hD2 nD2 hph nph s1 hR1 nq
  obtain ⟨sm1, sm2⟩ := lines_small no'
  obtain ⟨su1, su2⟩ := lines_sum no'
  have en : nl0.length = 1 := by decide +kernel
  have nj := note_join (lines_ne l n (rulesOf (B.map (·.2))) (intsOf ys))
  have kC' := kC D k
  generalize hls : linesOf l n (rulesOf (B.map (·.2))) (intsOf ys) = ls at h6 sm1 sm2 su1 su2 nj
  have each : ∀ z ∈ ls, z.length ≤ 40000 := fun z mz => by
    have gen : ∀ (ls : List PySem.Str), z ∈ ls → z.length ≤ (ls.map (·.length)).sum := by
      intro ls
      induction ls with
      | nil => intro m; exact absurd m List.not_mem_nil
      | cons y r ih =>
        intro m
        rw [List.map_cons, List.sum_cons]
        rcases List.mem_cons.mp m with rfl | m
        · omega
        · have := ih m; omega
    exact Nat.le_trans (gen ls mz) su1
  refine ⟨q, rfl, ⟨_, SqL.of h6⟩, fun D3 nD3 => lc_list (K := K) (a := q) (xs := ls.map V.str) (fun i H' => Same H6 H' ∧ H' D3 = some (.lst (((ls.take i).map fun x => x ++ nl0).map V.str))) ⟨same_new nD3, upd_same⟩ (fun i H' _ h => SqL.of (h.1 _ _ h6)) ?_ ?_⟩
  · rintro i v H7 hi ⟨s7, hD3⟩
    rw [List.getElem?_map] at hi
    obtain ⟨z, ez, rfl⟩ := Option.map_eq_some_iff.mp hi
    refine ⟨rfl, ?_⟩
    refine ⟨_, rfl, z, _, rfl, rfl, Nat.le_trans (show z.length + nl0.length ≤ 50000 by have := each z (List.mem_of_getElem? ez); omega) (by decide), _, hD3, ?_, same_mut s7 nD3, ?_⟩
    · rw [List.length_map, List.length_map, List.length_take]
      exact Nat.lt_of_le_of_lt (show min i ls.length ≤ 200 by omega) (by decide)
    · rw [upd_same, take_at ez, List.map_append, List.map_append] <;> rfl
  rintro H7 ⟨s7, hD3⟩
  rw [List.length_map, List.take_of_length_le (Nat.le_refl _)] at hD3
  refine ⟨_, D3, _, rfl, rfl, .inl (SqL.of hD3), sm1, ?_⟩
  replace S := S.mono (sq.trans s7)
  clear hp hR kR hY2 hSy hg sq s7 h6
  -- written
  show (tSeq _ _) _ [some (.ref sc), some (.ref aD), some (.str l), some (.int n), some (.int (B.length : Int)), some (.ref aB), some (.ref aY), some (.ref pD), some (.ref x), some (.str (noteOf ls)), e10, e11, e12, e13, e14, e15, e16] _
  refine ⟨_, rfl, x, l, n, _, _, rfl, S.hM, hNO, fun H8 s8 => ?_⟩
  replace S := S.mono s8
  refine ⟨_, rfl, _, _, .str (noteOf ls), rfl, by rw [hls]; exact .str _, .str _, trivial, _, rfl, ?_⟩
  refine iteF ?_
  -- read
  refine ⟨_, rfl, _, l, n, rulesOf (B.map (·.2)), intsOf ys, rfl, .inr (by rw [hls]; exact nj), no', fun y m => (okY y (ints_mem.mp m)).2, by omega, fun b H9 s9 hb => ?_⟩
  replace S := S.mono s9
  refine ⟨_, rfl, C, b, l, n, _, _, rfl, M.cls, hb, fun pf H10 s10 npf hF => ?_⟩
  replace S := S.mono s10
  replace hb := hb.lk (Lk.of s10)
  have memR := rulesOf_mem (B.map (·.2))
  have memY : ∀ y, y ∈ intsOf ys ↔ y ∈ ys := fun _ => ints_mem
  have dpF : Dp K H10 (.ref pf) (dueD l n (B.map (·.2)) ys) := by
    rw [← dueD_ext (l := l) (n := n) memR memY]
    exact hF.dp
  refine ⟨_, rfl, _, _, dueD l n (B.map (·.2)) ys, rfl, dpF, S.hU.dp, depth_due (by rw [List.length_map]; omega) S.fewY, _, rfl, ?_⟩
  refine iteF ?_
  obtain ⟨dx, _, _, _, _, _, _, hx, _⟩ := S.hM.ex
  obtain ⟨db, _, _, _, _, _, _, hbx, _⟩ := hb.ex
  have okKb : OkKeys (rulesOf (B.map (·.2))) := okRules okK
  have eqs : PyData.eqv (fourD l n (rulesOf (B.map (·.2))) (intsOf ys)) (fourD l n (B.map (·.2)) ys) = true := eqv_same al okKb memR memY
  refine ⟨_, rfl, _, rfl, b, x, db, dx, _, _, rfl, rfl, hbx, hx, b, x, l, l, n, n, _, _, intsOf ys, ys, rfl, hb, S.hM, okKb, okK, _, _, .bool true, rfl, ?_, .bl _, trivial, _, rfl, ?_⟩
  · rw [eqs]
    exact .bl _
  refine iteF ?_
  have z := kC' H10 sc aD aB aY pD x b ns head l n B ys e11 e12 e13 e14 e15 e16 S hb
  rw [hls] at z
  exact z
end
end Mk
set_option Elab.async false
set_option linter.unusedVariables false
set_option maxRecDepth 100000
set_option maxHeartbeats 32000000
namespace Mk
open PySem L2 Pk
section
variable {P : Program} {w : World} {K : PySem.W.Frag} {mg : PySem.Str → Option Value} {base : Heap}
theorem ok_law {f : Addr} {fd : FuncData} {C fI e0 fE : Addr} {fdI fdE : FuncData} (F : Fun K "law" "law" sLaw f fd) (T : TM mg) (G : LawDefs P w K mg base C) (M3 : MDef3 P w K mg base C fI e0 fE fdI fdE) : FnOk P w K mg base CX0 9 f fd ["script"] (spLaw K) := by
  refine F.ok scLaw (fun vs H Q E h => ?_) (fun cdv A outer s H vs Q E hr h => ?_)
  · obtain ⟨a, ns, rfl, _⟩ := h
    rfl
  · obtain ⟨sc, ns, rfl, hS, k⟩ := h
    have M := M3.make
    have h1 := hr.mono (show 1 ≤ 8 by decide)
    have h2 := hr.mono (show 2 ≤ 8 by decide)
    have h3 := hr.mono (show 3 ≤ 8 by decide)
    have h7 := hr.mono (show 7 ≤ 8 by decide)
    obtain ⟨tB, hB0, kB⟩ := law_B (f := f) T G M3 cdv A outer s H E hr
    refine ⟨_, pss_cons (ps_set (i := 1) scLaw.nd rfl (Or.inl rfl) (pe_got G.digits h1 (by rfl) (pa_cons (pe_got G.cell h1 (by rfl) (pa_cons (pv 0) (pa_cons pe_int pa_nil))) (pa_cons (pe_lst (pa_cons pe_int (pa_cons pe_int (pa_cons pe_int (pa_cons pe_int (pa_cons pe_int pa_nil)))))) pa_nil))))
      (pss_cons (ps_set (i := 2) scLaw.nd rfl (Or.inl rfl) (pe_got G.letters h2 (by rfl) (pa_cons (pe_got G.cell h1 (by rfl) (pa_cons (pv 0) (pa_cons pe_int pa_nil))) pa_nil)))
      (pss_cons (ps_set (i := 3) scLaw.nd rfl (Or.inl rfl) (pe_ix ix_list (pe_lst (pa_cons pe_int (pa_cons pe_int (pa_cons pe_int (pa_cons pe_int (pa_cons pe_int (pa_cons pe_int (pa_cons (pe_op op_add pe_int (pe_ix ix_list (pv 1) pe_int fun _ _ => rfl)) (pa_cons pe_int pa_nil))))))))) (pe_ix ix_list (pv 1) pe_int fun _ _ => rfl) fun _ _ => rfl))
      (pss_cons (ps_set (i := 4) scLaw.nd rfl (Or.inl rfl) (pe_ix ix_list (pe_lst (pa_cons pe_int (pa_cons pe_int (pa_cons pe_int (pa_cons pe_int (pa_cons pe_int (pa_cons pe_int (pa_cons pe_int (pa_cons pe_int (pa_cons (pe_ix ix_list (pv 1) pe_int fun _ _ => rfl) (pa_cons (pe_ix ix_list (pv 1) pe_int fun _ _ => rfl) pa_nil))))))))))) (pe_ix ix_list (pv 1) pe_int fun _ _ => rfl) fun _ _ => rfl))
      (pss_cons (ps_set (i := 5) scLaw.nd rfl (Or.inl rfl) (pe_got G.rules h3 (by rfl) (pa_cons (pv 0) (pa_cons pe_int (pa_cons (pv 4) (pa_cons (pv 2) (pa_cons (pv 3) (pa_cons (pe_got G.pool h2 (by rfl) (pa_cons (pe_got G.cell h1 (by rfl) (pa_cons (pv 0) (pa_cons pe_int pa_nil))) pa_nil)) pa_nil))))))))
      (pss_cons (ps_set (i := 6) scLaw.nd rfl (Or.inl rfl) (pe_got G.yes h2 (by rfl) (pa_cons (pe_got G.cell h1 (by rfl) (pa_cons (pv 0) (pa_cons pe_int pa_nil))) (pa_cons (pv 3) pa_nil))))
      (pss_cons (ps_set (i := 7) scLaw.nd rfl (Or.inl rfl) (pe_got G.due h2 (by rfl) (pa_cons (pv 2) (pa_cons (pv 3) (pa_cons (pv 5) (pa_cons (pv 6) pa_nil))))))
      (pss_cons (ps_set (i := 8) scLaw.nd rfl (Or.inl rfl) (pe_make M.maker M.init h7 (by rfl) M.name M.b4 .nil pass0 (pa_cons (pv 2) (pa_cons (pv 3) (pa_cons (pv 5) (pa_cons (pv 6) pa_nil))))))
      hB0))))))), ?_⟩
    -- head
    refine ⟨_, rfl, sc, ns, 0, rfl, hS, fun z0 => ⟨show 5 ≤ sizeLine by decide, fun l6 h6 => ⟨z0, l6, [8, 2000, 10, 41, 2], rfl, SqL.of upd_same, by decide, by decide, fun head aD H1 dg hp s1 hhead => ?_⟩⟩⟩
    have sA : Same H H1 := (same_new h6).trans s1
    clear s1 hp h6
    have dig : ∀ (j : Nat) (t : Int), ([8, 2000, 10, 41, 2] : List Int)[j]? = some t → ∃ d : Nat, head[j]? = some (d : Int) ∧ (d : Int) < t := fun j t e => by
      obtain ⟨d, e1, e2, e3⟩ := dg.2 j t e
      exact ⟨d.toNat, by rw [e1, Int.toNat_of_nonneg e2], by rw [Int.toNat_of_nonneg e2]; exact e3⟩
    have rowAt : ∀ {j : Nat} {d : Int}, head[j]? = some d → atI (head.map V.int) (j : Int) = some (V.int d) := fun {j d} e => atI_nat (by rw [List.getElem?_map, e]; rfl)
    obtain ⟨d0, e0, b0⟩ := dig 0 8 rfl
    obtain ⟨d1, e1, b1⟩ := dig 1 2000 rfl
    obtain ⟨d2, e2, b2⟩ := dig 2 10 rfl
    obtain ⟨d3, e3, b3'⟩ := dig 3 41 rfl
    obtain ⟨d4, e4, b4'⟩ := dig 4 2 rfl
    -- letters
    refine ⟨_, rfl, sc, ns, 1, rfl, sA.seq hS, fun z1 => ⟨z1, rfl, fun l H2 al s2 => ?_⟩⟩
    have sB := sA.trans s2
    have hh2 := s2 _ _ hhead
    -- states
    obtain ⟨n, hn, n1, n2000⟩ := menu_states b1 b0
    refine ⟨_, rfl, aD, _, _, _, rfl, rfl, SqL.of hh2, rowAt (j := 1) e1, _, _, rfl, rfl, show 8 ≤ sizeLine by decide, fun q3 nq3 => ?_⟩
    refine ⟨_, rfl, aD, _, _, _, rfl, rfl, SqL.of (same_new nq3 _ _ hh2), rowAt (j := 0) e0, q3, _, _, .int n, rfl, rfl, SqL.of upd_same, hn, ?_⟩
    obtain ⟨m, hm, m41⟩ := menu_many b3' b2
    have s3 := same_new (o := HO.lst [V.int 1, V.int 2, V.int 3, V.int 4, V.int 12, V.int 2000, V.int (1 + (d1 : Int)), V.int 5]) nq3
    have hh3 := s3 _ _ hh2
    have sC := sB.trans s3
    dsimp only [gName]
    generalize upd H2 q3 (.lst [V.int 1, V.int 2, V.int 3, V.int 4, V.int 12, V.int 2000, V.int (1 + (d1 : Int)), V.int 5]) = H3 at hh3 sC ⊢
    clear s3 nq3 hn
    refine ⟨_, rfl, aD, _, _, _, rfl, rfl, SqL.of hh3, rowAt (j := 3) e3, _, rfl, aD, _, _, _, rfl, rfl, SqL.of hh3, rowAt (j := 3) e3, show 10 ≤ sizeLine by decide, fun q4 nq4 => ?_⟩
    refine ⟨_, rfl, aD, _, _, _, rfl, rfl, SqL.of (same_new nq4 _ _ hh3), rowAt (j := 2) e2, q4, _, _, .int (m : Int), rfl, rfl, SqL.of upd_same, hm, ?_⟩
    have s4 := same_new (o := HO.lst [V.int 6, V.int 3, V.int 9, V.int 1, V.int 12, V.int 7, V.int 4, V.int 2, V.int (d3 : Int), V.int (d3 : Int)]) nq4
    have hh4 := s4 _ _ hh3
    have sD := sC.trans s4
    dsimp only [gName]
    generalize upd H3 q4 (.lst [V.int 6, V.int 3, V.int 9, V.int 1, V.int 12, V.int 7, V.int 4, V.int 2, V.int (d3 : Int), V.int (d3 : Int)]) = H4 at hh4 sD ⊢
    clear s4 nq4 hm
    -- rules, with the pool
    refine ⟨_, rfl, _, rfl, _, rfl, _, rfl, _, rfl, sc, ns, 2, rfl, sD.seq hS, fun z2 => ⟨z2, rfl, fun pp H5 xs lx okx s5 np5 hpool => ?_⟩⟩
    have sE := sD.trans s5
    refine ⟨sc, ns, 6, m, l, n, pp, xs, rfl, sE.seq hS, by omega, al, n1, by omega, hpool, lx, okx, fun aB B H6 lB dB s6 np6 hB => ?_⟩
    have sF := sE.trans s6
    have hh6 := s6 _ _ (s5 _ _ hh4)
    -- yes
    refine ⟨_, rfl, sc, ns, 3, rfl, sF.seq hS, fun z3 => ⟨_, rfl, z3, n, rfl, n1, by omega, fun aY ys H7 okY fewY s7 np7 hY => ?_⟩⟩
    have sG := sF.trans s7
    have hB7 := s7 _ _ hB
    have dB7 := dB.mono s7
    have hh7 := s7 _ _ hh6
    -- due
    refine ⟨_, rfl, _, rfl, _, rfl, _, rfl, l, n, aB, aY, true, true, B, ys, rfl, SqL.of hB7, dB7.at_, by omega, fun p mp => k3_sub (rl_ok al (dB7.ok p mp)), SqL.of hY, by omega, fun pD H8 s8 npD hU => ?_⟩
    have RT := right_of (K := K) al n1 n2000 (s8 _ _ hB7) (dB7.mono s8) (by omega) (s8 _ _ hY) okY fewY
    -- the machine
    refine ⟨_, rfl, _, rfl, _, rfl, _, rfl, fun x dx nx nd ne => ?_⟩
    refine made_as nx nd rfl RT fun H9 s9 hM => ⟨rfl, ?_⟩
    rw [rs_one] at hM
    have s89 := s8.trans s9
    subst lB
    refine kB _ k H9 sc aD aB aY pD x ns head l n B ys _ _ _ _ _ _ _ _ { hS := (sG.trans s89).seq hS, hD := s89 _ _ hh7, d4 := ⟨d4, e4, by omega⟩, al := al, n1 := n1, n2 := n2000, hM := hM, hB := s89 _ _ hB7, dB := dB7.mono s89, few := by omega, hY := s89 _ _ hY, okY := okY, fewY := fewY, hU := hU.tk (Tk.of s9) }
end
end Mk
set_option Elab.async false
set_option linter.unusedVariables false
set_option maxRecDepth 100000
set_option maxHeartbeats 4000000
namespace Mk
open PySem L2 Pk
theorem mw_of {K : PySem.W.Frag} {mg : PySem.Str → Option Value} {aW nW : Nat} {h1 h2 h3 : Int} {k1 k2 k3 v1 v2 v3 : Tok} (g : mg "MOVE_WORDS" = some (.ref aW))
    (l : K.lookup aW = some ⟨.type "dict", none, .dict #[⟨h1, .int (-1) k1, .str "left" v1⟩, ⟨h2, .int 0 k2, .str "stay" v2⟩, ⟨h3, .int 1 k3, .str "right" v3⟩] nW, #[]⟩) (e1 : h1 = hashInt (-1)) (e2 : h2 = hashInt 0) (e3 : h3 = hashInt 1) : MW K mg := by
  refine ⟨aW, _, nW, _, _, _, g, ⟨l, fun e m => ?_⟩, rfl, rfl, rfl, ⟨_, rfl⟩, ⟨_, rfl⟩, ⟨_, rfl⟩⟩
  simp only [List.mem_cons, List.not_mem_nil, or_false] at m
  rcases m with rfl | rfl | rfl
  · exact ⟨_, _, rfl, e1⟩
  · exact ⟨_, _, rfl, e2⟩
  · exact ⟨_, _, rfl, e3⟩
theorem mvs_of {K : PySem.W.Frag} {w : World} {mg : PySem.Str → Option Value} {aV nV : Nat} {k1 k2 k3 v1 v2 v3 : Tok} (g : mg "MOVES" = some (.ref aV))
    (l : K.lookup aV = some ⟨.type "dict", none, .dict #[⟨PyData.keyHash w.params "left", .str "left" k1, .int (-1) v1⟩, ⟨PyData.keyHash w.params "stay", .str "stay" k2, .int 0 v2⟩, ⟨PyData.keyHash w.params "right", .str "right" k3, .int 1 v3⟩] nV, #[]⟩) (low : (aV == sysModules) = false)
    (n1 : PySem.W.nsIn K aV "left" = some (some (.int (-1) v1))) (n2 : PySem.W.nsIn K aV "stay" = some (some (.int 0 v2))) (n3 : PySem.W.nsIn K aV "right" = some (some (.int 1 v3))) : MVS K w mg :=
  ⟨aV, _, nV, _, _, _, g, ⟨l, ⟨⟨_, _, rfl, rfl⟩, ⟨_, _, rfl, rfl⟩, ⟨_, _, rfl, rfl⟩, trivial⟩, low⟩, n1, n2, n3, ⟨_, rfl⟩, ⟨_, rfl⟩, ⟨_, rfl⟩⟩
theorem kit_selfC {K : PySem.W.Frag} {C : Addr} : PySem.W.kitOne K (.ref C) (.ref C) = some true := by
  have n : (Value.ref C == Value.ref C) = true := beq_iff_eq.mpr rfl
  unfold PySem.W.kitOne
  rw [if_pos n]
end Mk
set_option Elab.async false
set_option maxRecDepth 100000
set_option maxHeartbeats 8000000
namespace Mk
open PySem L2 Pk
theorem all_mk {l : PySem.W.OpenLaw} {w : World} {K : PySem.W.Frag} {h : Heap} {mg : Str → Option Value} {fa : Addr} (X : K.In h) (G : h.Ns mainGlobals mg) (hfa : mg "law" = some (.ref fa))
    {f1 : Addr} {od1 an1 : Option Addr} {sl1 : Array (Option Value)} {oc1 kV1 dc1 pm1 cd1 ct1 : Value}
    {f2 : Addr} {od2 an2 : Option Addr} {sl2 : Array (Option Value)} {oc2 kV2 dc2 pm2 cd2 ct2 : Value}
    {f3 : Addr} {od3 an3 : Option Addr} {sl3 : Array (Option Value)} {oc3 kV3 dc3 pm3 cd3 ct3 : Value}
    {f4 : Addr} {od4 an4 : Option Addr} {sl4 : Array (Option Value)} {oc4 kV4 dc4 pm4 cd4 ct4 : Value}
    {f5 : Addr} {od5 an5 : Option Addr} {sl5 : Array (Option Value)} {oc5 kV5 dc5 pm5 cd5 ct5 : Value}
    {f6 : Addr} {od6 an6 : Option Addr} {sl6 : Array (Option Value)} {oc6 kV6 dc6 pm6 cd6 ct6 : Value}
    {f7 : Addr} {od7 an7 : Option Addr} {sl7 : Array (Option Value)} {oc7 kV7 dc7 pm7 cd7 ct7 : Value}
    {f8 : Addr} {od8 an8 : Option Addr} {sl8 : Array (Option Value)} {oc8 kV8 dc8 pm8 cd8 ct8 : Value}
    {f9 : Addr} {od9 an9 : Option Addr} {sl9 : Array (Option Value)} {oc9 kV9 dc9 pm9 cd9 ct9 : Value}
    {f10 : Addr} {od10 an10 : Option Addr} {sl10 : Array (Option Value)} {oc10 kV10 dc10 pm10 cd10 ct10 : Value}
    {f11 : Addr} {od11 an11 : Option Addr} {sl11 : Array (Option Value)} {oc11 kV11 dc11 pm11 cd11 ct11 : Value}
    {f12 : Addr} {od12 an12 : Option Addr} {sl12 : Array (Option Value)} {oc12 kV12 dc12 pm12 cd12 ct12 : Value}
    {f13 : Addr} {od13 an13 : Option Addr} {sl13 : Array (Option Value)} {oc13 kV13 dc13 pm13 cd13 ct13 : Value}
    {f14 : Addr} {od14 an14 : Option Addr} {sl14 : Array (Option Value)} {oc14 kV14 dc14 pm14 cd14 ct14 : Value}
    {f15 : Addr} {od15 an15 : Option Addr} {sl15 : Array (Option Value)} {oc15 kV15 dc15 pm15 cd15 ct15 : Value}
    {f16 : Addr} {od16 an16 : Option Addr} {sl16 : Array (Option Value)} {oc16 kV16 dc16 pm16 cd16 ct16 : Value}
    {f17 : Addr} {od17 an17 : Option Addr} {sl17 : Array (Option Value)} {oc17 kV17 dc17 pm17 cd17 ct17 : Value}
    {f18 : Addr} {od18 an18 : Option Addr} {sl18 : Array (Option Value)} {oc18 kV18 dc18 pm18 cd18 ct18 : Value}
    {f19 : Addr} {od19 an19 : Option Addr} {sl19 : Array (Option Value)} {oc19 kV19 dc19 pm19 cd19 ct19 : Value}
    {f20 : Addr} {od20 an20 : Option Addr} {sl20 : Array (Option Value)} {oc20 kV20 dc20 pm20 cd20 ct20 : Value}
    {f21 : Addr} {od21 an21 : Option Addr} {sl21 : Array (Option Value)} {oc21 kV21 dc21 pm21 cd21 ct21 : Value}
    {f22 : Addr} {od22 an22 : Option Addr} {sl22 : Array (Option Value)} {oc22 kV22 dc22 pm22 cd22 ct22 : Value}
    {f23 : Addr} {od23 an23 : Option Addr} {sl23 : Array (Option Value)} {oc23 kV23 dc23 pm23 cd23 ct23 : Value}
    {f24 : Addr} {od24 an24 : Option Addr} {sl24 : Array (Option Value)} {oc24 kV24 dc24 pm24 cd24 ct24 : Value}
    {f25 : Addr} {od25 an25 : Option Addr} {sl25 : Array (Option Value)} {oc25 kV25 dc25 pm25 cd25 ct25 : Value}
    {f26 : Addr} {od26 an26 : Option Addr} {sl26 : Array (Option Value)} {oc26 kV26 dc26 pm26 cd26 ct26 : Value}
    {f27 : Addr} {od27 an27 : Option Addr} {sl27 : Array (Option Value)} {oc27 kV27 dc27 pm27 cd27 ct27 : Value}
    {f28 : Addr} {od28 an28 : Option Addr} {sl28 : Array (Option Value)} {oc28 kV28 dc28 pm28 cd28 ct28 : Value}
    {f29 : Addr} {od29 an29 : Option Addr} {sl29 : Array (Option Value)} {oc29 kV29 dc29 pm29 cd29 ct29 : Value}
    {f30 : Addr} {od30 an30 : Option Addr} {sl30 : Array (Option Value)} {oc30 kV30 dc30 pm30 cd30 ct30 : Value}
    {f31 : Addr} {od31 an31 : Option Addr} {sl31 : Array (Option Value)} {oc31 kV31 dc31 pm31 cd31 ct31 : Value}
    {f32 : Addr} {od32 an32 : Option Addr} {sl32 : Array (Option Value)} {oc32 kV32 dc32 pm32 cd32 ct32 : Value}
    {f33 : Addr} {od33 an33 : Option Addr} {sl33 : Array (Option Value)} {oc33 kV33 dc33 pm33 cd33 ct33 : Value}
    {f34 : Addr} {od34 an34 : Option Addr} {sl34 : Array (Option Value)} {oc34 kV34 dc34 pm34 cd34 ct34 : Value}
    {f35 : Addr} {od35 an35 : Option Addr} {sl35 : Array (Option Value)} {oc35 kV35 dc35 pm35 cd35 ct35 : Value}
    {f36 : Addr} {od36 an36 : Option Addr} {sl36 : Array (Option Value)} {oc36 kV36 dc36 pm36 cd36 ct36 : Value}
    {f37 : Addr} {od37 an37 : Option Addr} {sl37 : Array (Option Value)} {oc37 kV37 dc37 pm37 cd37 ct37 : Value}
    {f38 : Addr} {od38 an38 : Option Addr} {sl38 : Array (Option Value)} {oc38 kV38 dc38 pm38 cd38 ct38 : Value}
    {f39 : Addr} {od39 an39 : Option Addr} {sl39 : Array (Option Value)} {oc39 kV39 dc39 pm39 cd39 ct39 : Value}
    {f40 : Addr} {od40 an40 : Option Addr} {sl40 : Array (Option Value)} {oc40 kV40 dc40 pm40 cd40 ct40 : Value}
    {f41 : Addr} {od41 an41 : Option Addr} {sl41 : Array (Option Value)} {oc41 kV41 dc41 pm41 cd41 ct41 : Value}
    {f42 : Addr} {od42 an42 : Option Addr} {sl42 : Array (Option Value)} {oc42 kV42 dc42 pm42 cd42 ct42 : Value}
    {f43 : Addr} {od43 an43 : Option Addr} {sl43 : Array (Option Value)} {oc43 kV43 dc43 pm43 cd43 ct43 : Value}
    {f44 : Addr} {od44 an44 : Option Addr} {sl44 : Array (Option Value)} {oc44 kV44 dc44 pm44 cd44 ct44 : Value}
    {f45 : Addr} {od45 an45 : Option Addr} {sl45 : Array (Option Value)} {oc45 kV45 dc45 pm45 cd45 ct45 : Value}
    {fL : Addr} {odL anL : Option Addr} {slL : Array (Option Value)} {ocL kVL dcL pmL cdL ctL : Value}
    {C fI T0 e0 aDD : Addr} {odI anI odT odE odD : Option Addr} {slI slT slE slD : Array (Option Value)} {ocI ocT kVI dcI pmI cdI ctI : Value} {nT nE nD : Nat} {tS tR t1 t2 t3 t4 : Tok}
    {fE : Addr} {odQ anQ : Option Addr} {slQ : Array (Option Value)} {ocQ kVQ dcQ pmQ cdQ ctQ : Value}
    {aW nW aV nV : Nat} {hw1 hw2 hw3 : Int} {kw1 kw2 kw3 vw1 vw2 vw3 kv1 kv2 kv3 vv1 vv2 vv3 : Tok}
    (na1 : PySem.W.nsIn K mainGlobals "is_integer" = some (some (.ref f1)))
    (lk1 : K.lookup f1 = some ⟨oc1, od1, .func (PySem.W.fnOf "is_integer" "is_integer" (defArgs sInteger) (defBody sInteger) (defScope sInteger) .none kV1 dc1 pm1 an1 cd1 ct1), sl1⟩)
    (co1 : PySem.W.codeIn K cd1 "is_integer" = true)
    (ke1 : PySem.W.keepIn K (.ref f1) = true)
    (na2 : PySem.W.nsIn K mainGlobals "is_between" = some (some (.ref f2)))
    (lk2 : K.lookup f2 = some ⟨oc2, od2, .func (PySem.W.fnOf "is_between" "is_between" (defArgs sBetween) (defBody sBetween) (defScope sBetween) .none kV2 dc2 pm2 an2 cd2 ct2), sl2⟩)
    (co2 : PySem.W.codeIn K cd2 "is_between" = true)
    (ke2 : PySem.W.keepIn K (.ref f2) = true)
    (na3 : PySem.W.nsIn K mainGlobals "is_sequence" = some (some (.ref f3)))
    (lk3 : K.lookup f3 = some ⟨oc3, od3, .func (PySem.W.fnOf "is_sequence" "is_sequence" (defArgs sSequence) (defBody sSequence) (defScope sSequence) .none kV3 dc3 pm3 an3 cd3 ct3), sl3⟩)
    (co3 : PySem.W.codeIn K cd3 "is_sequence" = true)
    (ke3 : PySem.W.keepIn K (.ref f3) = true)
    (na4 : PySem.W.nsIn K mainGlobals "is_row" = some (some (.ref f4)))
    (lk4 : K.lookup f4 = some ⟨oc4, od4, .func (PySem.W.fnOf "is_row" "is_row" (defArgs sRow) (defBody sRow) (defScope sRow) .none kV4 dc4 pm4 an4 cd4 ct4), sl4⟩)
    (co4 : PySem.W.codeIn K cd4 "is_row" = true)
    (ke4 : PySem.W.keepIn K (.ref f4) = true)
    (na5 : PySem.W.nsIn K mainGlobals "are_letters" = some (some (.ref f5)))
    (lk5 : K.lookup f5 = some ⟨oc5, od5, .func (PySem.W.fnOf "are_letters" "are_letters" (defArgs sLetters) (defBody sLetters) (defScope sLetters) .none kV5 dc5 pm5 an5 cd5 ct5), sl5⟩)
    (co5 : PySem.W.codeIn K cd5 "are_letters" = true)
    (ke5 : PySem.W.keepIn K (.ref f5) = true)
    (na6 : PySem.W.nsIn K mainGlobals "is_alphabet" = some (some (.ref f6)))
    (lk6 : K.lookup f6 = some ⟨oc6, od6, .func (PySem.W.fnOf "is_alphabet" "is_alphabet" (defArgs sAlphabet) (defBody sAlphabet) (defScope sAlphabet) .none kV6 dc6 pm6 an6 cd6 ct6), sl6⟩)
    (co6 : PySem.W.codeIn K cd6 "is_alphabet" = true)
    (ke6 : PySem.W.keepIn K (.ref f6) = true)
    (na7 : PySem.W.nsIn K mainGlobals "is_symbol_mark" = some (some (.ref f7)))
    (lk7 : K.lookup f7 = some ⟨oc7, od7, .func (PySem.W.fnOf "is_symbol_mark" "is_symbol_mark" (defArgs sMark) (defBody sMark) (defScope sMark) .none kV7 dc7 pm7 an7 cd7 ct7), sl7⟩)
    (co7 : PySem.W.codeIn K cd7 "is_symbol_mark" = true)
    (ke7 : PySem.W.keepIn K (.ref f7) = true)
    (na8 : PySem.W.nsIn K mainGlobals "is_symbol" = some (some (.ref f8)))
    (lk8 : K.lookup f8 = some ⟨oc8, od8, .func (PySem.W.fnOf "is_symbol" "is_symbol" (defArgs sSymbol) (defBody sSymbol) (defScope sSymbol) .none kV8 dc8 pm8 an8 cd8 ct8), sl8⟩)
    (co8 : PySem.W.codeIn K cd8 "is_symbol" = true)
    (ke8 : PySem.W.keepIn K (.ref f8) = true)
    (na9 : PySem.W.nsIn K mainGlobals "is_sign" = some (some (.ref f9)))
    (lk9 : K.lookup f9 = some ⟨oc9, od9, .func (PySem.W.fnOf "is_sign" "is_sign" (defArgs sSign) (defBody sSign) (defScope sSign) .none kV9 dc9 pm9 an9 cd9 ct9), sl9⟩)
    (co9 : PySem.W.codeIn K cd9 "is_sign" = true)
    (ke9 : PySem.W.keepIn K (.ref f9) = true)
    (na10 : PySem.W.nsIn K mainGlobals "is_top" = some (some (.ref f10)))
    (lk10 : K.lookup f10 = some ⟨oc10, od10, .func (PySem.W.fnOf "is_top" "is_top" (defArgs sTop) (defBody sTop) (defScope sTop) .none kV10 dc10 pm10 an10 cd10 ct10), sl10⟩)
    (co10 : PySem.W.codeIn K cd10 "is_top" = true)
    (ke10 : PySem.W.keepIn K (.ref f10) = true)
    (na11 : PySem.W.nsIn K mainGlobals "is_move" = some (some (.ref f11)))
    (lk11 : K.lookup f11 = some ⟨oc11, od11, .func (PySem.W.fnOf "is_move" "is_move" (defArgs sMove) (defBody sMove) (defScope sMove) .none kV11 dc11 pm11 an11 cd11 ct11), sl11⟩)
    (co11 : PySem.W.codeIn K cd11 "is_move" = true)
    (ke11 : PySem.W.keepIn K (.ref f11) = true)
    (na12 : PySem.W.nsIn K mainGlobals "is_deed" = some (some (.ref f12)))
    (lk12 : K.lookup f12 = some ⟨oc12, od12, .func (PySem.W.fnOf "is_deed" "is_deed" (defArgs sDeed) (defBody sDeed) (defScope sDeed) .none kV12 dc12 pm12 an12 cd12 ct12), sl12⟩)
    (co12 : PySem.W.codeIn K cd12 "is_deed" = true)
    (ke12 : PySem.W.keepIn K (.ref f12) = true)
    (na13 : PySem.W.nsIn K mainGlobals "is_state" = some (some (.ref f13)))
    (lk13 : K.lookup f13 = some ⟨oc13, od13, .func (PySem.W.fnOf "is_state" "is_state" (defArgs sState) (defBody sState) (defScope sState) .none kV13 dc13 pm13 an13 cd13 ct13), sl13⟩)
    (co13 : PySem.W.codeIn K cd13 "is_state" = true)
    (ke13 : PySem.W.keepIn K (.ref f13) = true)
    (na14 : PySem.W.nsIn K mainGlobals "is_rule" = some (some (.ref f14)))
    (lk14 : K.lookup f14 = some ⟨oc14, od14, .func (PySem.W.fnOf "is_rule" "is_rule" (defArgs sRule) (defBody sRule) (defScope sRule) .none kV14 dc14 pm14 an14 cd14 ct14), sl14⟩)
    (co14 : PySem.W.codeIn K cd14 "is_rule" = true)
    (ke14 : PySem.W.keepIn K (.ref f14) = true)
    (na15 : PySem.W.nsIn K mainGlobals "check_arguments" = some (some (.ref f15)))
    (lk15 : K.lookup f15 = some ⟨oc15, od15, .func (PySem.W.fnOf "check_arguments" "check_arguments" (defArgs sCheck) (defBody sCheck) (defScope sCheck) .none kV15 dc15 pm15 an15 cd15 ct15), sl15⟩)
    (co15 : PySem.W.codeIn K cd15 "check_arguments" = true)
    (ke15 : PySem.W.keepIn K (.ref f15) = true)
    (na16 : PySem.W.nsIn K mainGlobals "symbols_of" = some (some (.ref f16)))
    (lk16 : K.lookup f16 = some ⟨oc16, od16, .func (PySem.W.fnOf "symbols_of" "symbols_of" (defArgs sSymbols) (defBody sSymbols) (defScope sSymbols) .none kV16 dc16 pm16 an16 cd16 ct16), sl16⟩)
    (co16 : PySem.W.codeIn K cd16 "symbols_of" = true)
    (ke16 : PySem.W.keepIn K (.ref f16) = true)
    (na17 : PySem.W.nsIn K mainGlobals "acts_by_key" = some (some (.ref f17)))
    (lk17 : K.lookup f17 = some ⟨oc17, od17, .func (PySem.W.fnOf "acts_by_key" "acts_by_key" (defArgs sActs) (defBody sActs) (defScope sActs) .none kV17 dc17 pm17 an17 cd17 ct17), sl17⟩)
    (co17 : PySem.W.codeIn K cd17 "acts_by_key" = true)
    (ke17 : PySem.W.keepIn K (.ref f17) = true)
    (na18 : PySem.W.nsIn K mainGlobals "first_guess" = some (some (.ref f18)))
    (lk18 : K.lookup f18 = some ⟨oc18, od18, .func (PySem.W.fnOf "first_guess" "first_guess" (defArgs sGuess) (defBody sGuess) (defScope sGuess) .none kV18 dc18 pm18 an18 cd18 ct18), sl18⟩)
    (co18 : PySem.W.codeIn K cd18 "first_guess" = true)
    (ke18 : PySem.W.keepIn K (.ref f18) = true)
    (na19 : PySem.W.nsIn K mainGlobals "rule_line" = some (some (.ref f19)))
    (lk19 : K.lookup f19 = some ⟨oc19, od19, .func (PySem.W.fnOf "rule_line" "rule_line" (defArgs sRuleLine) (defBody sRuleLine) (defScope sRuleLine) .none kV19 dc19 pm19 an19 cd19 ct19), sl19⟩)
    (co19 : PySem.W.codeIn K cd19 "rule_line" = true)
    (ke19 : PySem.W.keepIn K (.ref f19) = true)
    (na20 : PySem.W.nsIn K mainGlobals "write_machine" = some (some (.ref f20)))
    (lk20 : K.lookup f20 = some ⟨oc20, od20, .func (PySem.W.fnOf "write_machine" "write_machine" (defArgs sWrite) (defBody sWrite) (defScope sWrite) .none kV20 dc20 pm20 an20 cd20 ct20), sl20⟩)
    (co20 : PySem.W.codeIn K cd20 "write_machine" = true)
    (ke20 : PySem.W.keepIn K (.ref f20) = true)
    (na21 : PySem.W.nsIn K mainGlobals "lines_of" = some (some (.ref f21)))
    (lk21 : K.lookup f21 = some ⟨oc21, od21, .func (PySem.W.fnOf "lines_of" "lines_of" (defArgs sLinesOf) (defBody sLinesOf) (defScope sLinesOf) .none kV21 dc21 pm21 an21 cd21 ct21), sl21⟩)
    (co21 : PySem.W.codeIn K cd21 "lines_of" = true)
    (ke21 : PySem.W.keepIn K (.ref f21) = true)
    (na22 : PySem.W.nsIn K mainGlobals "number_of" = some (some (.ref f22)))
    (lk22 : K.lookup f22 = some ⟨oc22, od22, .func (PySem.W.fnOf "number_of" "number_of" (defArgs sNumber) (defBody sNumber) (defScope sNumber) .none kV22 dc22 pm22 an22 cd22 ct22), sl22⟩)
    (co22 : PySem.W.codeIn K cd22 "number_of" = true)
    (ke22 : PySem.W.keepIn K (.ref f22) = true)
    (na23 : PySem.W.nsIn K mainGlobals "words_after" = some (some (.ref f23)))
    (lk23 : K.lookup f23 = some ⟨oc23, od23, .func (PySem.W.fnOf "words_after" "words_after" (defArgs sAfter) (defBody sAfter) (defScope sAfter) .none kV23 dc23 pm23 an23 cd23 ct23), sl23⟩)
    (co23 : PySem.W.codeIn K cd23 "words_after" = true)
    (ke23 : PySem.W.keepIn K (.ref f23) = true)
    (na24 : PySem.W.nsIn K mainGlobals "read_letters" = some (some (.ref f24)))
    (lk24 : K.lookup f24 = some ⟨oc24, od24, .func (PySem.W.fnOf "read_letters" "read_letters" (defArgs sRLetters) (defBody sRLetters) (defScope sRLetters) .none kV24 dc24 pm24 an24 cd24 ct24), sl24⟩)
    (co24 : PySem.W.codeIn K cd24 "read_letters" = true)
    (ke24 : PySem.W.keepIn K (.ref f24) = true)
    (na25 : PySem.W.nsIn K mainGlobals "read_states" = some (some (.ref f25)))
    (lk25 : K.lookup f25 = some ⟨oc25, od25, .func (PySem.W.fnOf "read_states" "read_states" (defArgs sRStates) (defBody sRStates) (defScope sRStates) .none kV25 dc25 pm25 an25 cd25 ct25), sl25⟩)
    (co25 : PySem.W.codeIn K cd25 "read_states" = true)
    (ke25 : PySem.W.keepIn K (.ref f25) = true)
    (na26 : PySem.W.nsIn K mainGlobals "read_yes" = some (some (.ref f26)))
    (lk26 : K.lookup f26 = some ⟨oc26, od26, .func (PySem.W.fnOf "read_yes" "read_yes" (defArgs sRYes) (defBody sRYes) (defScope sRYes) .none kV26 dc26 pm26 an26 cd26 ct26), sl26⟩)
    (co26 : PySem.W.codeIn K cd26 "read_yes" = true)
    (ke26 : PySem.W.keepIn K (.ref f26) = true)
    (na27 : PySem.W.nsIn K mainGlobals "top_of_word" = some (some (.ref f27)))
    (lk27 : K.lookup f27 = some ⟨oc27, od27, .func (PySem.W.fnOf "top_of_word" "top_of_word" (defArgs sTopWord) (defBody sTopWord) (defScope sTopWord) .none kV27 dc27 pm27 an27 cd27 ct27), sl27⟩)
    (co27 : PySem.W.codeIn K cd27 "top_of_word" = true)
    (ke27 : PySem.W.keepIn K (.ref f27) = true)
    (na28 : PySem.W.nsIn K mainGlobals "said_of_words" = some (some (.ref f28)))
    (lk28 : K.lookup f28 = some ⟨oc28, od28, .func (PySem.W.fnOf "said_of_words" "said_of_words" (defArgs sSaid) (defBody sSaid) (defScope sSaid) .none kV28 dc28 pm28 an28 cd28 ct28), sl28⟩)
    (co28 : PySem.W.codeIn K cd28 "said_of_words" = true)
    (ke28 : PySem.W.keepIn K (.ref f28) = true)
    (na29 : PySem.W.nsIn K mainGlobals "rule_of_line" = some (some (.ref f29)))
    (lk29 : K.lookup f29 = some ⟨oc29, od29, .func (PySem.W.fnOf "rule_of_line" "rule_of_line" (defArgs sOfLine) (defBody sOfLine) (defScope sOfLine) .none kV29 dc29 pm29 an29 cd29 ct29), sl29⟩)
    (co29 : PySem.W.codeIn K cd29 "rule_of_line" = true)
    (ke29 : PySem.W.keepIn K (.ref f29) = true)
    (na30 : PySem.W.nsIn K mainGlobals "read_machine" = some (some (.ref f30)))
    (lk30 : K.lookup f30 = some ⟨oc30, od30, .func (PySem.W.fnOf "read_machine" "read_machine" (defArgs sRead) (defBody sRead) (defScope sRead) .none kV30 dc30 pm30 an30 cd30 ct30), sl30⟩)
    (co30 : PySem.W.codeIn K cd30 "read_machine" = true)
    (ke30 : PySem.W.keepIn K (.ref f30) = true)
    (na31 : PySem.W.nsIn K mainGlobals "_law_whole" = some (some (.ref f31)))
    (lk31 : K.lookup f31 = some ⟨oc31, od31, .func (PySem.W.fnOf "_law_whole" "_law_whole" (defArgs sWhole) (defBody sWhole) (defScope sWhole) .none kV31 dc31 pm31 an31 cd31 ct31), sl31⟩)
    (co31 : PySem.W.codeIn K cd31 "_law_whole" = true)
    (ke31 : PySem.W.keepIn K (.ref f31) = true)
    (na32 : PySem.W.nsIn K mainGlobals "_law_same" = some (some (.ref f32)))
    (lk32 : K.lookup f32 = some ⟨oc32, od32, .func (PySem.W.fnOf "_law_same" "_law_same" (defArgs sSame) (defBody sSame) (defScope sSame) .none kV32 dc32 pm32 an32 cd32 ct32), sl32⟩)
    (co32 : PySem.W.codeIn K cd32 "_law_same" = true)
    (ke32 : PySem.W.keepIn K (.ref f32) = true)
    (na33 : PySem.W.nsIn K mainGlobals "_law_cell" = some (some (.ref f33)))
    (lk33 : K.lookup f33 = some ⟨oc33, od33, .func (PySem.W.fnOf "_law_cell" "_law_cell" (defArgs sCell) (defBody sCell) (defScope sCell) .none kV33 dc33 pm33 an33 cd33 ct33), sl33⟩)
    (co33 : PySem.W.codeIn K cd33 "_law_cell" = true)
    (ke33 : PySem.W.keepIn K (.ref f33) = true)
    (na34 : PySem.W.nsIn K mainGlobals "_law_digits" = some (some (.ref f34)))
    (lk34 : K.lookup f34 = some ⟨oc34, od34, .func (PySem.W.fnOf "_law_digits" "_law_digits" (defArgs sDigits) (defBody sDigits) (defScope sDigits) .none kV34 dc34 pm34 an34 cd34 ct34), sl34⟩)
    (co34 : PySem.W.codeIn K cd34 "_law_digits" = true)
    (ke34 : PySem.W.keepIn K (.ref f34) = true)
    (na35 : PySem.W.nsIn K mainGlobals "_law_any_letters" = some (some (.ref f35)))
    (lk35 : K.lookup f35 = some ⟨oc35, od35, .func (PySem.W.fnOf "_law_any_letters" "_law_any_letters" (defArgs sAny) (defBody sAny) (defScope sAny) .none kV35 dc35 pm35 an35 cd35 ct35), sl35⟩)
    (co35 : PySem.W.codeIn K cd35 "_law_any_letters" = true)
    (ke35 : PySem.W.keepIn K (.ref f35) = true)
    (na36 : PySem.W.nsIn K mainGlobals "_law_symbol" = some (some (.ref f36)))
    (lk36 : K.lookup f36 = some ⟨oc36, od36, .func (PySem.W.fnOf "_law_symbol" "_law_symbol" (defArgs sSym) (defBody sSym) (defScope sSym) .none kV36 dc36 pm36 an36 cd36 ct36), sl36⟩)
    (co36 : PySem.W.codeIn K cd36 "_law_symbol" = true)
    (ke36 : PySem.W.keepIn K (.ref f36) = true)
    (na37 : PySem.W.nsIn K mainGlobals "_law_pool" = some (some (.ref f37)))
    (lk37 : K.lookup f37 = some ⟨oc37, od37, .func (PySem.W.fnOf "_law_pool" "_law_pool" (defArgs sPool) (defBody sPool) (defScope sPool) .none kV37 dc37 pm37 an37 cd37 ct37), sl37⟩)
    (co37 : PySem.W.codeIn K cd37 "_law_pool" = true)
    (ke37 : PySem.W.keepIn K (.ref f37) = true)
    (na38 : PySem.W.nsIn K mainGlobals "_law_rule" = some (some (.ref f38)))
    (lk38 : K.lookup f38 = some ⟨oc38, od38, .func (PySem.W.fnOf "_law_rule" "_law_rule" (defArgs sLRule) (defBody sLRule) (defScope sLRule) .none kV38 dc38 pm38 an38 cd38 ct38), sl38⟩)
    (co38 : PySem.W.codeIn K cd38 "_law_rule" = true)
    (ke38 : PySem.W.keepIn K (.ref f38) = true)
    (na39 : PySem.W.nsIn K mainGlobals "_law_rules" = some (some (.ref f39)))
    (lk39 : K.lookup f39 = some ⟨oc39, od39, .func (PySem.W.fnOf "_law_rules" "_law_rules" (defArgs sLRules) (defBody sLRules) (defScope sLRules) .none kV39 dc39 pm39 an39 cd39 ct39), sl39⟩)
    (co39 : PySem.W.codeIn K cd39 "_law_rules" = true)
    (ke39 : PySem.W.keepIn K (.ref f39) = true)
    (na40 : PySem.W.nsIn K mainGlobals "_law_yes" = some (some (.ref f40)))
    (lk40 : K.lookup f40 = some ⟨oc40, od40, .func (PySem.W.fnOf "_law_yes" "_law_yes" (defArgs sYes) (defBody sYes) (defScope sYes) .none kV40 dc40 pm40 an40 cd40 ct40), sl40⟩)
    (co40 : PySem.W.codeIn K cd40 "_law_yes" = true)
    (ke40 : PySem.W.keepIn K (.ref f40) = true)
    (na41 : PySem.W.nsIn K mainGlobals "_law_each_once" = some (some (.ref f41)))
    (lk41 : K.lookup f41 = some ⟨oc41, od41, .func (PySem.W.fnOf "_law_each_once" "_law_each_once" (defArgs sOnce) (defBody sOnce) (defScope sOnce) .none kV41 dc41 pm41 an41 cd41 ct41), sl41⟩)
    (co41 : PySem.W.codeIn K cd41 "_law_each_once" = true)
    (ke41 : PySem.W.keepIn K (.ref f41) = true)
    (na42 : PySem.W.nsIn K mainGlobals "_law_due" = some (some (.ref f42)))
    (lk42 : K.lookup f42 = some ⟨oc42, od42, .func (PySem.W.fnOf "_law_due" "_law_due" (defArgs sDue) (defBody sDue) (defScope sDue) .none kV42 dc42 pm42 an42 cd42 ct42), sl42⟩)
    (co42 : PySem.W.codeIn K cd42 "_law_due" = true)
    (ke42 : PySem.W.keepIn K (.ref f42) = true)
    (na43 : PySem.W.nsIn K mainGlobals "_law_fields" = some (some (.ref f43)))
    (lk43 : K.lookup f43 = some ⟨oc43, od43, .func (PySem.W.fnOf "_law_fields" "_law_fields" (defArgs sFields) (defBody sFields) (defScope sFields) .none kV43 dc43 pm43 an43 cd43 ct43), sl43⟩)
    (co43 : PySem.W.codeIn K cd43 "_law_fields" = true)
    (ke43 : PySem.W.keepIn K (.ref f43) = true)
    (na44 : PySem.W.nsIn K mainGlobals "_law_line" = some (some (.ref f44)))
    (lk44 : K.lookup f44 = some ⟨oc44, od44, .func (PySem.W.fnOf "_law_line" "_law_line" (defArgs sLine) (defBody sLine) (defScope sLine) .none kV44 dc44 pm44 an44 cd44 ct44), sl44⟩)
    (co44 : PySem.W.codeIn K cd44 "_law_line" = true)
    (ke44 : PySem.W.keepIn K (.ref f44) = true)
    (na45 : PySem.W.nsIn K mainGlobals "_law_heads" = some (some (.ref f45)))
    (lk45 : K.lookup f45 = some ⟨oc45, od45, .func (PySem.W.fnOf "_law_heads" "_law_heads" (defArgs sHeads) (defBody sHeads) (defScope sHeads) .none kV45 dc45 pm45 an45 cd45 ct45), sl45⟩)
    (co45 : PySem.W.codeIn K cd45 "_law_heads" = true)
    (ke45 : PySem.W.keepIn K (.ref f45) = true)
    (naL : PySem.W.nsIn K mainGlobals "law" = some (some (.ref fL)))
    (lkL : K.lookup fL = some ⟨ocL, odL, .func (PySem.W.fnOf "law" "law" (defArgs sLaw) (defBody sLaw) (defScope sLaw) .none kVL dcL pmL anL cdL ctL), slL⟩)
    (coL : PySem.W.codeIn K cdL "law" = true)
    (keL : PySem.W.keepIn K (.ref fL) = true)
    (nC : PySem.W.nsIn K mainGlobals "Machine" = some (some (.ref C)))
    (c1 : PySem.W.plainGet K C Str.empty = true)
    (c2 : PySem.W.hasDictIn K C = true)
    (c3 : PySem.W.plainOver K C = true)
    (c4 : PySem.W.findIn K (.ref C) "__setattr__" = some (some (.builtin "object.__setattr__")))
    (no0 : PySem.W.findIn K (.ref C) "letters" = some none)
    (no1 : PySem.W.findIn K (.ref C) "states" = some none)
    (no2 : PySem.W.findIn K (.ref C) "rules" = some none)
    (no3 : PySem.W.findIn K (.ref C) "yes" = some none)
    (no4 : PySem.W.findIn K (.ref C) "symbols" = some none)
    (no5 : PySem.W.findIn K (.ref C) "_acts" = some none)
    (no6 : PySem.W.findIn K (.ref C) "guess" = some none)
    (mk1 : PySem.W.makesIn K C = true)
    (mk2 : PySem.W.findIn K (.ref C) "__init__" = some (some (.ref fI)))
    (mk3 : PySem.W.isFn K (.ref fI) = true)
    (mk4 : PySem.W.keepIn K (.ref C) = true)
    (lI : K.lookup fI = some ⟨ocI, odI, .func (PySem.W.fnOf "__init__" "Machine.__init__" (defArgs sInit) (defBody sInit) (defScope sInit) (.ref T0) kVI dcI pmI anI cdI ctI), slI⟩)
    (cI : PySem.W.codeIn K cdI "Machine.__init__" = true)
    (kI : PySem.W.keepIn K (.ref fI) = true)
    (lT : K.lookup T0 = some ⟨ocT, odT, .seq #[.ref e0] nT, slT⟩)
    (lE : K.lookup e0 = some ⟨.type "tuple", odE, .seq #[] nE, slE⟩)
    (nDD : PySem.W.nsIn K mainGlobals "DEEDS" = some (some (.ref aDD)))
    (lD : K.lookup aDD = some ⟨.type "tuple", odD, .seq #[.str "keep" t1, .str "pop" t2, .str "push" t3, .str "swap" t4] nD, slD⟩)
    (mS : PySem.W.nsIn K mainGlobals "MOST_STATES" = some (some (.int 2000 tS)))
    (mR : PySem.W.nsIn K mainGlobals "MOST_RULES" = some (some (.int 20000 tR)))
    (z_isinstance : PySem.W.nsIn K mainGlobals "isinstance" = some none)
    (z_int : PySem.W.nsIn K mainGlobals "int" = some none)
    (z_bool : PySem.W.nsIn K mainGlobals "bool" = some none)
    (z_str : PySem.W.nsIn K mainGlobals "str" = some none)
    (z_tuple : PySem.W.nsIn K mainGlobals "tuple" = some none)
    (z_list : PySem.W.nsIn K mainGlobals "list" = some none)
    (z_len : PySem.W.nsIn K mainGlobals "len" = some none)
    (z_range : PySem.W.nsIn K mainGlobals "range" = some none)
    (z_all : PySem.W.nsIn K mainGlobals "all" = some none)
    (z_sorted : PySem.W.nsIn K mainGlobals "sorted" = some none)
    (z_set : PySem.W.nsIn K mainGlobals "set" = some none)
    (z_abs : PySem.W.nsIn K mainGlobals "abs" = some none)
    (me1 : PySem.W.findIn K (.ref C) "__eq__" = some (some (.ref fE)))
    (me2 : PySem.W.isFn K (.ref fE) = true)
    (me3 : PySem.W.keepIn K (.ref fE) = true)
    (lQ : K.lookup fE = some ⟨ocQ, odQ, .func (PySem.W.fnOf "__eq__" "Machine.__eq__" (defArgs sEqM) (defBody sEqM) (defScope sEqM) .none kVQ dcQ pmQ anQ cdQ ctQ), slQ⟩)
    (cQ : PySem.W.codeIn K cdQ "Machine.__eq__" = true)
    (ic1 : PySem.W.findIn K (.ref C) "__class__" = some (some (.builtin "object.__class__")))
    (ic2 : PySem.W.specialIn K (.builtin "object.__class__") "__get__" = some (some (.builtin "getset_descriptor.__get__")))
    (ic3 : PySem.W.takesIn K (.builtin "object.__class__") = some true)
    (ic4 : PySem.W.mroIn K C (.type "object") = some true)
    (nW1 : PySem.W.nsIn K mainGlobals "MOVE_WORDS" = some (some (.ref aW)))
    (lW : K.lookup aW = some ⟨.type "dict", none, .dict #[⟨hw1, .int (-1) kw1, .str "left" vw1⟩, ⟨hw2, .int 0 kw2, .str "stay" vw2⟩, ⟨hw3, .int 1 kw3, .str "right" vw3⟩] nW, #[]⟩)
    (xw1 : hw1 = hashInt (-1))
    (xw2 : hw2 = hashInt 0)
    (xw3 : hw3 = hashInt 1)
    (nV1 : PySem.W.nsIn K mainGlobals "MOVES" = some (some (.ref aV)))
    (lV : K.lookup aV = some ⟨.type "dict", none, .dict #[⟨PyData.keyHash w.params "left", .str "left" kv1, .int (-1) vv1⟩, ⟨PyData.keyHash w.params "stay", .str "stay" kv2, .int 0 vv2⟩, ⟨PyData.keyHash w.params "right", .str "right" kv3, .int 1 vv3⟩] nV, #[]⟩)
    (xlow : (aV == sysModules) = false)
    (nm1 : PySem.W.nsIn K aV "left" = some (some (.int (-1) vv1)))
    (nm2 : PySem.W.nsIn K aV "stay" = some (some (.int 0 vv2)))
    (nm3 : PySem.W.nsIn K aV "right" = some (some (.int 1 vv3))) :
    ∃ fd : FuncData, (∀ (s : Shared) (v : Value), BindsTo s fd ⟨[v], []⟩ [("script", v)]) ∧ ∀ base : Heap, K.In base → base.Ns mainGlobals mg → FnOk l.prog w K mg base CX0 9 fa fd ["script"] (spLaw K) := by
  have e := hfa.symm.trans (PySem.W.mg_of X G naL)
  cases e
  have T : TM mg := ⟨PySem.W.mg_none_of X G z_isinstance, PySem.W.mg_none_of X G z_int, PySem.W.mg_none_of X G z_bool, PySem.W.mg_none_of X G z_str, PySem.W.mg_none_of X G z_tuple, PySem.W.mg_none_of X G z_list, PySem.W.mg_none_of X G z_len, PySem.W.mg_none_of X G z_range, PySem.W.mg_none_of X G z_all, PySem.W.mg_none_of X G z_sorted, PySem.W.mg_none_of X G z_set, PySem.W.mg_none_of X G z_abs⟩
  have m : ∀ {x : Str} {v : Value}, PySem.W.nsIn K mainGlobals x = some (some v) → mg x = some v := fun q => PySem.W.mg_of X G q
  have D : Deeds K mg := ⟨aDD, m nDD, fun H => .inr ⟨_, _, _, lD, rfl, rfl, (by show 4 ≤ sizeLine; decide), .cons ⟨_, rfl⟩ (.cons ⟨_, rfl⟩ (.cons ⟨_, rfl⟩ (.cons ⟨_, rfl⟩ .nil)))⟩⟩
  have FI : FunD K "__init__" "Machine.__init__" (defArgs sInit) (defBody sInit) (defScope sInit) [.ref e0] [] fI _ := ⟨⟨ocI, odI, .ref T0, kVI, dcI, pmI, anI, cdI, ctI, slI, rfl, lI, cI, .inr ⟨List.cons_ne_nil _ _, T0, _, [.ref e0], nT, rfl, lT, rfl, .cons rfl .nil⟩, .inl rfl⟩, kI⟩
  have MC : MCls K C := ⟨⟨c1, c2, c3, c4⟩, no0, no1, no2, no3, no4, no5, no6⟩
  have MM : L2.Mk K C fI := ⟨mk1, mk2, mk3, mk4⟩
  obtain ⟨ds4, v4, b4⟩ := FI.binds1 (ps := ["self", "letters", "states", "rules", "yes"]) 5 1 (List.cons_ne_nil _ _) rfl fun T kV doc pm an cdv ct us its h1 h2 => match us, its, h1, h2 with | [_, _, _, _, _], [_], _, _ => ⟨_, rfl, rfl⟩
  have e4 : ds4 = [] := by cases v4; rfl
  subst e4
  obtain ⟨ds3, v3, b3⟩ := FI.binds1 (ps := ["self", "letters", "states", "rules", "yes"]) 4 0 (List.cons_ne_nil _ _) rfl fun T kV doc pm an cdv ct us its h1 h2 => match us, its, h1, h2 with | [_, _, _, _], [_], _, _ => ⟨_, rfl, rfl⟩
  obtain ⟨its, kb⟩ := FI.kbindsD (ps := ["self", "letters", "states", "rules", "yes"]) 4 ["yes"] (fun vs _ zs => vs ++ zs) (List.cons_ne_nil _ _) (fun a _ c => a.append c) fun T kV doc pm an cdv ct us its ws h1 h2 h3 => match us, its, ws, h1, h2, h3 with | [_, _, _, _], [_], [_], _, _, _ => ⟨_, rfl, rfl⟩
  have F1 := fun_mk (st := sInteger) lk1 co1 ke1
  have b_1 := F1.binds (ps := ["value"]) fun _ _ _ _ _ _ us hl => match us, hl with | [_], _ => rfl
  have F2 := fun_mk (st := sBetween) lk2 co2 ke2
  have b_2 := F2.binds (ps := ["value", "least", "most"]) fun _ _ _ _ _ _ us hl => match us, hl with | [_, _, _], _ => rfl
  have F3 := fun_mk (st := sSequence) lk3 co3 ke3
  have b_3 := F3.binds (ps := ["value"]) fun _ _ _ _ _ _ us hl => match us, hl with | [_], _ => rfl
  have F4 := fun_mk (st := sRow) lk4 co4 ke4
  have b_4 := F4.binds (ps := ["value", "length"]) fun _ _ _ _ _ _ us hl => match us, hl with | [_, _], _ => rfl
  have F5 := fun_mk (st := sLetters) lk5 co5 ke5
  have b_5 := F5.binds (ps := ["value", "most"]) fun _ _ _ _ _ _ us hl => match us, hl with | [_, _], _ => rfl
  have F6 := fun_mk (st := sAlphabet) lk6 co6 ke6
  have b_6 := F6.binds (ps := ["value"]) fun _ _ _ _ _ _ us hl => match us, hl with | [_], _ => rfl
  have F7 := fun_mk (st := sMark) lk7 co7 ke7
  have b_7 := F7.binds (ps := ["mark"]) fun _ _ _ _ _ _ us hl => match us, hl with | [_], _ => rfl
  have F8 := fun_mk (st := sSymbol) lk8 co8 ke8
  have b_8 := F8.binds (ps := ["value"]) fun _ _ _ _ _ _ us hl => match us, hl with | [_], _ => rfl
  have F9 := fun_mk (st := sSign) lk9 co9 ke9
  have b_9 := F9.binds (ps := ["letters", "value"]) fun _ _ _ _ _ _ us hl => match us, hl with | [_, _], _ => rfl
  have F10 := fun_mk (st := sTop) lk10 co10 ke10
  have b_10 := F10.binds (ps := ["value"]) fun _ _ _ _ _ _ us hl => match us, hl with | [_], _ => rfl
  have F11 := fun_mk (st := sMove) lk11 co11 ke11
  have b_11 := F11.binds (ps := ["sign", "value"]) fun _ _ _ _ _ _ us hl => match us, hl with | [_, _], _ => rfl
  have F12 := fun_mk (st := sDeed) lk12 co12 ke12
  have b_12 := F12.binds (ps := ["top", "deed", "symbol"]) fun _ _ _ _ _ _ us hl => match us, hl with | [_, _, _], _ => rfl
  have F13 := fun_mk (st := sState) lk13 co13 ke13
  have b_13 := F13.binds (ps := ["states", "value"]) fun _ _ _ _ _ _ us hl => match us, hl with | [_, _], _ => rfl
  have F14 := fun_mk (st := sRule) lk14 co14 ke14
  have b_14 := F14.binds (ps := ["letters", "states", "value"]) fun _ _ _ _ _ _ us hl => match us, hl with | [_, _, _], _ => rfl
  have F15 := fun_mk (st := sCheck) lk15 co15 ke15
  have b_15 := F15.binds (ps := ["letters", "states", "rules", "yes"]) fun _ _ _ _ _ _ us hl => match us, hl with | [_, _, _, _], _ => rfl
  have F16 := fun_mk (st := sSymbols) lk16 co16 ke16
  have b_16 := F16.binds (ps := ["rules"]) fun _ _ _ _ _ _ us hl => match us, hl with | [_], _ => rfl
  have F17 := fun_mk (st := sActs) lk17 co17 ke17
  have b_17 := F17.binds (ps := ["rules"]) fun _ _ _ _ _ _ us hl => match us, hl with | [_], _ => rfl
  have F18 := fun_mk (st := sGuess) lk18 co18 ke18
  have b_18 := F18.binds (ps := ["acts"]) fun _ _ _ _ _ _ us hl => match us, hl with | [_], _ => rfl
  have F19 := fun_mk (st := sRuleLine) lk19 co19 ke19
  have b_19 := F19.binds (ps := ["rule"]) fun _ _ _ _ _ _ us hl => match us, hl with | [_], _ => rfl
  have F20 := fun_mk (st := sWrite) lk20 co20 ke20
  have b_20 := F20.binds (ps := ["machine"]) fun _ _ _ _ _ _ us hl => match us, hl with | [_], _ => rfl
  have F21 := fun_mk (st := sLinesOf) lk21 co21 ke21
  have b_21 := F21.binds (ps := ["text"]) fun _ _ _ _ _ _ us hl => match us, hl with | [_], _ => rfl
  have F22 := fun_mk (st := sNumber) lk22 co22 ke22
  have b_22 := F22.binds (ps := ["word"]) fun _ _ _ _ _ _ us hl => match us, hl with | [_], _ => rfl
  have F23 := fun_mk (st := sAfter) lk23 co23 ke23
  have b_23 := F23.binds (ps := ["lines", "index", "head"]) fun _ _ _ _ _ _ us hl => match us, hl with | [_, _, _], _ => rfl
  have F24 := fun_mk (st := sRLetters) lk24 co24 ke24
  have b_24 := F24.binds (ps := ["lines"]) fun _ _ _ _ _ _ us hl => match us, hl with | [_], _ => rfl
  have F25 := fun_mk (st := sRStates) lk25 co25 ke25
  have b_25 := F25.binds (ps := ["lines"]) fun _ _ _ _ _ _ us hl => match us, hl with | [_], _ => rfl
  have F26 := fun_mk (st := sRYes) lk26 co26 ke26
  have b_26 := F26.binds (ps := ["lines", "states"]) fun _ _ _ _ _ _ us hl => match us, hl with | [_, _], _ => rfl
  have F27 := fun_mk (st := sTopWord) lk27 co27 ke27
  have b_27 := F27.binds (ps := ["word"]) fun _ _ _ _ _ _ us hl => match us, hl with | [_], _ => rfl
  have F28 := fun_mk (st := sSaid) lk28 co28 ke28
  have b_28 := F28.binds (ps := ["words"]) fun _ _ _ _ _ _ us hl => match us, hl with | [_], _ => rfl
  have F29 := fun_mk (st := sOfLine) lk29 co29 ke29
  have b_29 := F29.binds (ps := ["line"]) fun _ _ _ _ _ _ us hl => match us, hl with | [_], _ => rfl
  have F30 := fun_mk (st := sRead) lk30 co30 ke30
  have b_30 := F30.binds (ps := ["text"]) fun _ _ _ _ _ _ us hl => match us, hl with | [_], _ => rfl
  have F31 := fun_mk (st := sWhole) lk31 co31 ke31
  have b_31 := F31.binds (ps := ["value"]) fun _ _ _ _ _ _ us hl => match us, hl with | [_], _ => rfl
  have F32 := fun_mk (st := sSame) lk32 co32 ke32
  have b_32 := F32.binds (ps := ["told", "due"]) fun _ _ _ _ _ _ us hl => match us, hl with | [_, _], _ => rfl
  have F33 := fun_mk (st := sCell) lk33 co33 ke33
  have b_33 := F33.binds (ps := ["script", "k"]) fun _ _ _ _ _ _ us hl => match us, hl with | [_, _], _ => rfl
  have F34 := fun_mk (st := sDigits) lk34 co34 ke34
  have b_34 := F34.binds (ps := ["cell", "sizes"]) fun _ _ _ _ _ _ us hl => match us, hl with | [_, _], _ => rfl
  have F35 := fun_mk (st := sAny) lk35 co35 ke35
  have b_35 := F35.binds (ps := ["cell"]) fun _ _ _ _ _ _ us hl => match us, hl with | [_], _ => rfl
  have F36 := fun_mk (st := sSym) lk36 co36 ke36
  have b_36 := F36.binds (ps := ["row"]) fun _ _ _ _ _ _ us hl => match us, hl with | [_], _ => rfl
  have F37 := fun_mk (st := sPool) lk37 co37 ke37
  have b_37 := F37.binds (ps := ["cell"]) fun _ _ _ _ _ _ us hl => match us, hl with | [_], _ => rfl
  have F38 := fun_mk (st := sLRule) lk38 co38 ke38
  have b_38 := F38.binds (ps := ["cell", "letters", "states", "pool", "before"]) fun _ _ _ _ _ _ us hl => match us, hl with | [_, _, _, _, _], _ => rfl
  have F39 := fun_mk (st := sLRules) lk39 co39 ke39
  have b_39 := F39.binds (ps := ["script", "at", "many", "letters", "states", "pool"]) fun _ _ _ _ _ _ us hl => match us, hl with | [_, _, _, _, _, _], _ => rfl
  have F40 := fun_mk (st := sYes) lk40 co40 ke40
  have b_40 := F40.binds (ps := ["cell", "states"]) fun _ _ _ _ _ _ us hl => match us, hl with | [_, _], _ => rfl
  have F41 := fun_mk (st := sOnce) lk41 co41 ke41
  have b_41 := F41.binds (ps := ["values"]) fun _ _ _ _ _ _ us hl => match us, hl with | [_], _ => rfl
  have F42 := fun_mk (st := sDue) lk42 co42 ke42
  have b_42 := F42.binds (ps := ["letters", "states", "rules", "yes"]) fun _ _ _ _ _ _ us hl => match us, hl with | [_, _, _, _], _ => rfl
  have F43 := fun_mk (st := sFields) lk43 co43 ke43
  have b_43 := F43.binds (ps := ["machine"]) fun _ _ _ _ _ _ us hl => match us, hl with | [_], _ => rfl
  have F44 := fun_mk (st := sLine) lk44 co44 ke44
  have b_44 := F44.binds (ps := ["rule"]) fun _ _ _ _ _ _ us hl => match us, hl with | [_], _ => rfl
  have F45 := fun_mk (st := sHeads) lk45 co45 ke45
  have b_45 := F45.binds (ps := ["letters", "states", "yes"]) fun _ _ _ _ _ _ us hl => match us, hl with | [_, _, _], _ => rfl
  have FL := fun_mk (st := sLaw) lkL coL keL
  refine ⟨PySem.W.fnOf "law" "law" (defArgs sLaw) (defBody sLaw) (defScope sLaw) .none kVL dcL pmL anL cdL ctL, fun s v => .of_eq rfl, fun base _ _ => ?_⟩
  have g_is_integer : Got l.prog w K mg base "is_integer" 1 ["value"] spInteger := ⟨_, _, ok_integer F1 T, ke1, b_1, m na1⟩
  have g_is_between : Got l.prog w K mg base "is_between" 2 ["value", "least", "most"] spBetween := ⟨_, _, ok_between F2 g_is_integer, ke2, b_2, m na2⟩
  have g_is_sequence : Got l.prog w K mg base "is_sequence" 1 ["value"] (spSequence K) := ⟨_, _, ok_sequence F3 T, ke3, b_3, m na3⟩
  have g_is_row : Got l.prog w K mg base "is_row" 2 ["value", "length"] (spRow K) := ⟨_, _, ok_row F4 T g_is_sequence, ke4, b_4, m na4⟩
  have g_are_letters : Got l.prog w K mg base "are_letters" 1 ["value", "most"] spLetters := ⟨_, _, ok_letters F5 T, ke5, b_5, m na5⟩
  have g_is_alphabet : Got l.prog w K mg base "is_alphabet" 2 ["value"] spAlphabet := ⟨_, _, ok_alphabet F6 T g_are_letters, ke6, b_6, m na6⟩
  have g_is_symbol_mark : Got l.prog w K mg base "is_symbol_mark" 1 ["mark"] spMark := ⟨_, _, ok_mark F7, ke7, b_7, m na7⟩
  have g_is_symbol : Got l.prog w K mg base "is_symbol" 2 ["value"] spSymbol := ⟨_, _, ok_symbol F8 T g_is_symbol_mark, ke8, b_8, m na8⟩
  have g_is_sign : Got l.prog w K mg base "is_sign" 1 ["letters", "value"] spSign := ⟨_, _, ok_sign F9 T, ke9, b_9, m na9⟩
  have g_is_top : Got l.prog w K mg base "is_top" 3 ["value"] spTop := ⟨_, _, ok_top F10 T g_is_symbol, ke10, b_10, m na10⟩
  have g_is_move : Got l.prog w K mg base "is_move" 3 ["sign", "value"] spMove := ⟨_, _, ok_move F11 g_is_between, ke11, b_11, m na11⟩
  have g_is_deed : Got l.prog w K mg base "is_deed" 3 ["top", "deed", "symbol"] spDeed := ⟨_, _, ok_deed F12 T D g_is_symbol, ke12, b_12, m na12⟩
  have g_is_state : Got l.prog w K mg base "is_state" 3 ["states", "value"] spState := ⟨_, _, ok_state F13 g_is_between, ke13, b_13, m na13⟩
  have g_is_rule : Got l.prog w K mg base "is_rule" 4 ["letters", "states", "value"] (spRule K) := ⟨_, _, ok_rule F14 ⟨g_is_row, g_is_state, g_is_sign, g_is_top, g_is_move, g_is_deed, g_are_letters⟩, ke14, b_14, m na14⟩
  have g_check_arguments : Got l.prog w K mg base "check_arguments" 5 ["letters", "states", "rules", "yes"] (spCheck K) := ⟨_, _, ok_check F15 T ⟨g_is_alphabet, g_is_between, g_is_sequence, g_is_rule, g_is_state, ⟨_, m mS⟩, ⟨_, m mR⟩⟩, ke15, b_15, m na15⟩
  have g_symbols_of : Got l.prog w K mg base "symbols_of" 1 ["rules"] (spSymbols K) := ⟨_, _, ok_symbols F16 T, ke16, b_16, m na16⟩
  have g_acts_by_key : Got l.prog w K mg base "acts_by_key" 1 ["rules"] (spActs K) := ⟨_, _, ok_acts F17 T, ke17, b_17, m na17⟩
  have g_first_guess : Got l.prog w K mg base "first_guess" 1 ["acts"] spGuess := ⟨_, _, ok_guess F18 T, ke18, b_18, m na18⟩
  have MD : MDef l.prog w K mg base C fI e0 _ := ⟨MC, MM, m nC, ok_init FI T ⟨g_check_arguments, g_symbols_of, g_acts_by_key, g_first_guess⟩ MC, b4, ⟨ds3, v3, b3⟩, kb, fun H => .inr ⟨_, _, _, lE, rfl, rfl, (by show 0 ≤ sizeLine; decide), .nil⟩⟩
  have IC : C8.InsC K C := ⟨⟨c1, c2, c3, c4⟩, ic1, ic2, ic3, ic4, kit_selfC⟩
  have FQ := fun_mk (st := sEqM) lQ cQ me3
  have bQ := FQ.binds (ps := ["self", "other"]) fun _ _ _ _ _ _ us hl => match us, hl with | [_, _], _ => rfl
  have MD3 : MDef3 l.prog w K mg base C fI e0 fE _ _ := ⟨MD, me1, me2, ok_eqM FQ T MC IC (m nC), bQ⟩
  have WW : MW K mg := mw_of (m nW1) lW xw1 xw2 xw3
  have VV : MVS K w mg := mvs_of (m nV1) lV xlow nm1 nm2 nm3
  have g_rule_line : Got l.prog w K mg base "rule_line" 1 ["rule"] spLineP := ⟨_, _, ok_ruleline F19 T WW, ke19, b_19, m na19⟩
  have g_write : Got l.prog w K mg base "write_machine" 2 ["machine"] (spWrite K C) := ⟨_, _, ok_write F20 T MC g_rule_line, ke20, b_20, m na20⟩
  have g_lines_of : Got l.prog w K mg base "lines_of" 1 ["text"] spLinesOf := ⟨_, _, ok_linesof F21, ke21, b_21, m na21⟩
  have g_number : Got l.prog w K mg base "number_of" 1 ["word"] spNum := ⟨_, _, ok_number F22 T, ke22, b_22, m na22⟩
  have g_after : Got l.prog w K mg base "words_after" 1 ["lines", "index", "head"] (spAfter K) := ⟨_, _, ok_after F23 T, ke23, b_23, m na23⟩
  have g_rletters : Got l.prog w K mg base "read_letters" 3 ["lines"] (spRLetters K) := ⟨_, _, ok_rletters F24 T g_after g_is_alphabet, ke24, b_24, m na24⟩
  have g_rstates : Got l.prog w K mg base "read_states" 3 ["lines"] (spRStates K) := ⟨_, _, ok_rstates F25 T g_after g_number g_is_between ⟨_, m mS⟩, ke25, b_25, m na25⟩
  have g_ryes : Got l.prog w K mg base "read_yes" 4 ["lines", "states"] (spRYes K) := ⟨_, _, ok_ryes F26 T g_after g_number g_is_state, ke26, b_26, m na26⟩
  have g_topword : Got l.prog w K mg base "top_of_word" 1 ["word"] spTopWord := ⟨_, _, ok_topword F27, ke27, b_27, m na27⟩
  have g_said : Got l.prog w K mg base "said_of_words" 1 ["words"] (spSaid K) := ⟨_, _, ok_said F28 T, ke28, b_28, m na28⟩
  have g_ofline : Got l.prog w K mg base "rule_of_line" 2 ["line"] spOfLine := ⟨_, _, ok_ofline F29 T VV g_number g_topword g_said, ke29, b_29, m na29⟩
  have g_read : Got l.prog w K mg base "read_machine" 8 ["text"] (spRead K C) := ⟨_, _, ok_read F30 T ⟨g_lines_of, g_rletters, g_rstates, g_ryes, g_ofline, g_is_rule, ⟨_, m mR⟩⟩ MD, ke30, b_30, m na30⟩
  have g_same : Got l.prog w K mg base "_law_same" 5 ["told", "due"] (spSame K 3) := ⟨_, _, ok_same F32 T F31 b_31 (m na31) b_32 (m na32) 3, ke32, b_32, m na32⟩
  have g_cell : Got l.prog w K mg base "_law_cell" 1 ["script", "k"] (spCellA K) := ⟨_, _, ok_cell F33 T, ke33, b_33, m na33⟩
  have g_digits : Got l.prog w K mg base "_law_digits" 1 ["cell", "sizes"] (spDigits K) := ⟨_, _, ok_digits F34 T, ke34, b_34, m na34⟩
  have g_any : Got l.prog w K mg base "_law_any_letters" 2 ["cell"] spAny := ⟨_, _, ok_any F35 T g_digits, ke35, b_35, m na35⟩
  have g_sym : Got l.prog w K mg base "_law_symbol" 1 ["row"] (spSym K) := ⟨_, _, ok_sym F36, ke36, b_36, m na36⟩
  have g_pool : Got l.prog w K mg base "_law_pool" 2 ["cell"] spPool := ⟨_, _, ok_pool F37 T g_digits g_sym, ke37, b_37, m na37⟩
  have g_lrule : Got l.prog w K mg base "_law_rule" 2 ["cell", "letters", "states", "pool", "before"] spLRule := ⟨_, _, ok_lrule F38 T g_digits g_sym, ke38, b_38, m na38⟩
  have g_lrules : Got l.prog w K mg base "_law_rules" 3 ["script", "at", "many", "letters", "states", "pool"] (spLRules K) := ⟨_, _, ok_lrules F39 T g_cell g_lrule, ke39, b_39, m na39⟩
  have g_yes : Got l.prog w K mg base "_law_yes" 2 ["cell", "states"] spYes := ⟨_, _, ok_yes F40 T g_digits, ke40, b_40, m na40⟩
  have g_onceT : Got l.prog w K mg base "_law_each_once" 1 ["values"] (spOnceT K) := ⟨_, _, ok_onceT F41 T, ke41, b_41, m na41⟩
  have g_onceS : Got l.prog w K mg base "_law_each_once" 1 ["values"] (spOnceS K) := ⟨_, _, ok_onceS F41 T, ke41, b_41, m na41⟩
  have g_onceI : Got l.prog w K mg base "_law_each_once" 1 ["values"] (spOnceI K) := ⟨_, _, ok_onceI F41 T, ke41, b_41, m na41⟩
  have g_due : Got l.prog w K mg base "_law_due" 2 ["letters", "states", "rules", "yes"] (spDue K) := ⟨_, _, ok_due F42 T g_onceT g_onceS g_onceI, ke42, b_42, m na42⟩
  have g_fields : Got l.prog w K mg base "_law_fields" 1 ["machine"] (spFields K) := ⟨_, _, ok_fields F43, ke43, b_43, m na43⟩
  have g_line : Got l.prog w K mg base "_law_line" 1 ["rule"] spLineP := ⟨_, _, ok_lline F44 T, ke44, b_44, m na44⟩
  have g_heads : Got l.prog w K mg base "_law_heads" 1 ["letters", "states", "yes"] (spHeads K) := ⟨_, _, ok_heads F45 T, ke45, b_45, m na45⟩
  exact ok_law FL T ⟨g_cell, g_digits, g_any, g_pool, g_lrules, g_yes, g_due, g_fields, g_line, g_heads, g_same, g_write, g_read⟩ MD3
theorem walk {l : PySem.W.OpenLaw} {q : Program} {loose : List Str} {XP : (Str → Option Value) → Heap → Prop} {YP : World → Heap → Prop} {d : DefRec} {K : Params → PySem.W.Frag} (hn : l.most = some 63) (hdf : d.params.defaults = [])
    (hY : ∀ (w : World) (h : Heap), YP w h → (K w.params).In h)
    (F : ∀ (w : World) (mg : Str → Option Value) (fa : Addr) (h : Heap), (K w.params).In h → h.Ns mainGlobals mg → mg d.name = some (.ref fa) →
      ∃ fd : FuncData, (∀ (s : Shared) (u : Value), BindsTo s fd ⟨[u], []⟩ [("script", u)]) ∧ ∀ base : Heap, (K w.params).In base → base.Ns mainGlobals mg → FnOk l.prog w (K w.params) mg base CX0 9 fa fd ["script"] (spLaw (K w.params))) :
    PySem.W.WalkO q loose XP YP l.row.toRowW d [] (fun f vs => PySem.call f vs) :=
  L2.walk_of (n := 63) (k := 9) (x := "script") (CX := fun _ => CX0) (sp := fun w => spLaw (K w.params)) hn (by decide) hdf ⟨rfl, by decide, by decide⟩ hY F (fun _ _ a ns _ _ hS => ⟨a, ns, rfl, hS, fun _ => rfl⟩) fun _ _ _ _ _ z => z
end Mk
set_option Elab.async false
open PySem PySem.W PyProof.Rows
set_option maxRecDepth 100000 in
set_option maxHeartbeats 0 in
theorem PySem.Challenge.cw_pilerecall_k03_machine_notes_whole_holds : PySem.Challenge.rw_pilerecall_k03_machine_notes_whole.Holds := by
  w_on; o_law; k_head; (case hw => w_witness2)
  k_fill
  refine Mk.walk (l := PySem.Challenge.rw_pilerecall_k03_machine_notes_whole) rfl rfl (fun w h Y => PySem.W.kIn_of Y) ?F
  case F =>
    intro w mg fa h KX G hmg
    refine' Mk.all_mk KX G hmg ?na1 ?lk1 ?co1 ?ke1 ?na2 ?lk2 ?co2 ?ke2 ?na3 ?lk3 ?co3 ?ke3 ?na4 ?lk4 ?co4 ?ke4 ?na5 ?lk5 ?co5 ?ke5 ?na6 ?lk6 ?co6 ?ke6 ?na7 ?lk7 ?co7 ?ke7 ?na8 ?lk8 ?co8 ?ke8 ?na9 ?lk9 ?co9 ?ke9 ?na10 ?lk10 ?co10 ?ke10 ?na11 ?lk11 ?co11 ?ke11 ?na12 ?lk12 ?co12 ?ke12 ?na13 ?lk13 ?co13 ?ke13 ?na14 ?lk14 ?co14 ?ke14 ?na15 ?lk15 ?co15 ?ke15 ?na16 ?lk16 ?co16 ?ke16 ?na17 ?lk17 ?co17 ?ke17 ?na18 ?lk18 ?co18 ?ke18 ?na19 ?lk19 ?co19 ?ke19 ?na20 ?lk20 ?co20 ?ke20 ?na21 ?lk21 ?co21 ?ke21 ?na22 ?lk22 ?co22 ?ke22 ?na23 ?lk23 ?co23 ?ke23 ?na24 ?lk24 ?co24 ?ke24 ?na25 ?lk25 ?co25 ?ke25 ?na26 ?lk26 ?co26 ?ke26 ?na27 ?lk27 ?co27 ?ke27 ?na28 ?lk28 ?co28 ?ke28 ?na29 ?lk29 ?co29 ?ke29 ?na30 ?lk30 ?co30 ?ke30 ?na31 ?lk31 ?co31 ?ke31 ?na32 ?lk32 ?co32 ?ke32 ?na33 ?lk33 ?co33 ?ke33 ?na34 ?lk34 ?co34 ?ke34 ?na35 ?lk35 ?co35 ?ke35 ?na36 ?lk36 ?co36 ?ke36 ?na37 ?lk37 ?co37 ?ke37 ?na38 ?lk38 ?co38 ?ke38 ?na39 ?lk39 ?co39 ?ke39 ?na40 ?lk40 ?co40 ?ke40 ?na41 ?lk41 ?co41 ?ke41 ?na42 ?lk42 ?co42 ?ke42 ?na43 ?lk43 ?co43 ?ke43 ?na44 ?lk44 ?co44 ?ke44 ?na45 ?lk45 ?co45 ?ke45 ?naL ?lkL ?coL ?keL ?nC ?c1 ?c2 ?c3 ?c4 ?no0 ?no1 ?no2 ?no3 ?no4 ?no5 ?no6 ?mk1 ?mk2 ?mk3 ?mk4 ?lI ?cI ?kI ?lT ?lE ?nDD ?lD ?mS ?mR ?z_isinstance ?z_int ?z_bool ?z_str ?z_tuple ?z_list ?z_len ?z_range ?z_all ?z_sorted ?z_set ?z_abs ?me1 ?me2 ?me3 ?lQ ?cQ ?ic1 ?ic2 ?ic3 ?ic4 ?nW1 ?lW ?xw1 ?xw2 ?xw3 ?nV1 ?lV ?xlow ?nm1 ?nm2 ?nm3
    (case na1 => k_is)
    (case lk1 => k_is)
    (case co1 => k_is)
    (case ke1 => k_is)
    (case na2 => k_is)
    (case lk2 => k_is)
    (case co2 => k_is)
    (case ke2 => k_is)
    (case na3 => k_is)
    (case lk3 => k_is)
    (case co3 => k_is)
    (case ke3 => k_is)
    (case na4 => k_is)
    (case lk4 => k_is)
    (case co4 => k_is)
    (case ke4 => k_is)
    (case na5 => k_is)
    (case lk5 => k_is)
    (case co5 => k_is)
    (case ke5 => k_is)
    (case na6 => k_is)
    (case lk6 => k_is)
    (case co6 => k_is)
    (case ke6 => k_is)
    (case na7 => k_is)
    (case lk7 => k_is)
    (case co7 => k_is)
    (case ke7 => k_is)
    (case na8 => k_is)
    (case lk8 => k_is)
    (case co8 => k_is)
    (case ke8 => k_is)
    (case na9 => k_is)
    (case lk9 => k_is)
    (case co9 => k_is)
    (case ke9 => k_is)
    (case na10 => k_is)
    (case lk10 => k_is)
    (case co10 => k_is)
    (case ke10 => k_is)
    (case na11 => k_is)
    (case lk11 => k_is)
    (case co11 => k_is)
    (case ke11 => k_is)
    (case na12 => k_is)
    (case lk12 => k_is)
    (case co12 => k_is)
    (case ke12 => k_is)
    (case na13 => k_is)
    (case lk13 => k_is)
    (case co13 => k_is)
    (case ke13 => k_is)
    (case na14 => k_is)
    (case lk14 => k_is)
    (case co14 => k_is)
    (case ke14 => k_is)
    (case na15 => k_is)
    (case lk15 => k_is)
    (case co15 => k_is)
    (case ke15 => k_is)
    (case na16 => k_is)
    (case lk16 => k_is)
    (case co16 => k_is)
    (case ke16 => k_is)
    (case na17 => k_is)
    (case lk17 => k_is)
    (case co17 => k_is)
    (case ke17 => k_is)
    (case na18 => k_is)
    (case lk18 => k_is)
    (case co18 => k_is)
    (case ke18 => k_is)
    (case na19 => k_is)
    (case lk19 => k_is)
    (case co19 => k_is)
    (case ke19 => k_is)
    (case na20 => k_is)
    (case lk20 => k_is)
    (case co20 => k_is)
    (case ke20 => k_is)
    (case na21 => k_is)
    (case lk21 => k_is)
    (case co21 => k_is)
    (case ke21 => k_is)
    (case na22 => k_is)
    (case lk22 => k_is)
    (case co22 => k_is)
    (case ke22 => k_is)
    (case na23 => k_is)
    (case lk23 => k_is)
    (case co23 => k_is)
    (case ke23 => k_is)
    (case na24 => k_is)
    (case lk24 => k_is)
    (case co24 => k_is)
    (case ke24 => k_is)
    (case na25 => k_is)
    (case lk25 => k_is)
    (case co25 => k_is)
    (case ke25 => k_is)
    (case na26 => k_is)
    (case lk26 => k_is)
    (case co26 => k_is)
    (case ke26 => k_is)
    (case na27 => k_is)
    (case lk27 => k_is)
    (case co27 => k_is)
    (case ke27 => k_is)
    (case na28 => k_is)
    (case lk28 => k_is)
    (case co28 => k_is)
    (case ke28 => k_is)
    (case na29 => k_is)
    (case lk29 => k_is)
    (case co29 => k_is)
    (case ke29 => k_is)
    (case na30 => k_is)
    (case lk30 => k_is)
    (case co30 => k_is)
    (case ke30 => k_is)
    (case na31 => k_is)
    (case lk31 => k_is)
    (case co31 => k_is)
    (case ke31 => k_is)
    (case na32 => k_is)
    (case lk32 => k_is)
    (case co32 => k_is)
    (case ke32 => k_is)
    (case na33 => k_is)
    (case lk33 => k_is)
    (case co33 => k_is)
    (case ke33 => k_is)
    (case na34 => k_is)
    (case lk34 => k_is)
    (case co34 => k_is)
    (case ke34 => k_is)
    (case na35 => k_is)
    (case lk35 => k_is)
    (case co35 => k_is)
    (case ke35 => k_is)
    (case na36 => k_is)
    (case lk36 => k_is)
    (case co36 => k_is)
    (case ke36 => k_is)
    (case na37 => k_is)
    (case lk37 => k_is)
    (case co37 => k_is)
    (case ke37 => k_is)
    (case na38 => k_is)
    (case lk38 => k_is)
    (case co38 => k_is)
    (case ke38 => k_is)
    (case na39 => k_is)
    (case lk39 => k_is)
    (case co39 => k_is)
    (case ke39 => k_is)
    (case na40 => k_is)
    (case lk40 => k_is)
    (case co40 => k_is)
    (case ke40 => k_is)
    (case na41 => k_is)
    (case lk41 => k_is)
    (case co41 => k_is)
    (case ke41 => k_is)
    (case na42 => k_is)
    (case lk42 => k_is)
    (case co42 => k_is)
    (case ke42 => k_is)
    (case na43 => k_is)
    (case lk43 => k_is)
    (case co43 => k_is)
    (case ke43 => k_is)
    (case na44 => k_is)
    (case lk44 => k_is)
    (case co44 => k_is)
    (case ke44 => k_is)
    (case na45 => k_is)
    (case lk45 => k_is)
    (case co45 => k_is)
    (case ke45 => k_is)
    (case naL => k_is)
    (case lkL => k_is)
    (case coL => k_is)
    (case keL => k_is)
    (case nC => k_is)
    (case c1 => k_is)
    (case c2 => k_is)
    (case c3 => k_is)
    (case c4 => k_is)
    (case no0 => k_is)
    (case no1 => k_is)
    (case no2 => k_is)
    (case no3 => k_is)
    (case no4 => k_is)
    (case no5 => k_is)
    (case no6 => k_is)
    (case mk1 => k_is)
    (case mk2 => k_is)
    (case mk3 => k_is)
    (case mk4 => k_is)
    (case lI => k_is)
    (case cI => k_is)
    (case kI => k_is)
    (case lT => k_is)
    (case lE => k_is)
    (case nDD => k_is)
    (case lD => k_is)
    (case mS => k_is)
    (case mR => k_is)
    (case z_isinstance => k_is)
    (case z_int => k_is)
    (case z_bool => k_is)
    (case z_str => k_is)
    (case z_tuple => k_is)
    (case z_list => k_is)
    (case z_len => k_is)
    (case z_range => k_is)
    (case z_all => k_is)
    (case z_sorted => k_is)
    (case z_set => k_is)
    (case z_abs => k_is)
    (case me1 => k_is)
    (case me2 => k_is)
    (case me3 => k_is)
    (case lQ => k_is)
    (case cQ => k_is)
    (case ic1 => k_is)
    (case ic2 => k_is)
    (case ic3 => k_is)
    (case ic4 => k_is)
    (case nW1 => k_is)
    (case lW => k_is)
    (case xw1 => first | exact rfl | decide +kernel)
    (case xw2 => first | exact rfl | decide +kernel)
    (case xw3 => first | exact rfl | decide +kernel)
    (case nV1 => k_is)
    (case lV => k_is)
    (case xlow => first | exact rfl | decide +kernel)
    (case nm1 => k_is)
    (case nm2 => k_is)
    (case nm3 => k_is)
